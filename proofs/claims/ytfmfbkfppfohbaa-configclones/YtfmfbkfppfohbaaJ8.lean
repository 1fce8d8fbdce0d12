/-
  Lists of lists in memory of a call's own: how they are read, what stays behind a store elsewhere, and what a loop that writes to them holds. Conditions as each theorem lists them.
  Contracts of config.copiedLists. Conditions as each theorem lists them.
  Plain facts on blocks that a statement makes in whatever order and fills afterwards. No conditions.
  Contract of package config: Clone. Conditions as the theorem lists them.
  What stays behind an append to a row of another type; a configuration that is copied piece by piece. Conditions as each theorem lists them.
-/
import Derived.Test.YtfmfbkfppfohbaaJ7
import Derived.Deep.MidRow
import Derived.Deep.RegionHeld3
import Derived.Deep.DeepCutAuto
namespace Go.Proofs.Hd
open Go.RowKit
section
variable {α : Type} {enc : α → List Value} {k : Nat}
theorem fm_len (hk : ∀ x, (enc x).length = k) (L : List α) : (L.flatMap enc).length = L.length * k := by
  induction L with
  | nil => simp
  | cons x L ih => rw [List.flatMap_cons, List.length_append, hk, ih, List.length_cons, Nat.add_mul]; omega
theorem fm_get (hk : ∀ x, (enc x).length = k) {L : List α} {i j : Nat} {x : α} (h : L[i]? = some x) (hj : j < k) : (L.flatMap enc)[i * k + j]? = (enc x)[j]? := by
  induction L generalizing i with
  | nil => simp at h
  | cons c L ih =>
    rw [List.flatMap_cons]
    cases i with
    | zero =>
      simp only [List.getElem?_cons_zero, Option.some.injEq] at h
      subst h
      rw [List.getElem?_append_left (by rw [hk]; omega)]
      simp
    | succ i =>
      rw [List.getElem?_cons_succ] at h
      rw [List.getElem?_append_right (by rw [hk, Nat.add_mul]; omega), hk]
      rw [show (i + 1) * k + j - k = i * k + j by rw [Nat.add_mul]; omega]
      exact ih h
theorem fm_at (hk : ∀ x, (enc x).length = k) (h0 : 0 < k) {L : List α} {j : Nat} {u : Value} (h : (L.flatMap enc)[j]? = some u) : ∃ x, L[j / k]? = some x ∧ (enc x)[j % k]? = some u := by
  have hl := (List.getElem?_eq_some_iff.1 h).1
  rw [fm_len hk] at hl
  have hd : j / k < L.length := by rw [Nat.div_lt_iff_lt_mul h0]; exact hl
  have hx : L[j / k]? = some L[j / k] := List.getElem?_eq_getElem hd
  refine ⟨_, hx, ?_⟩
  rw [← fm_get hk hx (Nat.mod_lt j h0), Nat.mul_comm, Nat.div_add_mod]
  exact h
theorem fm_one (h1 : ∀ x, ∀ u ∈ enc x, u.oneCell' = true) (L : List α) : ∀ u ∈ L.flatMap enc, u.oneCell' = true := fun u hu => by
  obtain ⟨x, _, hx⟩ := List.mem_flatMap.1 hu
  exact h1 x u hx
/-- v is a slice that reads as the elements L, of k cells each. -/
def RdE (w : World) (k : Nat) (enc : α → List Value) (v : Value) (L : List α) : Prop := ∃ A cap, v = .slice A L.length cap ∧ (L ≠ [] → ∃ b o, A = some ⟨b, o, none⟩ ∧ b < w.heap.size ∧ ∀ i x, L[i]? = some x → ∀ j u, (enc x)[j]? = some u → w.cell? ⟨b, o + i * k + j, none⟩ = some u)
theorem RdE.src {w : World} {v : Value} {L : List α} (h : RdE w k enc v L) (hk : ∀ x, (enc x).length = k) (h0 : 0 < k) (h1 : ∀ x, ∀ u ∈ enc x, u.oneCell' = true) : Src w k v L.length (L.flatMap enc) := by
  obtain ⟨A, cap, rfl, h⟩ := h
  refine ⟨fm_len hk L, fm_one h1 L, ?_⟩
  cases A with
  | none =>
    refine .inl ⟨?_, cap, ?_⟩
    · cases L with
      | nil => rfl
      | cons x L => obtain ⟨b, o, e, _⟩ := h (by simp); cases e
    · cases L with
      | nil => rfl
      | cons x L => obtain ⟨b, o, e, _⟩ := h (by simp); cases e
  | some a =>
    refine .inr ⟨a, cap, rfl, fun j u hj => ?_⟩
    obtain ⟨x, hx, hu⟩ := fm_at hk h0 hj
    obtain ⟨b, o, e, _, hc⟩ := h (by rintro rfl; simp at hx)
    injection e with e
    subst e
    have := hc _ x hx _ u hu
    have hd := Nat.div_add_mod j k
    rw [show o + j / k * k + j % k = o + j by rw [Nat.mul_comm] at hd; omega] at this
    have e2 : (⟨b, o, none⟩ : Addr).add j = ⟨b, o + j, none⟩ := by unfold Addr.add; by_cases h0 : j = 0 <;> simp [h0]
    rw [e2]
    exact this
theorem own_rde {w : World} {base : Nat} {t : TypeId} {v : Value} {L : List α} (h : w.ownsRow base t k v L.length (L.flatMap enc)) (hk : ∀ x, (enc x).length = k) : RdE w k enc v L := by
  rcases h.2 with ⟨rfl, hn⟩ | ⟨g, cap, cur, rfl, hb, hg, _⟩
  · obtain rfl : L = [] := List.eq_nil_of_length_eq_zero hn
    exact ⟨none, 0, rfl, fun h => absurd rfl h⟩
  · refine ⟨_, cap, rfl, fun _ => ⟨g, 0, rfl, (Array.getElem?_eq_some_iff.1 hg).1, fun i x hx j u hu => ?_⟩⟩
    have hil := (List.getElem?_eq_some_iff.1 hx).1
    have hjk : j < k := by have := (List.getElem?_eq_some_iff.1 hu).1; rwa [hk] at this
    have hlt : i * k + j < L.length * k := by
      have : (i + 1) * k ≤ L.length * k := Nat.mul_le_mul_right k hil
      rw [Nat.add_mul] at this
      omega
    rw [Nat.zero_add, h.cellAt (i * k + j) hlt, fm_get hk hx hjk]
    exact hu
theorem own_len {w : World} {base : Nat} {t : TypeId} {v : Value} {n : Nat} {xs : List Value} (h : w.ownsRow base t k v n xs) : n ≤ maxLen := by
  rcases h.2 with ⟨_, rfl⟩ | ⟨g, cap, cur, _, _, _, h1, h2, _⟩
  · exact Nat.zero_le _
  · exact Nat.le_trans h1 h2
end
theorem own_sl {w : World} {base : Nat} {t : TypeId} {size n : Nat} {v : Value} {xs : List Value} (h : w.ownsRow base t size v n xs) : ∃ A cap, v = .slice A n cap ∧ (0 < n → ∃ g, A = some ⟨g, 0, none⟩) := by
  rcases h.2 with ⟨rfl, rfl⟩ | ⟨g, cap, cur, rfl, _⟩
  · exact ⟨none, 0, rfl, fun h => by omega⟩
  · exact ⟨_, cap, rfl, fun _ => ⟨g, rfl⟩⟩
theorem own_tb {w : World} {base g : Nat} {t : TypeId} {size n cap : Nat} {xs : List Value} (h : w.ownsRow base t size (.slice (some ⟨g, 0, none⟩) n cap) n xs) : TB w g t ∧ base ≤ g ∧ g < w.heap.size := by
  rcases h.2 with ⟨h', _⟩ | ⟨g', cap', cur, h', hb, hg, _⟩
  · simp at h'
  · simp only [Value.slice.injEq, Option.some.injEq, Addr.mk.injEq, and_true, true_and] at h'
    obtain ⟨rfl, rfl⟩ := h'
    exact ⟨⟨cur, (0, 0), hg⟩, hb, (Array.getElem?_eq_some_iff.1 hg).1⟩
theorem Src.on {w w' : World} {k n : Nat} {v : Value} {news : List Value} (h : Src w k v n news) (hb : Below w.heap.size w w') : Src w' k v n news := by
  obtain ⟨h1, h2, h3 | ⟨ad, c, e, hc⟩⟩ := h
  · exact ⟨h1, h2, .inl h3⟩
  · exact ⟨h1, h2, .inr ⟨ad, c, e, fun j u hj => on_some hb (hc j u hj)⟩⟩
/-- Pairs and ways as cells. -/
def encA (x : Int × Int) : List Value := [.int .i64 x.1, .int .i64 x.2]
def Wa.cs (x : Wa) : List Value := [.int .i64 x.frm, .int .i64 x.too, .int .i64 x.via]
theorem one_pt (x : Pt) : ∀ u ∈ x.cs, u.oneCell' = true := by intro u hu; simp [Pt.cs] at hu; rcases hu with rfl | rfl | rfl | rfl | rfl <;> rfl
theorem one_rl (x : Rl) : ∀ u ∈ x.cs, u.oneCell' = true := by intro u hu; simp [Rl.cs] at hu; rcases hu with rfl | rfl | rfl | rfl | rfl | rfl | rfl | rfl | rfl | rfl | rfl | rfl <;> rfl
theorem one_a (x : Int × Int) : ∀ u ∈ encA x, u.oneCell' = true := by intro u hu; simp [encA] at hu; rcases hu with rfl | rfl <;> rfl
theorem one_w (x : Wa) : ∀ u ∈ x.cs, u.oneCell' = true := by intro u hu; simp [Wa.cs] at hu; rcases hu with rfl | rfl | rfl <;> rfl
theorem len_pt (x : Pt) : x.cs.length = 5 := rfl
theorem len_rl (x : Rl) : x.cs.length = 12 := rfl
theorem len_a (x : Int × Int) : (encA x).length = 2 := rfl
theorem len_w (x : Wa) : x.cs.length = 3 := rfl
theorem Ps.rde {w : World} {v : Value} {L : List Pt} (h : Ps w v L) : RdE w 5 Pt.cs v L := by
  obtain ⟨A, cap, rfl, _, h⟩ := h
  refine ⟨A, cap, rfl, fun hne => ?_⟩
  obtain ⟨b, o, e, hb, hc⟩ := h hne
  refine ⟨b, o, e, hb, fun i x hx j u hu => ?_⟩
  obtain ⟨c0, c1, c2, c3, c4⟩ := hc i x hx
  match j, hu with
  | 0, hu => injection hu with hu; subst hu; exact c0
  | 1, hu => injection hu with hu; subst hu; exact c1
  | 2, hu => injection hu with hu; subst hu; exact c2
  | 3, hu => injection hu with hu; subst hu; exact c3
  | 4, hu => injection hu with hu; subst hu; exact c4
theorem RdE.ps {w : World} {v : Value} {L : List Pt} (h : RdE w 5 Pt.cs v L) (hl : L.length ≤ maxLen) : Ps w v L := by
  obtain ⟨A, cap, rfl, h⟩ := h
  refine ⟨A, cap, rfl, hl, fun hne => ?_⟩
  obtain ⟨b, o, e, hb, hc⟩ := h hne
  exact ⟨b, o, e, hb, fun i x hx => ⟨hc i x hx 0 _ rfl, hc i x hx 1 _ rfl, hc i x hx 2 _ rfl, hc i x hx 3 _ rfl, hc i x hx 4 _ rfl⟩⟩
theorem Pe.rde {w : World} {v : Value} {L : List (Int × Int)} (h : Pe w v L) : RdE w 2 encA v L := by
  obtain ⟨A, cap, rfl, _, h⟩ := h
  refine ⟨A, cap, rfl, fun hne => ?_⟩
  obtain ⟨b, o, e, hb, hc⟩ := h hne
  refine ⟨b, o, e, hb, fun i x hx j u hu => ?_⟩
  obtain ⟨c0, c1⟩ := hc i x hx
  match j, hu with
  | 0, hu => injection hu with hu; subst hu; exact c0
  | 1, hu => injection hu with hu; subst hu; exact c1
theorem RdE.pe {w : World} {v : Value} {L : List (Int × Int)} (h : RdE w 2 encA v L) (hl : L.length ≤ maxLen) : Pe w v L := by
  obtain ⟨A, cap, rfl, h⟩ := h
  refine ⟨A, cap, rfl, hl, fun hne => ?_⟩
  obtain ⟨b, o, e, hb, hc⟩ := h hne
  exact ⟨b, o, e, hb, fun i x hx => ⟨hc i x hx 0 _ rfl, hc i x hx 1 _ rfl⟩⟩
theorem Wy.rde {w : World} {v : Value} {L : List Wa} (h : Wy w v L) : RdE w 3 Wa.cs v L := by
  obtain ⟨A, cap, rfl, _, h⟩ := h
  refine ⟨A, cap, rfl, fun hne => ?_⟩
  obtain ⟨b, o, e, hb, hc⟩ := h hne
  refine ⟨b, o, e, hb, fun i x hx j u hu => ?_⟩
  obtain ⟨c0, c1, c2⟩ := hc i x hx
  match j, hu with
  | 0, hu => injection hu with hu; subst hu; exact c0
  | 1, hu => injection hu with hu; subst hu; exact c1
  | 2, hu => injection hu with hu; subst hu; exact c2
theorem RdE.wy {w : World} {v : Value} {L : List Wa} (h : RdE w 3 Wa.cs v L) (hl : L.length ≤ maxLen) : Wy w v L := by
  obtain ⟨A, cap, rfl, h⟩ := h
  refine ⟨A, cap, rfl, hl, fun hne => ?_⟩
  obtain ⟨b, o, e, hb, hc⟩ := h hne
  exact ⟨b, o, e, hb, fun i x hx => ⟨hc i x hx 0 _ rfl, hc i x hx 1 _ rfl, hc i x hx 2 _ rfl⟩⟩
theorem Ru.rde {w : World} {v : Value} {L : List Rl} (h : Ru w v L) : RdE w 12 Rl.cs v L := by
  obtain ⟨A, cap, rfl, h2⟩ := h.form
  refine ⟨A, cap, rfl, fun hne => ?_⟩
  obtain ⟨b, o, e, hb, hc⟩ := h2 hne
  exact ⟨b, o, e, hb, fun i x hx j u hu => hc i x hx j u hu⟩
theorem RdE.ru {w : World} {v : Value} {L : List Rl} (h : RdE w 12 Rl.cs v L) : Ru w v L := by
  obtain ⟨A, cap, rfl, h⟩ := h
  by_cases hne : L = []
  · subst hne; exact .inl ⟨rfl, A, cap, rfl⟩
  · obtain ⟨b, o, rfl, hb, hc⟩ := h hne
    exact .inr ⟨b, o, cap, rfl, hb, fun i x hx j u hu => hc i x hx j u hu⟩
section
variable {β : Type}
/-- A list of headers of the call's own; each reads as R says. -/
def OwG (te : TypeId) (R : World → Value → β → Prop) (w : World) (B : Nat) (v : Value) (T : List β) : Prop := ∃ hs, w.ownsRow B te 1 v T.length hs ∧ ∀ (i : Nat) (x : β), T[i]? = some x → ∃ s, hs[i]? = some s ∧ R w s x
/-- The same, where only the first k headers are new. -/
def ClG (te : TypeId) (R : World → Value → β → Prop) (w : World) (B : Nat) (v : Value) (T : List β) (h0 : List Value) (k : Nat) : Prop := ∃ hs, w.ownsRow B te 1 v T.length hs ∧ (∀ (i : Nat) (x : β), i < k → T[i]? = some x → ∃ s, hs[i]? = some s ∧ R w s x) ∧ ∀ i, k ≤ i → hs[i]? = h0[i]?
theorem ClG.start {te : TypeId} {R : World → Value → β → Prop} {w : World} {B : Nat} {v : Value} {T : List β} {h0 : List Value} (h : w.ownsRow B te 1 v T.length h0) : ClG te R w B v T h0 0 := ⟨h0, h, fun _ _ hi => absurd hi (Nat.not_lt_zero _), fun _ _ => rfl⟩
theorem ClG.done {te : TypeId} {R : World → Value → β → Prop} {w : World} {B : Nat} {v : Value} {T : List β} {h0 : List Value} {k : Nat} (h : ClG te R w B v T h0 k) (hk : T.length ≤ k) : OwG te R w B v T := by
  obtain ⟨hs, h1, h2, _⟩ := h
  exact ⟨hs, h1, fun i x hx => h2 i x (by have := (List.getElem?_eq_some_iff.1 hx).1; omega) hx⟩
theorem ClG.on {te : TypeId} {R : World → Value → β → Prop} (hR : ∀ w w' s x, Below w.heap.size w w' → R w s x → R w' s x) {w w' : World} {B : Nat} {v : Value} {T : List β} {h0 : List Value} {k : Nat} (h : ClG te R w B v T h0 k) (hb : Below w.heap.size w w') : ClG te R w' B v T h0 k := by
  obtain ⟨hs, h1, h2, h3⟩ := h
  refine ⟨hs, own_on h1 hb, fun i x hi hx => ?_, h3⟩
  obtain ⟨s, e, hr⟩ := h2 i x hi hx
  exact ⟨s, e, hR _ _ _ _ hb hr⟩
theorem OwG.on {te : TypeId} {R : World → Value → β → Prop} (hR : ∀ w w' s x, Below w.heap.size w w' → R w s x → R w' s x) {w w' : World} {B : Nat} {v : Value} {T : List β} (h : OwG te R w B v T) (hb : Below w.heap.size w w') : OwG te R w' B v T := by
  obtain ⟨hs, h1, h2⟩ := h
  refine ⟨hs, own_on h1 hb, fun i x hx => ?_⟩
  obtain ⟨s, e, hr⟩ := h2 i x hx
  exact ⟨s, e, hR _ _ _ _ hb hr⟩
theorem OwG.far {te t3 : TypeId} (hne : te ≠ t3) {R : World → Value → β → Prop} (hR : ∀ (w : World) (g i : Nat) (u s : Value) (x : β), TB w g t3 → R w s x → R (w.setCell ⟨g, i, none⟩ u) s x) {w : World} {g i B : Nat} {u v : Value} {T : List β} (hg : TB w g t3) (h : OwG te R w B v T) : OwG te R (w.setCell ⟨g, i, none⟩ u) B v T := by
  obtain ⟨hs, h1, h2⟩ := h
  refine ⟨hs, ownsRow_setCell_other h1 (fun e => own_apartT h1 hg hne e.symm) u, fun j x hx => ?_⟩
  obtain ⟨s, e, hr⟩ := h2 j x hx
  exact ⟨s, e, hR _ _ _ _ _ _ hg hr⟩
theorem ClG.set {te : TypeId} {R : World → Value → β → Prop} (hR : ∀ (w : World) (g i : Nat) (u s : Value) (x : β), TB w g te → R w s x → R (w.setCell ⟨g, i, none⟩ u) s x) {w : World} {B g c k : Nat} {s : Value} {T : List β} {h0 : List Value} {x : β} (h : ClG te R w B (.slice (some ⟨g, 0, none⟩) T.length c) T h0 k) (hx : T[k]? = some x) (hr : R w s x) :
    ClG te R (w.setCell ⟨g, k, none⟩ s) B (.slice (some ⟨g, 0, none⟩) T.length c) T h0 (k + 1) := by
  obtain ⟨hs, h1, h2, h3⟩ := h
  have hg := (own_tb h1).1
  have hkl := (List.getElem?_eq_some_iff.1 hx).1
  have hl : hs.length = T.length := by rw [h1.1, Nat.mul_one]
  refine ⟨hs.set k s, (h1.stored k s).1, fun i y hi hy => ?_, fun i hi => ?_⟩
  · by_cases e : i = k
    · subst e
      rw [hx] at hy
      injection hy with hy
      subst hy
      exact ⟨s, by rw [List.getElem?_set_self (by omega)], hR _ _ _ _ _ _ hg hr⟩
    · obtain ⟨s', e', hr'⟩ := h2 i y (by omega) hy
      exact ⟨s', by rw [List.getElem?_set_ne (fun e2 => e e2.symm)]; exact e', hR _ _ _ _ _ _ hg hr'⟩
  · rw [List.getElem?_set_ne (by omega)]
    exact h3 i (by omega)
theorem ClG.cellAt {te : TypeId} {R : World → Value → β → Prop} {w : World} {B g c k : Nat} {T : List β} {h0 : List Value} (h : ClG te R w B (.slice (some ⟨g, 0, none⟩) T.length c) T h0 k) (hk : k < T.length) : w.cell? ⟨g, k, none⟩ = h0[k]? ∧ w.frozen? ⟨g, k, none⟩ = false := by
  obtain ⟨hs, h1, h2, h3⟩ := h
  exact ⟨(h1.cellAt k (by omega)).trans (h3 k (Nat.le_refl _)), h1.frozenAt k⟩
end
/-- Ports, rules of the call's own. -/
def O1P (B : Nat) (w : World) (s : Value) (L : List Pt) : Prop := w.ownsRow B 65 5 s L.length (L.flatMap Pt.cs)
def O1R (B : Nat) (w : World) (s : Value) (L : List Rl) : Prop := w.ownsRow B 62 12 s L.length (L.flatMap Rl.cs)
def O2P (B : Nat) (w : World) (v : Value) (T : List (List Pt)) : Prop := OwG 63 (O1P B) w B v T
def O2R (B : Nat) (w : World) (v : Value) (T : List (List Rl)) : Prop := OwG 58 (O1R B) w B v T
def O3R (B : Nat) (w : World) (v : Value) (T : List (List (List Rl))) : Prop := OwG 57 (O2R B) w B v T
theorem O1P.on (B : Nat) : ∀ w w' s x, Below w.heap.size w w' → O1P B w s x → O1P B w' s x := fun _ _ _ _ hb h => own_on h hb
theorem O1R.on (B : Nat) : ∀ w w' s x, Below w.heap.size w w' → O1R B w s x → O1R B w' s x := fun _ _ _ _ hb h => own_on h hb
theorem O2P.on (B : Nat) : ∀ w w' s x, Below w.heap.size w w' → O2P B w s x → O2P B w' s x := fun _ _ _ _ hb h => OwG.on (O1P.on B) h hb
theorem O2R.on (B : Nat) : ∀ w w' s x, Below w.heap.size w w' → O2R B w s x → O2R B w' s x := fun _ _ _ _ hb h => OwG.on (O1R.on B) h hb
theorem O3R.on (B : Nat) : ∀ w w' s x, Below w.heap.size w w' → O3R B w s x → O3R B w' s x := fun _ _ _ _ hb h => OwG.on (O2R.on B) h hb
theorem O1P.far {B : Nat} {t3 : TypeId} (hne : 65 ≠ t3) : ∀ (w : World) (g i : Nat) (u s : Value) (x : List Pt), TB w g t3 → O1P B w s x → O1P B (w.setCell ⟨g, i, none⟩ u) s x := fun _ _ _ u _ _ hg h => ownsRow_setCell_other h (fun e => own_apartT h hg hne e.symm) u
theorem O1R.far {B : Nat} {t3 : TypeId} (hne : 62 ≠ t3) : ∀ (w : World) (g i : Nat) (u s : Value) (x : List Rl), TB w g t3 → O1R B w s x → O1R B (w.setCell ⟨g, i, none⟩ u) s x := fun _ _ _ u _ _ hg h => ownsRow_setCell_other h (fun e => own_apartT h hg hne e.symm) u
theorem O2R.far {B : Nat} {t3 : TypeId} (hne : 62 ≠ t3) (hne2 : 58 ≠ t3) : ∀ (w : World) (g i : Nat) (u s : Value) (x : List (List Rl)), TB w g t3 → O2R B w s x → O2R B (w.setCell ⟨g, i, none⟩ u) s x := fun _ _ _ _ _ _ hg h => OwG.far hne2 (O1R.far hne) hg h
theorem O1P.mono {B B' : Nat} (hB : B' ≤ B) {w : World} {s : Value} {L : List Pt} (h : O1P B w s L) : O1P B' w s L := World.ownsRow.mono h hB
theorem O1R.mono {B B' : Nat} (hB : B' ≤ B) {w : World} {s : Value} {L : List Rl} (h : O1R B w s L) : O1R B' w s L := World.ownsRow.mono h hB
theorem O2P.mono {B B' : Nat} (hB : B' ≤ B) {w : World} {s : Value} {T : List (List Pt)} (h : O2P B w s T) : O2P B' w s T := by
  obtain ⟨hs, h1, h2⟩ := h
  refine ⟨hs, World.ownsRow.mono h1 hB, fun i x hx => ?_⟩
  obtain ⟨s, e, hr⟩ := h2 i x hx
  exact ⟨s, e, O1P.mono hB hr⟩
theorem O2R.mono {B B' : Nat} (hB : B' ≤ B) {w : World} {s : Value} {T : List (List Rl)} (h : O2R B w s T) : O2R B' w s T := by
  obtain ⟨hs, h1, h2⟩ := h
  refine ⟨hs, World.ownsRow.mono h1 hB, fun i x hx => ?_⟩
  obtain ⟨s, e, hr⟩ := h2 i x hx
  exact ⟨s, e, O1R.mono hB hr⟩
theorem O3R.mono {B B' : Nat} (hB : B' ≤ B) {w : World} {s : Value} {T : List (List (List Rl))} (h : O3R B w s T) : O3R B' w s T := by
  obtain ⟨hs, h1, h2⟩ := h
  refine ⟨hs, World.ownsRow.mono h1 hB, fun i x hx => ?_⟩
  obtain ⟨s, e, hr⟩ := h2 i x hx
  exact ⟨s, e, O2R.mono hB hr⟩
theorem OwG.rd {β : Type} {te : TypeId} {R : World → Value → β → Prop} {w : World} {B : Nat} {v : Value} {T : List β} (h : OwG te R w B v T) : ∃ A cap, v = .slice A T.length cap ∧ T.length ≤ maxLen ∧ (T ≠ [] → ∃ b o, A = some ⟨b, o, none⟩ ∧ b < w.heap.size ∧ ∀ (k : Nat) (x : β), T[k]? = some x → ∃ s, w.cell? ⟨b, o + k, none⟩ = some s ∧ R w s x) := by
  obtain ⟨hs, h1, h2⟩ := h
  have hm := own_len h1
  obtain ⟨A, cap, rfl, hA⟩ := own_sl h1
  refine ⟨A, cap, rfl, hm, fun hne => ?_⟩
  obtain ⟨g, rfl⟩ := hA (List.length_pos_iff.2 hne)
  refine ⟨g, 0, rfl, (own_tb h1).2.2, fun k x hx => ?_⟩
  obtain ⟨s, e, hr⟩ := h2 k x hx
  have hkl := (List.getElem?_eq_some_iff.1 hx).1
  exact ⟨s, by rw [Nat.zero_add, h1.cellAt k (by omega)]; exact e, hr⟩
theorem O1P.ps {B : Nat} {w : World} {s : Value} {L : List Pt} (h : O1P B w s L) : Ps w s L := (own_rde h len_pt).ps (own_len h)
theorem O1R.ru {B : Nat} {w : World} {s : Value} {L : List Rl} (h : O1R B w s L) : Ru w s L := (own_rde h len_rl).ru
theorem O2P.rd {B : Nat} {w : World} {v : Value} {T : List (List Pt)} (h : O2P B w v T) : PsT w v T := by
  obtain ⟨A, cap, e, hm, hc⟩ := OwG.rd h
  refine ⟨A, cap, e, hm, fun hne => ?_⟩
  obtain ⟨b, o, e2, hb, hk⟩ := hc hne
  refine ⟨b, o, e2, hb, fun k L hL => ?_⟩
  obtain ⟨s, h1, h2⟩ := hk k L hL
  exact ⟨s, h1, h2.ps⟩
theorem O2R.rd {B : Nat} {w : World} {v : Value} {T : List (List Rl)} (h : O2R B w v T) : RuT w v T := by
  obtain ⟨A, cap, e, hm, hc⟩ := OwG.rd h
  refine ⟨A, cap, e, hm, fun L hL => ?_, fun hne => ?_⟩
  · obtain ⟨i, hi⟩ := List.getElem?_of_mem hL
    obtain ⟨b, o, e2, hb, hk⟩ := hc (by rintro rfl; simp at hi)
    obtain ⟨s, h1, h2⟩ := hk i L hi
    exact own_len h2
  · obtain ⟨b, o, e2, hb, hk⟩ := hc hne
    refine ⟨b, o, e2, hb, fun k L hL => ?_⟩
    obtain ⟨s, h1, h2⟩ := hk k L hL
    exact ⟨s, h1, h2.ru⟩
theorem O3R.rd {B : Nat} {w : World} {v : Value} {T : List (List (List Rl))} (h : O3R B w v T) : RuQ w v T := by
  obtain ⟨A, cap, e, hm, hc⟩ := OwG.rd h
  refine ⟨A, cap, e, hm, fun hne => ?_⟩
  obtain ⟨b, o, e2, hb, hk⟩ := hc hne
  refine ⟨b, o, e2, hb, fun k L hL => ?_⟩
  obtain ⟨s, h1, h2⟩ := hk k L hL
  exact ⟨s, h1, O2R.rd h2⟩
/-- The headers of a list of lists, as cells. -/
theorem heads {β : Type} {w : World} {A : Option Addr} {cap : Nat} {T : List β} {R : Value → β → Prop} (hR : ∀ s x, R s x → s.oneCell' = true) (h : T ≠ [] → ∃ b o, A = some ⟨b, o, none⟩ ∧ b < w.heap.size ∧ ∀ (k : Nat) (x : β), T[k]? = some x → ∃ s, w.cell? ⟨b, o + k, none⟩ = some s ∧ R s x) :
    ∃ hs : List Value, Src w 1 (.slice A T.length cap) T.length hs ∧ ∀ (i : Nat) (x : β), T[i]? = some x → ∃ s, hs[i]? = some s ∧ R s x := by
  by_cases hne : T = []
  · subst hne
    cases A with
    | none => exact ⟨[], ⟨rfl, fun u hu => absurd hu List.not_mem_nil, .inl ⟨rfl, cap, rfl⟩⟩, fun i x hx => by simp at hx⟩
    | some a => exact ⟨[], ⟨rfl, fun u hu => absurd hu List.not_mem_nil, .inr ⟨a, cap, rfl, fun j u hu => by simp at hu⟩⟩, fun i x hx => by simp at hx⟩
  · obtain ⟨b, o, rfl, hb, hc⟩ := h hne
    refine ⟨(List.range T.length).map fun k => (w.cell? ⟨b, o + k, none⟩).getD undef, ⟨by simp, fun u hu => ?_, .inr ⟨_, cap, rfl, fun j u hu => ?_⟩⟩, fun i x hx => ?_⟩
    · obtain ⟨k, hk, rfl⟩ := List.mem_map.1 hu
      obtain ⟨s, h1, h2⟩ := hc k _ (List.getElem?_eq_getElem (List.mem_range.1 hk))
      rw [h1]
      exact hR _ _ h2
    · have hj : j < T.length := by have := (List.getElem?_eq_some_iff.1 hu).1; simpa using this
      obtain ⟨s, h1, h2⟩ := hc j _ (List.getElem?_eq_getElem hj)
      have e2 : (⟨b, o, none⟩ : Addr).add j = ⟨b, o + j, none⟩ := by unfold Addr.add; by_cases h0 : j = 0 <;> simp [h0]
      rw [e2, h1]
      rw [List.getElem?_map, List.getElem?_range hj] at hu
      simp only [Option.map_some, Option.some.injEq] at hu
      rw [← hu, h1]
      rfl
    · have hi := (List.getElem?_eq_some_iff.1 hx).1
      obtain ⟨s, h1, h2⟩ := hc i x hx
      refine ⟨s, ?_, h2⟩
      rw [List.getElem?_map, List.getElem?_range hi]
      simp only [Option.map_some]
      rw [h1]
      rfl
theorem Ps.one {w : World} {s : Value} {L : List Pt} (h : Ps w s L) : s.oneCell' = true := by obtain ⟨A, cap, rfl, _⟩ := h; rfl
theorem Ru.one {w : World} {s : Value} {L : List Rl} (h : Ru w s L) : s.oneCell' = true := by obtain ⟨A, cap, rfl, _⟩ := h.form; rfl
theorem RuT.one {w : World} {s : Value} {L : List (List Rl)} (h : RuT w s L) : s.oneCell' = true := by obtain ⟨A, cap, rfl, _⟩ := h; rfl
end Go.Proofs.Hd

namespace Go.Proofs
open Go.RowKit Go.Proofs.Hd Go.Lib
set_option maxRecDepth 100000 in
set_option maxHeartbeats 2000000 in
theorem clists_ports (v : Value) (T : List (List Pt)) (w : World) (hT : PsT w v T) (h24 : T.length ≤ 5864062014634) (hin : ∀ L ∈ T, L.length ≤ 3518437208780) : Calls Try.prog 40 #[v] w fun e w' => ∃ v', e = .returned v' ∧ O2P w.heap.size w' v' T ∧ Below w.heap.size w w' := by
  have hTz : (T.length : Int) ≤ 5864062014634 := by omega
  obtain ⟨A, c, rfl, -, hA⟩ := hT
  obtain ⟨hs, hS, hH⟩ := heads (R := Ps w) (cap := c) (fun s x h => Ps.one h) hA
  have HH := Lib.hid hH
  have HIN := Lib.hid hin
  clear hA hH hin
  go_enter Try.func40, Try.ntmps40
  go_wp2_with fail
  (with_reducible refine (copied_ports _ T.length hs _ h24 hS (fun W hb => hS.on hb)).mono ?_)
  rintro e w1 ⟨v1, rfl, O1, hb1⟩
  have HB1 := Lib.hid hb1
  obtain ⟨A1, c1, rfl, hA1⟩ := own_sl O1
  have HC := Lib.hid (ClG.start (R := O1P w.heap.size) O1)
  have HA1 := Lib.hid hA1
  clear O1 hb1 hA1 hS
  go_wp2
  go_loopg [4, 5, 10] T.length (fun gk _ _ s10 wr => ∃ k : Nat, k ≤ T.length ∧ gk = T.length - k ∧ s10 = .int .i64 k ∧ Hid (ClG 63 (O1P w.heap.size) wr w.heap.size (.slice A1 T.length c1) T hs k) ∧ Hid (Below w.heap.size w wr))
  case atStart => exact ⟨0, Nat.zero_le _, rfl, rfl, HC, HB1⟩
  case round =>
    clear HC HB1
    obtain ⟨k, hk, rfl, rfl, HC, HW⟩ := hrel
    by_cases hlt : k < T.length
    · have hltz : (k : Int) < (T.length : Int) := by omega
      obtain ⟨L, hL⟩ : ∃ L, T[k]? = some L := ⟨_, List.getElem?_eq_getElem hlt⟩
      obtain ⟨g, rfl⟩ := HA1.out (by omega)
      obtain ⟨s, hsk, hR⟩ := HH.out k L hL
      obtain ⟨y1, -⟩ := HC.out.cellAt hlt
      rw [hsk] at y1
      have HR := Lib.hid hR
      obtain ⟨A2, c2, rfl, -⟩ := hR
      have HKL := Lib.hid hL
      have hSL := Lib.hid (HR.out.rde.src len_pt (by decide) one_pt)
      have HSW : Hid (Src wr _ _ _ _) := hSL.out.on HW.out
      have HLB := Lib.hid (HIN.out L (List.mem_of_getElem? hL))
      have hTB : Hid (TB wr g 63 ∧ w.heap.size ≤ g ∧ g < wr.heap.size) := by
        obtain ⟨hs', h1, _⟩ := HC.out
        exact own_tb h1
      clear hL hsk
      go_wp2_with fail
      (with_reducible refine (copied_port _ L.length _ _ HLB.out HSW.out (fun W hb => HSW.out.on hb)).mono ?_)
      rintro e w2 ⟨v2, rfl, O2, hb2⟩
      have HC2 := Lib.hid (ClG.on (O1P.on w.heap.size) HC.out hb2)
      have HW2 := Lib.hid (HW.out.trans (hb2.mono HW.out.size))
      have HO2 : Hid (O1P w.heap.size w2 v2 L) := O1P.mono HW.out.size O2
      obtain ⟨A3, c3, rfl, -⟩ := own_sl O2
      obtain ⟨z1, z2⟩ := HC2.out.cellAt hlt
      have hg2 := Nat.lt_of_lt_of_le hTB.out.2.2 hb2.size
      obtain ⟨s', hsk, -⟩ := HH.out k L HKL.out
      rw [hsk] at z1
      have HC3 := Lib.hid (ClG.set (O1P.far (by decide)) HC2.out HKL.out HO2.out)
      have HW3 := Lib.hid (HW2.out.setCell (p := ⟨g, k, none⟩) hTB.out.2.1 (.slice A3 L.length c3))
      clear O2 hb2 y1 HC HW HC2 HW2 HO2 HSW hSL HR hsk
      go_wp2
      go_roundg (T.length - (k + 1))
      case measure => omega
      case rel => exact ⟨k + 1, by omega, rfl, by go_num, HC3, HW3⟩
    · have hltz : ¬ (k : Int) < (T.length : Int) := by omega
      have HO := Lib.hid (HC.out.done (by omega))
      go_wp2
      go_ret
      exact ⟨_, rfl, HO.out, HW.out⟩
set_option maxRecDepth 100000 in
set_option maxHeartbeats 2000000 in
theorem clists_rules (v : Value) (T : List (List Rl)) (w : World) (hT : RuT w v T) (h24 : T.length ≤ 5864062014634) (hin : ∀ L ∈ T, L.length ≤ 1466015503658) : Calls Try.prog 44 #[v] w fun e w' => ∃ v', e = .returned v' ∧ O2R w.heap.size w' v' T ∧ Below w.heap.size w w' := by
  have hTz : (T.length : Int) ≤ 5864062014634 := by omega
  obtain ⟨A, c, rfl, -, hTM, hA⟩ := hT
  obtain ⟨hs, hS, hH⟩ := heads (R := Ru w) (cap := c) (fun s x h => Ru.one h) hA
  have HH := Lib.hid hH
  have HIN := Lib.hid hin
  clear hA hH hin hTM
  go_enter Try.func44, Try.ntmps44
  go_wp2_with fail
  (with_reducible refine (copied_rules _ T.length hs _ h24 hS (fun W hb => hS.on hb)).mono ?_)
  rintro e w1 ⟨v1, rfl, O1, hb1⟩
  have HB1 := Lib.hid hb1
  obtain ⟨A1, c1, rfl, hA1⟩ := own_sl O1
  have HC := Lib.hid (ClG.start (R := O1R w.heap.size) O1)
  have HA1 := Lib.hid hA1
  clear O1 hb1 hA1 hS
  go_wp2
  go_loopg [4, 5, 10] T.length (fun gk _ _ s10 wr => ∃ k : Nat, k ≤ T.length ∧ gk = T.length - k ∧ s10 = .int .i64 k ∧ Hid (ClG 58 (O1R w.heap.size) wr w.heap.size (.slice A1 T.length c1) T hs k) ∧ Hid (Below w.heap.size w wr))
  case atStart => exact ⟨0, Nat.zero_le _, rfl, rfl, HC, HB1⟩
  case round =>
    clear HC HB1
    obtain ⟨k, hk, rfl, rfl, HC, HW⟩ := hrel
    by_cases hlt : k < T.length
    · have hltz : (k : Int) < (T.length : Int) := by omega
      obtain ⟨L, hL⟩ : ∃ L, T[k]? = some L := ⟨_, List.getElem?_eq_getElem hlt⟩
      obtain ⟨g, rfl⟩ := HA1.out (by omega)
      obtain ⟨s, hsk, hR⟩ := HH.out k L hL
      obtain ⟨y1, -⟩ := HC.out.cellAt hlt
      rw [hsk] at y1
      have HR := Lib.hid hR
      obtain ⟨A2, c2, rfl, -⟩ := hR.form
      have HKL := Lib.hid hL
      have hSL := Lib.hid (HR.out.rde.src len_rl (by decide) one_rl)
      have HSW : Hid (Src wr _ _ _ _) := hSL.out.on HW.out
      have HLB := Lib.hid (HIN.out L (List.mem_of_getElem? hL))
      have hTB : Hid (TB wr g 58 ∧ w.heap.size ≤ g ∧ g < wr.heap.size) := by
        obtain ⟨hs', h1, _⟩ := HC.out
        exact own_tb h1
      clear hL hsk
      go_wp2_with fail
      (with_reducible refine (copied_rule _ L.length _ _ HLB.out HSW.out (fun W hb => HSW.out.on hb)).mono ?_)
      rintro e w2 ⟨v2, rfl, O2, hb2⟩
      have HC2 := Lib.hid (ClG.on (O1R.on w.heap.size) HC.out hb2)
      have HW2 := Lib.hid (HW.out.trans (hb2.mono HW.out.size))
      have HO2 : Hid (O1R w.heap.size w2 v2 L) := O1R.mono HW.out.size O2
      obtain ⟨A3, c3, rfl, -⟩ := own_sl O2
      obtain ⟨z1, z2⟩ := HC2.out.cellAt hlt
      have hg2 := Nat.lt_of_lt_of_le hTB.out.2.2 hb2.size
      obtain ⟨s', hsk, -⟩ := HH.out k L HKL.out
      rw [hsk] at z1
      have HC3 := Lib.hid (ClG.set (O1R.far (by decide)) HC2.out HKL.out HO2.out)
      have HW3 := Lib.hid (HW2.out.setCell (p := ⟨g, k, none⟩) hTB.out.2.1 (.slice A3 L.length c3))
      clear O2 hb2 y1 HC HW HC2 HW2 HO2 HSW hSL HR hsk
      go_wp2
      go_roundg (T.length - (k + 1))
      case measure => omega
      case rel => exact ⟨k + 1, by omega, rfl, by go_num, HC3, HW3⟩
    · have hltz : ¬ (k : Int) < (T.length : Int) := by omega
      have HO := Lib.hid (HC.out.done (by omega))
      go_wp2
      go_ret
      exact ⟨_, rfl, HO.out, HW.out⟩
end Go.Proofs

namespace Go.Proofs.Hd
open Go.RowKit
/-- Block b, at or behind block B, holds the cells cs. -/
def Nb (B : Nat) (w : World) (b : Nat) (T : TypeId) (cs : Array Value) : Prop := Blk w b T cs ∧ B ≤ b
theorem Nb.on {B b : Nat} {W w' : World} {T : TypeId} {cs : Array Value} (h : Nb B W b T cs) (hb : Below W.heap.size W w') : Nb B w' b T cs := ⟨h.1.on hb, h.2⟩
theorem Nb.top {B : Nat} {T : TypeId} {cs : Array Value} (X : World) (h : B ≤ X.heap.size) : Nb B (X.alloc (.cells cs T)) X.heap.size T cs := ⟨Blk.new X T cs, h⟩
theorem Nb.ne {B b : Nat} {W : World} {T : TypeId} {cs : Array Value} (h : Nb B W b T cs) : b ≠ W.heap.size := Nat.ne_of_lt h.1.lt
theorem Nb.there {B b : Nat} {W : World} {T : TypeId} {cs : Array Value} (h : Nb B W b T cs) : W.there b 0 cs.size := fun j hj => by
  rw [Nat.zero_add, h.1.cell j, h.1.free j]
  simp [hj]
theorem Blk.farC {g b : Nat} {t : TypeId} {cs : Array Value} (hne : b ≠ g) : ∀ (vs : List Value) (o : Nat) (w : World), Blk w g t cs → Blk (w.setCells b o vs) g t cs
  | [], _, _, h => h
  | v :: vs, o, _, h => Blk.farC hne vs (o + 1) _ (h.far (p := ⟨b, o, none⟩) (fun e => hne e.symm) v)
theorem Nb.far {B b c : Nat} {W : World} {T : TypeId} {cs : Array Value} (h : Nb B W b T cs) (hne : c ≠ b) (vs : List Value) : Nb B (W.setCells c 0 vs) b T cs := ⟨Blk.farC hne vs 0 W h.1, h.2⟩
/-- Cells from place o on are set, one by one. -/
def setL (cs : Array Value) : Nat → List Value → Array Value
  | _, [] => cs
  | o, v :: vs => setL (cs.setIfInBounds o v) (o + 1) vs
theorem Blk.putC {b : Nat} {t : TypeId} : ∀ (vs : List Value) (o : Nat) (w : World) (cs : Array Value), Blk w b t cs → Blk (w.setCells b o vs) b t (setL cs o vs)
  | [], _, _, _, h => h
  | v :: vs, o, _, _, h => Blk.putC vs (o + 1) _ _ (h.set o v)
theorem setL_size : ∀ (vs : List Value) (o : Nat) (cs : Array Value), (setL cs o vs).size = cs.size
  | [], _, _ => rfl
  | v :: vs, o, cs => by rw [setL, setL_size vs]; simp
theorem setL_get : ∀ (vs : List Value) (o : Nat) (cs : Array Value) (j : Nat), (setL cs o vs)[j]? = if o ≤ j ∧ j < o + vs.length ∧ j < cs.size then vs[j - o]? else cs[j]?
  | [], o, cs, j => by rw [setL, if_neg (by simp; omega)]
  | v :: vs, o, cs, j => by
    rw [setL, setL_get vs]
    simp only [Array.size_setIfInBounds, List.length_cons]
    by_cases h1 : j = o
    · subst h1
      rw [if_neg (by omega)]
      by_cases h2 : j < cs.size
      · rw [if_pos (by omega)]
        simp [h2]
      · rw [if_neg (by omega)]
        simp [h2]
    · by_cases h2 : o + 1 ≤ j ∧ j < o + 1 + vs.length ∧ j < cs.size
      · rw [if_pos h2, if_pos (by omega), show j - o = (j - (o + 1)) + 1 by omega, List.getElem?_cons_succ]
      · rw [if_neg h2, if_neg (by omega), Array.getElem?_setIfInBounds, if_neg (fun e => h1 e.symm)]
theorem setL_all (vs : List Value) (cs : Array Value) (h : vs.length = cs.size) : setL cs 0 vs = vs.toArray := by
  apply Array.ext_getElem?
  intro j
  rw [setL_get]
  by_cases hj : j < cs.size
  · rw [if_pos (by omega)]; simp
  · rw [if_neg (by omega), Array.getElem?_eq_none (by omega), Array.getElem?_eq_none (by simp; omega)]
theorem Nb.put {B b : Nat} {W : World} {T : TypeId} {cs : Array Value} (h : Nb B W b T cs) (vs : List Value) (hl : vs.length = cs.size) : Nb B (W.setCells b 0 vs) b T vs.toArray := by
  refine ⟨?_, h.2⟩
  rw [← setL_all vs cs hl]
  exact Blk.putC vs 0 W cs h.1
end Go.Proofs.Hd

namespace Go.Proofs.Hd
open Go.RowKit
theorem farS {P : World → Prop} {b : Nat} {t : TypeId} (h : ∀ (w : World) (i : Nat) (u : Value), TB w b t → P w → P (w.setCell ⟨b, i, none⟩ u)) : ∀ (vs : List Value) (o : Nat) (w : World), TB w b t → P w → P (w.setCells b o vs)
  | [], _, _, _, hp => hp
  | v :: vs, o, w, hb, hp => farS h vs (o + 1) _ hb.set (h w o v hb hp)
theorem ownFar {b : Nat} {t : TypeId} {w : World} {base : Nat} {e : TypeId} {size : Nat} {v : Value} {n : Nat} {xs : List Value} (hb : TB w b t) (hne : e ≠ t) (vs : List Value) (h : w.ownsRow base e size v n xs) : (w.setCells b 0 vs).ownsRow base e size v n xs :=
  farS (P := fun W => W.ownsRow base e size v n xs) (t := t) (b := b) (fun W i u h1 h2 => by
    refine ownsRow_setCell_other h2 ?_ u
    intro e2
    exact own_apartT h2 h1 hne e2.symm) vs 0 w hb h
theorem O2P.far {B : Nat} {t3 : TypeId} (hne : 65 ≠ t3) (hne2 : 63 ≠ t3) : ∀ (w : World) (g i : Nat) (u s : Value) (x : List (List Pt)), TB w g t3 → O2P B w s x → O2P B (w.setCell ⟨g, i, none⟩ u) s x := fun _ _ _ _ _ _ hg h => OwG.far hne2 (O1P.far hne) hg h
/-- A configuration of the call's own. -/
structure Cfo (B : Nat) (w : World) (tv pv wv bv : Value) (T : List (List Pt)) (P : List (Int × Int)) (Q : List Wa) (BB : List (List (List Rl))) : Prop where
  ports : O2P B w tv T
  peers : w.ownsRow B 66 2 pv P.length (P.flatMap encA)
  ways : w.ownsRow B 68 3 wv Q.length (Q.flatMap Wa.cs)
  tabs : O3R B w bv BB
theorem Cfo.on {B : Nat} {w w' : World} {tv pv wv bv : Value} {T : List (List Pt)} {P : List (Int × Int)} {Q : List Wa} {BB : List (List (List Rl))} (h : Cfo B w tv pv wv bv T P Q BB) (hb : Below w.heap.size w w') : Cfo B w' tv pv wv bv T P Q BB :=
  ⟨O2P.on _ _ _ _ _ hb h.ports, own_on h.peers hb, own_on h.ways hb, O3R.on _ _ _ _ _ hb h.tabs⟩
theorem Cfo.mono {B B' : Nat} (hB : B' ≤ B) {w : World} {tv pv wv bv : Value} {T : List (List Pt)} {P : List (Int × Int)} {Q : List Wa} {BB : List (List (List Rl))} (h : Cfo B w tv pv wv bv T P Q BB) : Cfo B' w tv pv wv bv T P Q BB :=
  ⟨O2P.mono hB h.ports, World.ownsRow.mono h.peers hB, World.ownsRow.mono h.ways hB, O3R.mono hB h.tabs⟩
theorem Cfo.rd {B : Nat} {w : World} {tv pv wv bv : Value} {T : List (List Pt)} {P : List (Int × Int)} {Q : List Wa} {BB : List (List (List Rl))} (h : Cfo B w tv pv wv bv T P Q BB) : PsT w tv T ∧ Pe w pv P ∧ Wy w wv Q ∧ RuQ w bv BB :=
  ⟨O2P.rd h.ports, (own_rde h.peers len_a).pe (own_len h.peers), (own_rde h.ways len_w).wy (own_len h.ways), O3R.rd h.tabs⟩
/-- What lies in memory while tables are copied. -/
structure Cn (w1 wr : World) (b3 : Nat) (ten : Int) (tv pv wv bv : Value) (T : List (List Pt)) (P : List (Int × Int)) (Q : List Wa) (BB : List (List (List Rl))) (hs : List Value) (k : Nat) : Prop where
  box : Blk wr b3 31 #[tv, .int .i64 ten, pv, wv, bv]
  ports : O2P w1.heap.size wr tv T
  peers : wr.ownsRow w1.heap.size 66 2 pv P.length (P.flatMap encA)
  ways : wr.ownsRow w1.heap.size 68 3 wv Q.length (Q.flatMap Wa.cs)
  tabs : ClG 57 (O2R w1.heap.size) wr w1.heap.size bv BB hs k
  bel : Below w1.heap.size w1 wr
theorem Cn.on {w1 wr w' : World} {b3 : Nat} {ten : Int} {tv pv wv bv : Value} {T : List (List Pt)} {P : List (Int × Int)} {Q : List Wa} {BB : List (List (List Rl))} {hs : List Value} {k : Nat} (h : Cn w1 wr b3 ten tv pv wv bv T P Q BB hs k) (hb : Below wr.heap.size wr w') : Cn w1 w' b3 ten tv pv wv bv T P Q BB hs k :=
  ⟨h.box.on hb, O2P.on _ _ _ _ _ hb h.ports, own_on h.peers hb, own_on h.ways hb, ClG.on (O2R.on _) h.tabs hb, h.bel.trans (hb.mono h.bel.size)⟩
theorem Cn.tb {w1 wr : World} {b3 g c : Nat} {ten : Int} {tv pv wv : Value} {T : List (List Pt)} {P : List (Int × Int)} {Q : List Wa} {BB : List (List (List Rl))} {hs : List Value} {k : Nat} (h : Cn w1 wr b3 ten tv pv wv (.slice (some ⟨g, 0, none⟩) BB.length c) T P Q BB hs k) : TB wr g 57 ∧ w1.heap.size ≤ g ∧ g < wr.heap.size := by
  obtain ⟨hs', h1, _⟩ := h.tabs
  exact own_tb h1
theorem Cn.ne {w1 wr : World} {b3 g c : Nat} {ten : Int} {tv pv wv : Value} {T : List (List Pt)} {P : List (Int × Int)} {Q : List Wa} {BB : List (List (List Rl))} {hs : List Value} {k : Nat} (h : Cn w1 wr b3 ten tv pv wv (.slice (some ⟨g, 0, none⟩) BB.length c) T P Q BB hs k) : b3 ≠ g := by
  rintro rfl
  obtain ⟨cs, fr, e⟩ := h.tb.1
  have e2 := h.box
  unfold Blk at e2
  rw [e2] at e
  injection e with e
  injection e with _ e
  exact absurd e (by decide)
theorem Cn.set {w1 wr : World} {b3 g c k : Nat} {ten : Int} {tv pv wv s : Value} {T : List (List Pt)} {P : List (Int × Int)} {Q : List Wa} {BB : List (List (List Rl))} {X : List (List Rl)} {hs : List Value} (h : Cn w1 wr b3 ten tv pv wv (.slice (some ⟨g, 0, none⟩) BB.length c) T P Q BB hs k) (hx : BB[k]? = some X) (hr : O2R w1.heap.size wr s X) :
    Cn w1 (wr.setCell ⟨g, k, none⟩ s) b3 ten tv pv wv (.slice (some ⟨g, 0, none⟩) BB.length c) T P Q BB hs (k + 1) :=
  ⟨h.box.far (p := ⟨g, k, none⟩) h.ne s, O2P.far (by decide) (by decide) _ _ _ _ _ _ h.tb.1 h.ports, ownsRow_setCell_other h.peers (fun e => own_apartT h.peers h.tb.1 (by decide) e.symm) s, ownsRow_setCell_other h.ways (fun e => own_apartT h.ways h.tb.1 (by decide) e.symm) s,
    ClG.set (O2R.far (by decide) (by decide)) h.tabs hx hr, h.bel.setCell (p := ⟨g, k, none⟩) h.tb.2.1 s⟩
theorem cell_set (W : World) (g k : Nat) (u : Value) (h : ∃ old, W.cell? ⟨g, k, none⟩ = some old) : (W.setCell ⟨g, k, none⟩ u).cell? ⟨g, k, none⟩ = some u := by
  obtain ⟨old, h⟩ := h
  exact World.cell?_setCell_same' W ⟨g, k, none⟩ u (by rw [h]; rfl)
theorem frozen_set (W : World) (g k : Nat) (u : Value) (h : W.frozen? ⟨g, k, none⟩ = false) : (W.setCell ⟨g, k, none⟩ u).frozen? ⟨g, k, none⟩ = false := by
  rw [World.frozen?_setCell]; exact h
theorem ownsRow_low {w : World} {base : Nat} {e : TypeId} {size : Nat} {v : Value} {n : Nat} {xs : List Value} (h : w.ownsRow base e size v n xs) {g i : Nat} (hg : g < base) (u : Value) : (w.setCell ⟨g, i, none⟩ u).ownsRow base e size v n xs := ownsRow_setCell_below h hg u
theorem OwG.low {β : Type} {te : TypeId} {B g : Nat} (hg : g < B) {R : World → Value → β → Prop} (hR : ∀ (w : World) (i : Nat) (u s : Value) (x : β), R w s x → R (w.setCell ⟨g, i, none⟩ u) s x) {w : World} {i : Nat} {u v : Value} {T : List β} (h : OwG te R w B v T) : OwG te R (w.setCell ⟨g, i, none⟩ u) B v T := by
  obtain ⟨hs, h1, h2⟩ := h
  refine ⟨hs, ownsRow_low h1 hg u, fun j x hx => ?_⟩
  obtain ⟨s, e, hr⟩ := h2 j x hx
  exact ⟨s, e, hR _ _ _ _ _ hr⟩
theorem O1P.low {B g : Nat} (hg : g < B) : ∀ (w : World) (i : Nat) (u s : Value) (x : List Pt), O1P B w s x → O1P B (w.setCell ⟨g, i, none⟩ u) s x := fun _ _ u _ _ h => ownsRow_low h hg u
theorem O1R.low {B g : Nat} (hg : g < B) : ∀ (w : World) (i : Nat) (u s : Value) (x : List Rl), O1R B w s x → O1R B (w.setCell ⟨g, i, none⟩ u) s x := fun _ _ u _ _ h => ownsRow_low h hg u
theorem O2P.low {B g : Nat} (hg : g < B) : ∀ (w : World) (i : Nat) (u s : Value) (x : List (List Pt)), O2P B w s x → O2P B (w.setCell ⟨g, i, none⟩ u) s x := fun _ _ _ _ _ h => OwG.low hg (O1P.low hg) h
theorem O2R.low {B g : Nat} (hg : g < B) : ∀ (w : World) (i : Nat) (u s : Value) (x : List (List Rl)), O2R B w s x → O2R B (w.setCell ⟨g, i, none⟩ u) s x := fun _ _ _ _ _ h => OwG.low hg (O1R.low hg) h
theorem O3R.low {B g : Nat} (hg : g < B) : ∀ (w : World) (i : Nat) (u s : Value) (x : List (List (List Rl))), O3R B w s x → O3R B (w.setCell ⟨g, i, none⟩ u) s x := fun _ _ _ _ _ h => OwG.low hg (O2R.low hg) h
theorem Cfo.low {B g i : Nat} (hg : g < B) {w : World} {tv pv wv bv u : Value} {T : List (List Pt)} {P : List (Int × Int)} {Q : List Wa} {BB : List (List (List Rl))} (h : Cfo B w tv pv wv bv T P Q BB) : Cfo B (w.setCell ⟨g, i, none⟩ u) tv pv wv bv T P Q BB :=
  ⟨O2P.low hg _ _ _ _ _ h.ports, ownsRow_low h.peers hg u, ownsRow_low h.ways hg u, O3R.low hg _ _ _ _ _ h.tabs⟩
theorem Cfo.put5 {B g : Nat} (hg : g < B) {w : World} {tv pv wv bv : Value} {T : List (List Pt)} {P : List (Int × Int)} {Q : List Wa} {BB : List (List (List Rl))} (h : Cfo B w tv pv wv bv T P Q BB) (a0 a1 a2 a3 a4 : Value) : Cfo B (((((w.setCell ⟨g, 0, none⟩ a0).setCell ⟨g, 1, none⟩ a1).setCell ⟨g, 2, none⟩ a2).setCell ⟨g, 3, none⟩ a3).setCell ⟨g, 4, none⟩ a4) tv pv wv bv T P Q BB :=
  ((((h.low hg).low hg).low hg).low hg).low hg
/-- No list of a configuration is longer than memory reaches. -/
structure Szd (T : List (List Pt)) (P : List (Int × Int)) (Q : List Wa) (BB : List (List (List Rl))) : Prop where
  t : T.length ≤ 5864062014634
  l : ∀ L ∈ T, L.length ≤ 3518437208780
  p : P.length ≤ 8796093021952
  q : Q.length ≤ 5864062014634
  b : BB.length ≤ 5864062014634
  x : ∀ X ∈ BB, X.length ≤ 5864062014634
  r : ∀ X ∈ BB, ∀ L ∈ X, L.length ≤ 1466015503658
end Go.Proofs.Hd
namespace Go.Proofs
open Go.RowKit Go.Proofs.Hd Go.Lib
theorem infoCfg : (Try.prog.info? 31).map (·.size) = some 5 := by kernel_rfl
set_option maxRecDepth 100000 in
set_option maxHeartbeats 8000000 in
theorem clone_c (tv pv wv bv : Value) (T : List (List Pt)) (ten : Int) (P : List (Int × Int)) (Q : List Wa) (BB : List (List (List Rl))) (w : World) (hT : PsT w tv T) (hP : Pe w pv P) (hQ : Wy w wv Q) (hB : RuQ w bv BB) (hz : Szd T P Q BB) :
    Calls Try.prog 22 #[.agg #[tv, .int .i64 ten, pv, wv, bv]] w fun e w' => ∃ tv' pv' wv' bv', e = .returned (.agg #[tv', .int .i64 ten, pv', wv', bv']) ∧ Cfo w.heap.size w' tv' pv' wv' bv' T P Q BB ∧ Below w.heap.size w w' := by
  have HT := Lib.hid hT
  have HSP := Lib.hid (hP.rde.src len_a (by decide) one_a)
  have HSW := Lib.hid (hQ.rde.src len_w (by decide) one_w)
  have h24 := hz.t
  have hin := hz.l
  have hP24 := hz.p
  have hQ24 := hz.q
  have hB24 := hz.b
  have HZX := Lib.hid hz.x
  have HZR := Lib.hid hz.r
  obtain ⟨A, cap, rfl, -, -⟩ := hT
  obtain ⟨pA, pc, rfl, -, -⟩ := hP
  obtain ⟨wA, wcp, rfl, -, -⟩ := hQ
  obtain ⟨bA, bc, rfl, -, hBA⟩ := hB
  obtain ⟨hs, hS, hH⟩ := heads (R := RuT w) (cap := bc) (fun s x h => RuT.one h) hBA
  have HSB := Lib.hid hS
  have HH := Lib.hid hH
  clear hz hBA hS hH
  have HB1 : Hid (Below w.heap.size w ((w.alloc (.cells #[.slice A T.length cap, .int .i64 ten, .slice pA P.length pc, .slice wA Q.length wcp, .slice bA BB.length bc] 31)).alloc (.cells #[.slice none 0 0, .int .i64 0, .slice none 0 0, .slice none 0 0, .slice none 0 0] 31))) := below2 w _ _
  have N1 : Hid (Blk ((w.alloc (.cells #[.slice A T.length cap, .int .i64 ten, .slice pA P.length pc, .slice wA Q.length wcp, .slice bA BB.length bc] 31)).alloc (.cells #[.slice none 0 0, .int .i64 0, .slice none 0 0, .slice none 0 0, .slice none 0 0] 31)) w.heap.size 31 #[.slice A T.length cap, .int .i64 ten, .slice pA P.length pc, .slice wA Q.length wcp, .slice bA BB.length bc]) := (Blk.new w _ _).on (below1 _ _)
  have R1 : Hid (Blk ((w.alloc (.cells #[.slice A T.length cap, .int .i64 ten, .slice pA P.length pc, .slice wA Q.length wcp, .slice bA BB.length bc] 31)).alloc (.cells #[.slice none 0 0, .int .i64 0, .slice none 0 0, .slice none 0 0, .slice none 0 0] 31)) (w.heap.size + 1) 31 #[.slice none 0 0, .int .i64 0, .slice none 0 0, .slice none 0 0, .slice none 0 0]) := Blk.new2 w _ _ _
  go_enter Try.func22, Try.ntmps22
  go_upto_region 1 with (fail)
  generalize ((w.alloc (.cells #[.slice A T.length cap, .int .i64 ten, .slice pA P.length pc, .slice wA Q.length wcp, .slice bA BB.length bc] 31)).alloc (.cells #[.slice none 0 0, .int .i64 0, .slice none 0 0, .slice none 0 0, .slice none 0 0] 31)) = w1 at HB1 N1 R1 ⊢
  go_cut [3] (fun i wc => ∃ (b3 : Nat) (A1 : Option Addr) (c1 : Nat) (A2 : Option Addr) (c2 : Nat) (A3 : Option Addr) (c3 : Nat) (A4 : Option Addr) (c4 : Nat), i = .pointer (some ⟨b3, 0, none⟩) ∧ w1.heap.size ≤ b3 ∧ Below w1.heap.size w1 wc ∧ Blk wc b3 31 #[.slice A1 T.length c1, .int .i64 ten, .slice A2 P.length c2, .slice A3 Q.length c3, .slice A4 BB.length c4] ∧ O2P w1.heap.size wc (.slice A1 T.length c1) T ∧ wc.ownsRow w1.heap.size 66 2 (.slice A2 P.length c2) P.length (P.flatMap encA) ∧ wc.ownsRow w1.heap.size 68 3 (.slice A3 Q.length c3) Q.length (Q.flatMap Wa.cs) ∧ wc.ownsRow w1.heap.size 57 1 (.slice A4 BB.length c4) BB.length hs)
  case first =>
    have KP : ∀ W, Below w1.heap.size w1 W → (Below w1.heap.size w1 W ∧ W.cell? ⟨w.heap.size, 0, none⟩ = some (.slice A T.length cap) ∧ W.cell? ⟨w.heap.size, 1, none⟩ = some (.int .i64 ten) ∧ W.cell? ⟨w.heap.size, 2, none⟩ = some (.slice pA P.length pc) ∧ W.cell? ⟨w.heap.size, 3, none⟩ = some (.slice wA Q.length wcp) ∧ W.cell? ⟨w.heap.size, 4, none⟩ = some (.slice bA BB.length bc)) := fun W hb => ⟨hb, (N1.out.on hb).five⟩
    have HKP := Lib.hid KP
    clear KP
    refine wp_region_held_drew (S := fun w' => Below w1.heap.size w1 w' ∧ w'.cell? ⟨w.heap.size, 0, none⟩ = some (.slice A T.length cap) ∧ w'.cell? ⟨w.heap.size, 1, none⟩ = some (.int .i64 ten) ∧ w'.cell? ⟨w.heap.size, 2, none⟩ = some (.slice pA P.length pc) ∧ w'.cell? ⟨w.heap.size, 3, none⟩ = some (.slice wA Q.length wcp) ∧ w'.cell? ⟨w.heap.size, 4, none⟩ = some (.slice bA BB.length bc)) (by kernel_rfl) (HKP.out _ (Below.refl _ w1).drew) (fun hHeld => ?_)
    generalize w1.drew = u0 at hHeld ⊢
    refine wpAnyH_take (i := 0) (oi := ⟨some 6, _, _, _, _, _⟩) (v := ?vct1) rfl (by kernel_rfl) (by kernel_rfl) (by kernel_rfl) (fun _ _ _ h => h) (Or.inl ⟨by rfl, ?yct1⟩) hHeld ?rct1
    case yct1 => (intro w' hSw; (try dsimp only at hSw); go_simp; try (with_reducible rfl))
    simp only [Act.put, List.setIfInBounds_toArray, List.set_cons_zero, List.set_cons_succ]
    refine wpAnyH_take (i := 1) (oi := ⟨some 7, _, _, _, _, _⟩) (v := ?vct2) rfl (by kernel_rfl) (by kernel_rfl) (by kernel_rfl) (fun _ _ _ h => h) (Or.inl ⟨by rfl, ?yct2⟩) hHeld ?rct2
    case yct2 => (intro w' hSw; (try dsimp only at hSw); go_simp; try (with_reducible rfl))
    simp only [Act.put, List.setIfInBounds_toArray, List.set_cons_zero, List.set_cons_succ]
    refine wpAnyH_take (i := 2) (oi := ⟨some 8, _, _, _, _, _⟩) (v := ?vct3) rfl (by kernel_rfl) (by kernel_rfl) (by kernel_rfl) (fun _ _ _ h => h) (Or.inl ⟨by rfl, ?yct3⟩) hHeld ?rct3
    case yct3 => (intro w' hSw; (try dsimp only at hSw); go_simp; try (with_reducible rfl))
    simp only [Act.put, List.setIfInBounds_toArray, List.set_cons_zero, List.set_cons_succ]
    refine wpAnyH_take (i := 5) (oi := ⟨some 11, _, _, _, _, _⟩) (v := ?vct4) rfl (by kernel_rfl) (by kernel_rfl) (by kernel_rfl) (fun _ _ _ h => h) (Or.inl ⟨by rfl, ?yct4⟩) hHeld ?rct4
    case yct4 => (intro w' hSw; (try dsimp only at hSw); go_simp; try (with_reducible rfl))
    simp only [Act.put, List.setIfInBounds_toArray, List.set_cons_zero, List.set_cons_succ]
    refine wpAnyH_take (i := 6) (oi := ⟨some 12, _, _, _, _, _⟩) (v := ?vct5) rfl (by kernel_rfl) (by kernel_rfl) (by kernel_rfl) (fun _ _ _ h => h) (Or.inl ⟨by rfl, ?yct5⟩) hHeld ?rct5
    case yct5 => (intro w' hSw; (try dsimp only at hSw); go_simp; try (with_reducible rfl))
    simp only [Act.put, List.setIfInBounds_toArray, List.set_cons_zero, List.set_cons_succ]
    refine wpAnyH_take (i := 7) (oi := ⟨some 13, _, _, _, _, _⟩) (v := ?vct6) rfl (by kernel_rfl) (by kernel_rfl) (by kernel_rfl) (fun _ _ _ h => h) (Or.inl ⟨by rfl, ?yct6⟩) hHeld ?rct6
    case yct6 => (intro w' hSw; (try dsimp only at hSw); go_simp; try (with_reducible rfl))
    simp only [Act.put, List.setIfInBounds_toArray, List.set_cons_zero, List.set_cons_succ]
    refine wpAnyH_take (i := 8) (oi := ⟨some 14, _, _, _, _, _⟩) (v := ?vct7) rfl (by kernel_rfl) (by kernel_rfl) (by kernel_rfl) (fun _ _ _ h => h) (Or.inl ⟨by rfl, ?yct7⟩) hHeld ?rct7
    case yct7 => (intro w' hSw; (try dsimp only at hSw); go_simp; try (with_reducible rfl))
    simp only [Act.put, List.setIfInBounds_toArray, List.set_cons_zero, List.set_cons_succ]
    refine wpAnyH_take (i := 9) (oi := ⟨some 15, _, _, _, _, _⟩) (v := ?vct8) rfl (by kernel_rfl) (by kernel_rfl) (by kernel_rfl) (fun _ _ _ h => h) (Or.inl ⟨by rfl, ?yct8⟩) hHeld ?rct8
    case yct8 => (intro w' hSw; (try dsimp only at hSw); go_simp; try (with_reducible rfl))
    simp only [Act.put, List.setIfInBounds_toArray, List.set_cons_zero, List.set_cons_succ]
    refine wpAnyH_take (i := 10) (oi := ⟨some 16, _, _, _, _, _⟩) (v := ?vct9) rfl (by kernel_rfl) (by kernel_rfl) (by kernel_rfl) (fun _ _ _ h => h) (Or.inl ⟨by rfl, ?yct9⟩) hHeld ?rct9
    case yct9 => (intro w' hSw; (try dsimp only at hSw); go_simp; try (with_reducible rfl))
    simp only [Act.put, List.setIfInBounds_toArray, List.set_cons_zero, List.set_cons_succ]
    refine wpAnyH_take (i := 12) (oi := ⟨some 18, _, _, _, _, _⟩) (v := ?vct10) rfl (by kernel_rfl) (by kernel_rfl) (by kernel_rfl) (fun _ _ _ h => h) (Or.inl ⟨by rfl, ?yct10⟩) hHeld ?rct10
    case yct10 => (intro w' hSw; (try dsimp only at hSw); go_simp; try (with_reducible rfl))
    simp only [Act.put, List.setIfInBounds_toArray, List.set_cons_zero, List.set_cons_succ]
    refine wpAnyH_take (i := 13) (oi := ⟨some 19, _, _, _, _, _⟩) (v := ?vct11) rfl (by kernel_rfl) (by kernel_rfl) (by kernel_rfl) (fun _ _ _ h => h) (Or.inl ⟨by rfl, ?yct11⟩) hHeld ?rct11
    case yct11 => (intro w' hSw; (try dsimp only at hSw); go_simp; try (with_reducible rfl))
    simp only [Act.put, List.setIfInBounds_toArray, List.set_cons_zero, List.set_cons_succ]
    refine wpAnyH_take (i := 14) (oi := ⟨some 20, _, _, _, _, _⟩) (v := ?vct12) rfl (by kernel_rfl) (by kernel_rfl) (by kernel_rfl) (fun _ _ _ h => h) (Or.inl ⟨by rfl, ?yct12⟩) hHeld ?rct12
    case yct12 => (intro w' hSw; (try dsimp only at hSw); go_simp; try (with_reducible rfl))
    simp only [Act.put, List.setIfInBounds_toArray, List.set_cons_zero, List.set_cons_succ]
    refine wpAnyH_take (i := 17) (oi := ⟨some 23, _, _, _, _, _⟩) (v := ?vct13) rfl (by kernel_rfl) (by kernel_rfl) (by kernel_rfl) (fun _ _ _ h => h) (Or.inl ⟨by rfl, ?yct13⟩) hHeld ?rct13
    case yct13 => (intro w' hSw; (try dsimp only at hSw); go_simp; try (with_reducible rfl))
    simp only [Act.put, List.setIfInBounds_toArray, List.set_cons_zero, List.set_cons_succ]
    refine wpAnyH_take (i := 18) (oi := ⟨some 24, _, _, _, _, _⟩) (v := ?vct14) rfl (by kernel_rfl) (by kernel_rfl) (by kernel_rfl) (fun _ _ _ h => h) (Or.inl ⟨by rfl, ?yct14⟩) hHeld ?rct14
    case yct14 => (intro w' hSw; (try dsimp only at hSw); go_simp; try (with_reducible rfl))
    simp only [Act.put, List.setIfInBounds_toArray, List.set_cons_zero, List.set_cons_succ]
    refine wpAnyH_ready (rs := [3, 21]) (by kernel_rfl) (by simp) ?_
    refine AllReadyH.cons (o := ⟨some 9, _, _, _, _, _⟩) rfl (fun K hK => ?_) ?_
    · go_simp
      (with_reducible refine (clists_ports _ T _ (HT.out.on (HB1.out.trans (hHeld.1.mono HB1.out.size))) h24 hin).mono ?_)
      rintro e u1 ⟨v, rfl, o, hb⟩
      have o1 := O2P.mono hHeld.1.size o
      obtain ⟨A1, c1, rfl, -, -⟩ := OwG.rd o1
      clear o
      (try dsimp only)
      refine hK.out _ _ (HKP.out _ (hHeld.1.trans (hb.mono hHeld.1.size))) (fun hNext => ?_)
      clear hK K hHeld
      have hHeld := hNext
      clear hNext
      clear hb
      try simp only [Act.put, List.setIfInBounds_toArray, List.set_cons_zero, List.set_cons_succ]
      refine wpAnyH_take (i := 4) (oi := ⟨some 10, _, _, _, _, _⟩) (v := ?vct15) rfl (by kernel_rfl) (by kernel_rfl) (by kernel_rfl) (fun _ _ _ h => h) (Or.inl ⟨by rfl, ?yct15⟩) hHeld ?rct15
      case yct15 => (intro w' hSw; (try dsimp only at hSw); go_simp; try (with_reducible rfl))
      simp only [Act.put, List.setIfInBounds_toArray, List.set_cons_zero, List.set_cons_succ]
      refine wpAnyH_ready (rs := [11, 21]) (by kernel_rfl) (by simp) ?_
      refine AllReadyH.cons (o := ⟨some 17, _, _, _, _, _⟩) rfl (fun K hK => ?_) ?_
      · go_simp
        (with_reducible refine (copied_pair _ P.length _ _ hP24 (HSP.out.on (HB1.out.trans (hHeld.1.mono HB1.out.size))) (fun W hb => (HSP.out.on (HB1.out.trans (hHeld.1.mono HB1.out.size))).on hb)).mono ?_)
        rintro e u2 ⟨v, rfl, o, hb⟩
        have o2 := World.ownsRow.mono o hHeld.1.size
        obtain ⟨A2, c2, rfl, -⟩ := own_sl o2
        clear o
        replace o1 := O2P.on _ _ _ _ _ hb o1
        (try dsimp only)
        refine hK.out _ _ (HKP.out _ (hHeld.1.trans (hb.mono hHeld.1.size))) (fun hNext => ?_)
        clear hK K hHeld
        have hHeld := hNext
        clear hNext
        clear hb
        try simp only [Act.put, List.setIfInBounds_toArray, List.set_cons_zero, List.set_cons_succ]
        refine wpAnyH_ready (rs := [15, 21]) (by kernel_rfl) (by simp) ?_
        refine AllReadyH.cons (o := ⟨some 21, _, _, _, _, _⟩) rfl (fun K hK => ?_) ?_
        · go_simp
          (with_reducible refine (copied_way _ Q.length _ _ hQ24 (HSW.out.on (HB1.out.trans (hHeld.1.mono HB1.out.size))) (fun W hb => (HSW.out.on (HB1.out.trans (hHeld.1.mono HB1.out.size))).on hb)).mono ?_)
          rintro e u3 ⟨v, rfl, o, hb⟩
          have o3 := World.ownsRow.mono o hHeld.1.size
          obtain ⟨A3, c3, rfl, -⟩ := own_sl o3
          clear o
          replace o1 := O2P.on _ _ _ _ _ hb o1
          replace o2 := own_on o2 hb
          (try dsimp only)
          refine hK.out _ _ (HKP.out _ (hHeld.1.trans (hb.mono hHeld.1.size))) (fun hNext => ?_)
          clear hK K hHeld
          have hHeld := hNext
          clear hNext
          clear hb
          try simp only [Act.put, List.setIfInBounds_toArray, List.set_cons_zero, List.set_cons_succ]
          refine wpAnyH_take (i := 16) (oi := ⟨some 22, _, _, _, _, _⟩) (v := ?vct16) rfl (by kernel_rfl) (by kernel_rfl) (by kernel_rfl) (fun _ _ _ h => h) (Or.inl ⟨by rfl, ?yct16⟩) hHeld ?rct16
          case yct16 => (intro w' hSw; (try dsimp only at hSw); go_simp; try (with_reducible rfl))
          simp only [Act.put, List.setIfInBounds_toArray, List.set_cons_zero, List.set_cons_succ]
          refine wpAnyH_ready (rs := [19, 21]) (by kernel_rfl) (by simp) ?_
          refine AllReadyH.cons (o := ⟨some 25, _, _, _, _, _⟩) rfl (fun K hK => ?_) ?_
          · go_simp
            (with_reducible refine (copied_tabs _ BB.length _ _ hB24 (HSB.out.on (HB1.out.trans (hHeld.1.mono HB1.out.size))) (fun W hb => (HSB.out.on (HB1.out.trans (hHeld.1.mono HB1.out.size))).on hb)).mono ?_)
            rintro e u4 ⟨v, rfl, o, hb⟩
            have o4 := World.ownsRow.mono o hHeld.1.size
            obtain ⟨A4, c4, rfl, -⟩ := own_sl o4
            clear o
            replace o1 := O2P.on _ _ _ _ _ hb o1
            replace o2 := own_on o2 hb
            replace o3 := own_on o3 hb
            (try dsimp only)
            refine hK.out _ _ (HKP.out _ (hHeld.1.trans (hb.mono hHeld.1.size))) (fun hNext => ?_)
            clear hK K hHeld
            have hHeld := hNext
            clear hNext
            clear hb
            try simp only [Act.put, List.setIfInBounds_toArray, List.set_cons_zero, List.set_cons_succ]
            refine wpAnyH_take (i := 20) (oi := ⟨some 26, _, _, _, _, _⟩) (v := ?vct17) rfl (by kernel_rfl) (by kernel_rfl) (by kernel_rfl) (fun _ _ _ h => h) (Or.inl ⟨by rfl, ?yct17⟩) hHeld ?rct17
            case yct17 => (intro w' hSw; (try dsimp only at hSw); go_simp; try (with_reducible rfl))
            simp only [Act.put, List.setIfInBounds_toArray, List.set_cons_zero, List.set_cons_succ]
            refine wpAnyH_ready (rs := [21]) (by kernel_rfl) (by simp) ?_
            refine AllReadyH.cons (o := ⟨some 3, _, _, _, _, _⟩) rfl (fun K hK => ?_) AllReadyH.nil
            go_simp
            have hb := below1 u4 (.cells #[.slice none 0 0, .int .i64 0, .slice none 0 0, .slice none 0 0, .slice none 0 0] 31)
            refine hK.out _ _ (HKP.out _ (hHeld.1.trans (hb.mono hHeld.1.size))) (fun hNext => ?_)
            have t : Nb w1.heap.size (u4.alloc (.cells #[.slice none 0 0, .int .i64 0, .slice none 0 0, .slice none 0 0, .slice none 0 0] 31)) u4.heap.size 31 #[.slice none 0 0, .int .i64 0, .slice none 0 0, .slice none 0 0, .slice none 0 0] := Nb.top u4 hHeld.1.size
            replace o1 := O2P.on _ _ _ _ _ hb o1
            replace o2 := own_on o2 hb
            replace o3 := own_on o3 hb
            replace o4 := own_on o4 hb
            clear hK K hHeld
            have hHeld := hNext
            clear hNext
            clear hb
            generalize hgen : (u4.alloc (.cells #[.slice none 0 0, .int .i64 0, .slice none 0 0, .slice none 0 0, .slice none 0 0] 31)) = u5 at hHeld t o1 o2 o3 o4 ⊢
            clear hgen
            generalize hgen : u4.heap.size = bn at t ⊢
            clear hgen
            try simp only [Act.put, List.setIfInBounds_toArray, List.set_cons_zero, List.set_cons_succ]
            refine wpAnyH_ready (rs := [22]) (by kernel_rfl) (by simp) ?_
            refine AllReadyH.cons (o := ⟨none, _, _, _, _, _⟩) rfl (fun K hK => ?_) AllReadyH.nil
            rw [if_pos (by rfl)]
            refine wp_store_mid 31 _ _ rfl bn 0 #[.slice A1 T.length c1, .int .i64 ten, .slice A2 P.length c2, .slice A3 Q.length c3, .slice A4 BB.length c4] rfl rfl (show World.there _ _ _ 5 from t.there) infoCfg (by simp [Value.oneCell']) ?_
            (try dsimp only)
            have hTB : TB u5 bn 31 := ⟨_, _, t.1⟩
            replace o1 := farS (P := fun W => O2P w1.heap.size W (.slice A1 T.length c1) T) (fun W i u h1 h2 => O2P.far (by decide) (by decide) W bn i u _ _ h1 h2) [.slice A1 T.length c1, .int .i64 ten, .slice A2 P.length c2, .slice A3 Q.length c3, .slice A4 BB.length c4] 0 u5 hTB o1
            replace o2 := ownFar hTB (by decide) [.slice A1 T.length c1, .int .i64 ten, .slice A2 P.length c2, .slice A3 Q.length c3, .slice A4 BB.length c4] o2
            replace o3 := ownFar hTB (by decide) [.slice A1 T.length c1, .int .i64 ten, .slice A2 P.length c2, .slice A3 Q.length c3, .slice A4 BB.length c4] o3
            replace o4 := ownFar hTB (by decide) [.slice A1 T.length c1, .int .i64 ten, .slice A2 P.length c2, .slice A3 Q.length c3, .slice A4 BB.length c4] o4
            refine hK.out _ _ (HKP.out _ (Below.setCells _ _ _ hHeld.1 t.2)) (fun hNext => ?_)
            clear hK K hHeld
            have hHeld := hNext
            clear hNext
            have tk := t.2
            have ts : Blk _ bn 31 #[.slice A1 T.length c1, .int .i64 ten, .slice A2 P.length c2, .slice A3 Q.length c3, .slice A4 BB.length c4] := Blk.putC [.slice A1 T.length c1, .int .i64 ten, .slice A2 P.length c2, .slice A3 Q.length c3, .slice A4 BB.length c4] 0 _ _ t.1
            clear t hTB
            try simp only [Act.put]
            refine wpAnyH_done (by kernel_rfl) ?_ _
            go_wp2_with fail
            go_meet
            exact ⟨_, _, _, _, _, _, _, _, _, rfl, tk, hHeld.1, ts, o1, o2, o3, o4⟩
          refine AllReadyH.cons (o := ⟨some 3, _, _, _, _, _⟩) rfl (fun K hK => ?_) AllReadyH.nil
          go_simp
          have hb := below1 u3 (.cells #[.slice none 0 0, .int .i64 0, .slice none 0 0, .slice none 0 0, .slice none 0 0] 31)
          refine hK.out _ _ (HKP.out _ (hHeld.1.trans (hb.mono hHeld.1.size))) (fun hNext => ?_)
          have t : Nb w1.heap.size (u3.alloc (.cells #[.slice none 0 0, .int .i64 0, .slice none 0 0, .slice none 0 0, .slice none 0 0] 31)) u3.heap.size 31 #[.slice none 0 0, .int .i64 0, .slice none 0 0, .slice none 0 0, .slice none 0 0] := Nb.top u3 hHeld.1.size
          replace o1 := O2P.on _ _ _ _ _ hb o1
          replace o2 := own_on o2 hb
          replace o3 := own_on o3 hb
          clear hK K hHeld
          have hHeld := hNext
          clear hNext
          clear hb
          generalize hgen : (u3.alloc (.cells #[.slice none 0 0, .int .i64 0, .slice none 0 0, .slice none 0 0, .slice none 0 0] 31)) = u6 at hHeld t o1 o2 o3 ⊢
          clear hgen
          generalize hgen : u3.heap.size = bn at t ⊢
          clear hgen
          try simp only [Act.put, List.setIfInBounds_toArray, List.set_cons_zero, List.set_cons_succ]
          refine wpAnyH_ready (rs := [19]) (by kernel_rfl) (by simp) ?_
          refine AllReadyH.cons (o := ⟨some 25, _, _, _, _, _⟩) rfl (fun K hK => ?_) AllReadyH.nil
          go_simp
          (with_reducible refine (copied_tabs _ BB.length _ _ hB24 (HSB.out.on (HB1.out.trans (hHeld.1.mono HB1.out.size))) (fun W hb => (HSB.out.on (HB1.out.trans (hHeld.1.mono HB1.out.size))).on hb)).mono ?_)
          rintro e u7 ⟨v, rfl, o, hb⟩
          have o4 := World.ownsRow.mono o hHeld.1.size
          obtain ⟨A4, c4, rfl, -⟩ := own_sl o4
          clear o
          replace o1 := O2P.on _ _ _ _ _ hb o1
          replace o2 := own_on o2 hb
          replace o3 := own_on o3 hb
          replace t := t.on hb
          (try dsimp only)
          refine hK.out _ _ (HKP.out _ (hHeld.1.trans (hb.mono hHeld.1.size))) (fun hNext => ?_)
          clear hK K hHeld
          have hHeld := hNext
          clear hNext
          clear hb
          try simp only [Act.put, List.setIfInBounds_toArray, List.set_cons_zero, List.set_cons_succ]
          refine wpAnyH_take (i := 20) (oi := ⟨some 26, _, _, _, _, _⟩) (v := ?vct18) rfl (by kernel_rfl) (by kernel_rfl) (by kernel_rfl) (fun _ _ _ h => h) (Or.inl ⟨by rfl, ?yct18⟩) hHeld ?rct18
          case yct18 => (intro w' hSw; (try dsimp only at hSw); go_simp; try (with_reducible rfl))
          simp only [Act.put, List.setIfInBounds_toArray, List.set_cons_zero, List.set_cons_succ]
          refine wpAnyH_ready (rs := [22]) (by kernel_rfl) (by simp) ?_
          refine AllReadyH.cons (o := ⟨none, _, _, _, _, _⟩) rfl (fun K hK => ?_) AllReadyH.nil
          rw [if_pos (by rfl)]
          refine wp_store_mid 31 _ _ rfl bn 0 #[.slice A1 T.length c1, .int .i64 ten, .slice A2 P.length c2, .slice A3 Q.length c3, .slice A4 BB.length c4] rfl rfl (show World.there _ _ _ 5 from t.there) infoCfg (by simp [Value.oneCell']) ?_
          (try dsimp only)
          have hTB : TB u7 bn 31 := ⟨_, _, t.1⟩
          replace o1 := farS (P := fun W => O2P w1.heap.size W (.slice A1 T.length c1) T) (fun W i u h1 h2 => O2P.far (by decide) (by decide) W bn i u _ _ h1 h2) [.slice A1 T.length c1, .int .i64 ten, .slice A2 P.length c2, .slice A3 Q.length c3, .slice A4 BB.length c4] 0 u7 hTB o1
          replace o2 := ownFar hTB (by decide) [.slice A1 T.length c1, .int .i64 ten, .slice A2 P.length c2, .slice A3 Q.length c3, .slice A4 BB.length c4] o2
          replace o3 := ownFar hTB (by decide) [.slice A1 T.length c1, .int .i64 ten, .slice A2 P.length c2, .slice A3 Q.length c3, .slice A4 BB.length c4] o3
          replace o4 := ownFar hTB (by decide) [.slice A1 T.length c1, .int .i64 ten, .slice A2 P.length c2, .slice A3 Q.length c3, .slice A4 BB.length c4] o4
          refine hK.out _ _ (HKP.out _ (Below.setCells _ _ _ hHeld.1 t.2)) (fun hNext => ?_)
          clear hK K hHeld
          have hHeld := hNext
          clear hNext
          have tk := t.2
          have ts : Blk _ bn 31 #[.slice A1 T.length c1, .int .i64 ten, .slice A2 P.length c2, .slice A3 Q.length c3, .slice A4 BB.length c4] := Blk.putC [.slice A1 T.length c1, .int .i64 ten, .slice A2 P.length c2, .slice A3 Q.length c3, .slice A4 BB.length c4] 0 _ _ t.1
          clear t hTB
          try simp only [Act.put]
          refine wpAnyH_done (by kernel_rfl) ?_ _
          go_wp2_with fail
          go_meet
          exact ⟨_, _, _, _, _, _, _, _, _, rfl, tk, hHeld.1, ts, o1, o2, o3, o4⟩
        refine AllReadyH.cons (o := ⟨some 3, _, _, _, _, _⟩) rfl (fun K hK => ?_) AllReadyH.nil
        go_simp
        have hb := below1 u2 (.cells #[.slice none 0 0, .int .i64 0, .slice none 0 0, .slice none 0 0, .slice none 0 0] 31)
        refine hK.out _ _ (HKP.out _ (hHeld.1.trans (hb.mono hHeld.1.size))) (fun hNext => ?_)
        have t : Nb w1.heap.size (u2.alloc (.cells #[.slice none 0 0, .int .i64 0, .slice none 0 0, .slice none 0 0, .slice none 0 0] 31)) u2.heap.size 31 #[.slice none 0 0, .int .i64 0, .slice none 0 0, .slice none 0 0, .slice none 0 0] := Nb.top u2 hHeld.1.size
        replace o1 := O2P.on _ _ _ _ _ hb o1
        replace o2 := own_on o2 hb
        clear hK K hHeld
        have hHeld := hNext
        clear hNext
        clear hb
        generalize hgen : (u2.alloc (.cells #[.slice none 0 0, .int .i64 0, .slice none 0 0, .slice none 0 0, .slice none 0 0] 31)) = u8 at hHeld t o1 o2 ⊢
        clear hgen
        generalize hgen : u2.heap.size = bn at t ⊢
        clear hgen
        try simp only [Act.put, List.setIfInBounds_toArray, List.set_cons_zero, List.set_cons_succ]
        refine wpAnyH_ready (rs := [15]) (by kernel_rfl) (by simp) ?_
        refine AllReadyH.cons (o := ⟨some 21, _, _, _, _, _⟩) rfl (fun K hK => ?_) AllReadyH.nil
        go_simp
        (with_reducible refine (copied_way _ Q.length _ _ hQ24 (HSW.out.on (HB1.out.trans (hHeld.1.mono HB1.out.size))) (fun W hb => (HSW.out.on (HB1.out.trans (hHeld.1.mono HB1.out.size))).on hb)).mono ?_)
        rintro e u9 ⟨v, rfl, o, hb⟩
        have o3 := World.ownsRow.mono o hHeld.1.size
        obtain ⟨A3, c3, rfl, -⟩ := own_sl o3
        clear o
        replace o1 := O2P.on _ _ _ _ _ hb o1
        replace o2 := own_on o2 hb
        replace t := t.on hb
        (try dsimp only)
        refine hK.out _ _ (HKP.out _ (hHeld.1.trans (hb.mono hHeld.1.size))) (fun hNext => ?_)
        clear hK K hHeld
        have hHeld := hNext
        clear hNext
        clear hb
        try simp only [Act.put, List.setIfInBounds_toArray, List.set_cons_zero, List.set_cons_succ]
        refine wpAnyH_take (i := 16) (oi := ⟨some 22, _, _, _, _, _⟩) (v := ?vct19) rfl (by kernel_rfl) (by kernel_rfl) (by kernel_rfl) (fun _ _ _ h => h) (Or.inl ⟨by rfl, ?yct19⟩) hHeld ?rct19
        case yct19 => (intro w' hSw; (try dsimp only at hSw); go_simp; try (with_reducible rfl))
        simp only [Act.put, List.setIfInBounds_toArray, List.set_cons_zero, List.set_cons_succ]
        refine wpAnyH_ready (rs := [19]) (by kernel_rfl) (by simp) ?_
        refine AllReadyH.cons (o := ⟨some 25, _, _, _, _, _⟩) rfl (fun K hK => ?_) AllReadyH.nil
        go_simp
        (with_reducible refine (copied_tabs _ BB.length _ _ hB24 (HSB.out.on (HB1.out.trans (hHeld.1.mono HB1.out.size))) (fun W hb => (HSB.out.on (HB1.out.trans (hHeld.1.mono HB1.out.size))).on hb)).mono ?_)
        rintro e u10 ⟨v, rfl, o, hb⟩
        have o4 := World.ownsRow.mono o hHeld.1.size
        obtain ⟨A4, c4, rfl, -⟩ := own_sl o4
        clear o
        replace o1 := O2P.on _ _ _ _ _ hb o1
        replace o2 := own_on o2 hb
        replace o3 := own_on o3 hb
        replace t := t.on hb
        (try dsimp only)
        refine hK.out _ _ (HKP.out _ (hHeld.1.trans (hb.mono hHeld.1.size))) (fun hNext => ?_)
        clear hK K hHeld
        have hHeld := hNext
        clear hNext
        clear hb
        try simp only [Act.put, List.setIfInBounds_toArray, List.set_cons_zero, List.set_cons_succ]
        refine wpAnyH_take (i := 20) (oi := ⟨some 26, _, _, _, _, _⟩) (v := ?vct20) rfl (by kernel_rfl) (by kernel_rfl) (by kernel_rfl) (fun _ _ _ h => h) (Or.inl ⟨by rfl, ?yct20⟩) hHeld ?rct20
        case yct20 => (intro w' hSw; (try dsimp only at hSw); go_simp; try (with_reducible rfl))
        simp only [Act.put, List.setIfInBounds_toArray, List.set_cons_zero, List.set_cons_succ]
        refine wpAnyH_ready (rs := [22]) (by kernel_rfl) (by simp) ?_
        refine AllReadyH.cons (o := ⟨none, _, _, _, _, _⟩) rfl (fun K hK => ?_) AllReadyH.nil
        rw [if_pos (by rfl)]
        refine wp_store_mid 31 _ _ rfl bn 0 #[.slice A1 T.length c1, .int .i64 ten, .slice A2 P.length c2, .slice A3 Q.length c3, .slice A4 BB.length c4] rfl rfl (show World.there _ _ _ 5 from t.there) infoCfg (by simp [Value.oneCell']) ?_
        (try dsimp only)
        have hTB : TB u10 bn 31 := ⟨_, _, t.1⟩
        replace o1 := farS (P := fun W => O2P w1.heap.size W (.slice A1 T.length c1) T) (fun W i u h1 h2 => O2P.far (by decide) (by decide) W bn i u _ _ h1 h2) [.slice A1 T.length c1, .int .i64 ten, .slice A2 P.length c2, .slice A3 Q.length c3, .slice A4 BB.length c4] 0 u10 hTB o1
        replace o2 := ownFar hTB (by decide) [.slice A1 T.length c1, .int .i64 ten, .slice A2 P.length c2, .slice A3 Q.length c3, .slice A4 BB.length c4] o2
        replace o3 := ownFar hTB (by decide) [.slice A1 T.length c1, .int .i64 ten, .slice A2 P.length c2, .slice A3 Q.length c3, .slice A4 BB.length c4] o3
        replace o4 := ownFar hTB (by decide) [.slice A1 T.length c1, .int .i64 ten, .slice A2 P.length c2, .slice A3 Q.length c3, .slice A4 BB.length c4] o4
        refine hK.out _ _ (HKP.out _ (Below.setCells _ _ _ hHeld.1 t.2)) (fun hNext => ?_)
        clear hK K hHeld
        have hHeld := hNext
        clear hNext
        have tk := t.2
        have ts : Blk _ bn 31 #[.slice A1 T.length c1, .int .i64 ten, .slice A2 P.length c2, .slice A3 Q.length c3, .slice A4 BB.length c4] := Blk.putC [.slice A1 T.length c1, .int .i64 ten, .slice A2 P.length c2, .slice A3 Q.length c3, .slice A4 BB.length c4] 0 _ _ t.1
        clear t hTB
        try simp only [Act.put]
        refine wpAnyH_done (by kernel_rfl) ?_ _
        go_wp2_with fail
        go_meet
        exact ⟨_, _, _, _, _, _, _, _, _, rfl, tk, hHeld.1, ts, o1, o2, o3, o4⟩
      refine AllReadyH.cons (o := ⟨some 3, _, _, _, _, _⟩) rfl (fun K hK => ?_) AllReadyH.nil
      go_simp
      have hb := below1 u1 (.cells #[.slice none 0 0, .int .i64 0, .slice none 0 0, .slice none 0 0, .slice none 0 0] 31)
      refine hK.out _ _ (HKP.out _ (hHeld.1.trans (hb.mono hHeld.1.size))) (fun hNext => ?_)
      have t : Nb w1.heap.size (u1.alloc (.cells #[.slice none 0 0, .int .i64 0, .slice none 0 0, .slice none 0 0, .slice none 0 0] 31)) u1.heap.size 31 #[.slice none 0 0, .int .i64 0, .slice none 0 0, .slice none 0 0, .slice none 0 0] := Nb.top u1 hHeld.1.size
      replace o1 := O2P.on _ _ _ _ _ hb o1
      clear hK K hHeld
      have hHeld := hNext
      clear hNext
      clear hb
      generalize hgen : (u1.alloc (.cells #[.slice none 0 0, .int .i64 0, .slice none 0 0, .slice none 0 0, .slice none 0 0] 31)) = u11 at hHeld t o1 ⊢
      clear hgen
      generalize hgen : u1.heap.size = bn at t ⊢
      clear hgen
      try simp only [Act.put, List.setIfInBounds_toArray, List.set_cons_zero, List.set_cons_succ]
      refine wpAnyH_ready (rs := [11]) (by kernel_rfl) (by simp) ?_
      refine AllReadyH.cons (o := ⟨some 17, _, _, _, _, _⟩) rfl (fun K hK => ?_) AllReadyH.nil
      go_simp
      (with_reducible refine (copied_pair _ P.length _ _ hP24 (HSP.out.on (HB1.out.trans (hHeld.1.mono HB1.out.size))) (fun W hb => (HSP.out.on (HB1.out.trans (hHeld.1.mono HB1.out.size))).on hb)).mono ?_)
      rintro e u12 ⟨v, rfl, o, hb⟩
      have o2 := World.ownsRow.mono o hHeld.1.size
      obtain ⟨A2, c2, rfl, -⟩ := own_sl o2
      clear o
      replace o1 := O2P.on _ _ _ _ _ hb o1
      replace t := t.on hb
      (try dsimp only)
      refine hK.out _ _ (HKP.out _ (hHeld.1.trans (hb.mono hHeld.1.size))) (fun hNext => ?_)
      clear hK K hHeld
      have hHeld := hNext
      clear hNext
      clear hb
      try simp only [Act.put, List.setIfInBounds_toArray, List.set_cons_zero, List.set_cons_succ]
      refine wpAnyH_ready (rs := [15]) (by kernel_rfl) (by simp) ?_
      refine AllReadyH.cons (o := ⟨some 21, _, _, _, _, _⟩) rfl (fun K hK => ?_) AllReadyH.nil
      go_simp
      (with_reducible refine (copied_way _ Q.length _ _ hQ24 (HSW.out.on (HB1.out.trans (hHeld.1.mono HB1.out.size))) (fun W hb => (HSW.out.on (HB1.out.trans (hHeld.1.mono HB1.out.size))).on hb)).mono ?_)
      rintro e u13 ⟨v, rfl, o, hb⟩
      have o3 := World.ownsRow.mono o hHeld.1.size
      obtain ⟨A3, c3, rfl, -⟩ := own_sl o3
      clear o
      replace o1 := O2P.on _ _ _ _ _ hb o1
      replace o2 := own_on o2 hb
      replace t := t.on hb
      (try dsimp only)
      refine hK.out _ _ (HKP.out _ (hHeld.1.trans (hb.mono hHeld.1.size))) (fun hNext => ?_)
      clear hK K hHeld
      have hHeld := hNext
      clear hNext
      clear hb
      try simp only [Act.put, List.setIfInBounds_toArray, List.set_cons_zero, List.set_cons_succ]
      refine wpAnyH_take (i := 16) (oi := ⟨some 22, _, _, _, _, _⟩) (v := ?vct21) rfl (by kernel_rfl) (by kernel_rfl) (by kernel_rfl) (fun _ _ _ h => h) (Or.inl ⟨by rfl, ?yct21⟩) hHeld ?rct21
      case yct21 => (intro w' hSw; (try dsimp only at hSw); go_simp; try (with_reducible rfl))
      simp only [Act.put, List.setIfInBounds_toArray, List.set_cons_zero, List.set_cons_succ]
      refine wpAnyH_ready (rs := [19]) (by kernel_rfl) (by simp) ?_
      refine AllReadyH.cons (o := ⟨some 25, _, _, _, _, _⟩) rfl (fun K hK => ?_) AllReadyH.nil
      go_simp
      (with_reducible refine (copied_tabs _ BB.length _ _ hB24 (HSB.out.on (HB1.out.trans (hHeld.1.mono HB1.out.size))) (fun W hb => (HSB.out.on (HB1.out.trans (hHeld.1.mono HB1.out.size))).on hb)).mono ?_)
      rintro e u14 ⟨v, rfl, o, hb⟩
      have o4 := World.ownsRow.mono o hHeld.1.size
      obtain ⟨A4, c4, rfl, -⟩ := own_sl o4
      clear o
      replace o1 := O2P.on _ _ _ _ _ hb o1
      replace o2 := own_on o2 hb
      replace o3 := own_on o3 hb
      replace t := t.on hb
      (try dsimp only)
      refine hK.out _ _ (HKP.out _ (hHeld.1.trans (hb.mono hHeld.1.size))) (fun hNext => ?_)
      clear hK K hHeld
      have hHeld := hNext
      clear hNext
      clear hb
      try simp only [Act.put, List.setIfInBounds_toArray, List.set_cons_zero, List.set_cons_succ]
      refine wpAnyH_take (i := 20) (oi := ⟨some 26, _, _, _, _, _⟩) (v := ?vct22) rfl (by kernel_rfl) (by kernel_rfl) (by kernel_rfl) (fun _ _ _ h => h) (Or.inl ⟨by rfl, ?yct22⟩) hHeld ?rct22
      case yct22 => (intro w' hSw; (try dsimp only at hSw); go_simp; try (with_reducible rfl))
      simp only [Act.put, List.setIfInBounds_toArray, List.set_cons_zero, List.set_cons_succ]
      refine wpAnyH_ready (rs := [22]) (by kernel_rfl) (by simp) ?_
      refine AllReadyH.cons (o := ⟨none, _, _, _, _, _⟩) rfl (fun K hK => ?_) AllReadyH.nil
      rw [if_pos (by rfl)]
      refine wp_store_mid 31 _ _ rfl bn 0 #[.slice A1 T.length c1, .int .i64 ten, .slice A2 P.length c2, .slice A3 Q.length c3, .slice A4 BB.length c4] rfl rfl (show World.there _ _ _ 5 from t.there) infoCfg (by simp [Value.oneCell']) ?_
      (try dsimp only)
      have hTB : TB u14 bn 31 := ⟨_, _, t.1⟩
      replace o1 := farS (P := fun W => O2P w1.heap.size W (.slice A1 T.length c1) T) (fun W i u h1 h2 => O2P.far (by decide) (by decide) W bn i u _ _ h1 h2) [.slice A1 T.length c1, .int .i64 ten, .slice A2 P.length c2, .slice A3 Q.length c3, .slice A4 BB.length c4] 0 u14 hTB o1
      replace o2 := ownFar hTB (by decide) [.slice A1 T.length c1, .int .i64 ten, .slice A2 P.length c2, .slice A3 Q.length c3, .slice A4 BB.length c4] o2
      replace o3 := ownFar hTB (by decide) [.slice A1 T.length c1, .int .i64 ten, .slice A2 P.length c2, .slice A3 Q.length c3, .slice A4 BB.length c4] o3
      replace o4 := ownFar hTB (by decide) [.slice A1 T.length c1, .int .i64 ten, .slice A2 P.length c2, .slice A3 Q.length c3, .slice A4 BB.length c4] o4
      refine hK.out _ _ (HKP.out _ (Below.setCells _ _ _ hHeld.1 t.2)) (fun hNext => ?_)
      clear hK K hHeld
      have hHeld := hNext
      clear hNext
      have tk := t.2
      have ts : Blk _ bn 31 #[.slice A1 T.length c1, .int .i64 ten, .slice A2 P.length c2, .slice A3 Q.length c3, .slice A4 BB.length c4] := Blk.putC [.slice A1 T.length c1, .int .i64 ten, .slice A2 P.length c2, .slice A3 Q.length c3, .slice A4 BB.length c4] 0 _ _ t.1
      clear t hTB
      try simp only [Act.put]
      refine wpAnyH_done (by kernel_rfl) ?_ _
      go_wp2_with fail
      go_meet
      exact ⟨_, _, _, _, _, _, _, _, _, rfl, tk, hHeld.1, ts, o1, o2, o3, o4⟩
    refine AllReadyH.cons (o := ⟨some 3, _, _, _, _, _⟩) rfl (fun K hK => ?_) AllReadyH.nil
    go_simp
    have hb := below1 u0 (.cells #[.slice none 0 0, .int .i64 0, .slice none 0 0, .slice none 0 0, .slice none 0 0] 31)
    refine hK.out _ _ (HKP.out _ (hHeld.1.trans (hb.mono hHeld.1.size))) (fun hNext => ?_)
    have t : Nb w1.heap.size (u0.alloc (.cells #[.slice none 0 0, .int .i64 0, .slice none 0 0, .slice none 0 0, .slice none 0 0] 31)) u0.heap.size 31 #[.slice none 0 0, .int .i64 0, .slice none 0 0, .slice none 0 0, .slice none 0 0] := Nb.top u0 hHeld.1.size
    clear hK K hHeld
    have hHeld := hNext
    clear hNext
    clear hb
    generalize hgen : (u0.alloc (.cells #[.slice none 0 0, .int .i64 0, .slice none 0 0, .slice none 0 0, .slice none 0 0] 31)) = u15 at hHeld t  ⊢
    clear hgen
    generalize hgen : u0.heap.size = bn at t ⊢
    clear hgen
    try simp only [Act.put, List.setIfInBounds_toArray, List.set_cons_zero, List.set_cons_succ]
    refine wpAnyH_ready (rs := [3]) (by kernel_rfl) (by simp) ?_
    refine AllReadyH.cons (o := ⟨some 9, _, _, _, _, _⟩) rfl (fun K hK => ?_) AllReadyH.nil
    go_simp
    (with_reducible refine (clists_ports _ T _ (HT.out.on (HB1.out.trans (hHeld.1.mono HB1.out.size))) h24 hin).mono ?_)
    rintro e u16 ⟨v, rfl, o, hb⟩
    have o1 := O2P.mono hHeld.1.size o
    obtain ⟨A1, c1, rfl, -, -⟩ := OwG.rd o1
    clear o
    replace t := t.on hb
    (try dsimp only)
    refine hK.out _ _ (HKP.out _ (hHeld.1.trans (hb.mono hHeld.1.size))) (fun hNext => ?_)
    clear hK K hHeld
    have hHeld := hNext
    clear hNext
    clear hb
    try simp only [Act.put, List.setIfInBounds_toArray, List.set_cons_zero, List.set_cons_succ]
    refine wpAnyH_take (i := 4) (oi := ⟨some 10, _, _, _, _, _⟩) (v := ?vct23) rfl (by kernel_rfl) (by kernel_rfl) (by kernel_rfl) (fun _ _ _ h => h) (Or.inl ⟨by rfl, ?yct23⟩) hHeld ?rct23
    case yct23 => (intro w' hSw; (try dsimp only at hSw); go_simp; try (with_reducible rfl))
    simp only [Act.put, List.setIfInBounds_toArray, List.set_cons_zero, List.set_cons_succ]
    refine wpAnyH_ready (rs := [11]) (by kernel_rfl) (by simp) ?_
    refine AllReadyH.cons (o := ⟨some 17, _, _, _, _, _⟩) rfl (fun K hK => ?_) AllReadyH.nil
    go_simp
    (with_reducible refine (copied_pair _ P.length _ _ hP24 (HSP.out.on (HB1.out.trans (hHeld.1.mono HB1.out.size))) (fun W hb => (HSP.out.on (HB1.out.trans (hHeld.1.mono HB1.out.size))).on hb)).mono ?_)
    rintro e u17 ⟨v, rfl, o, hb⟩
    have o2 := World.ownsRow.mono o hHeld.1.size
    obtain ⟨A2, c2, rfl, -⟩ := own_sl o2
    clear o
    replace o1 := O2P.on _ _ _ _ _ hb o1
    replace t := t.on hb
    (try dsimp only)
    refine hK.out _ _ (HKP.out _ (hHeld.1.trans (hb.mono hHeld.1.size))) (fun hNext => ?_)
    clear hK K hHeld
    have hHeld := hNext
    clear hNext
    clear hb
    try simp only [Act.put, List.setIfInBounds_toArray, List.set_cons_zero, List.set_cons_succ]
    refine wpAnyH_ready (rs := [15]) (by kernel_rfl) (by simp) ?_
    refine AllReadyH.cons (o := ⟨some 21, _, _, _, _, _⟩) rfl (fun K hK => ?_) AllReadyH.nil
    go_simp
    (with_reducible refine (copied_way _ Q.length _ _ hQ24 (HSW.out.on (HB1.out.trans (hHeld.1.mono HB1.out.size))) (fun W hb => (HSW.out.on (HB1.out.trans (hHeld.1.mono HB1.out.size))).on hb)).mono ?_)
    rintro e u18 ⟨v, rfl, o, hb⟩
    have o3 := World.ownsRow.mono o hHeld.1.size
    obtain ⟨A3, c3, rfl, -⟩ := own_sl o3
    clear o
    replace o1 := O2P.on _ _ _ _ _ hb o1
    replace o2 := own_on o2 hb
    replace t := t.on hb
    (try dsimp only)
    refine hK.out _ _ (HKP.out _ (hHeld.1.trans (hb.mono hHeld.1.size))) (fun hNext => ?_)
    clear hK K hHeld
    have hHeld := hNext
    clear hNext
    clear hb
    try simp only [Act.put, List.setIfInBounds_toArray, List.set_cons_zero, List.set_cons_succ]
    refine wpAnyH_take (i := 16) (oi := ⟨some 22, _, _, _, _, _⟩) (v := ?vct24) rfl (by kernel_rfl) (by kernel_rfl) (by kernel_rfl) (fun _ _ _ h => h) (Or.inl ⟨by rfl, ?yct24⟩) hHeld ?rct24
    case yct24 => (intro w' hSw; (try dsimp only at hSw); go_simp; try (with_reducible rfl))
    simp only [Act.put, List.setIfInBounds_toArray, List.set_cons_zero, List.set_cons_succ]
    refine wpAnyH_ready (rs := [19]) (by kernel_rfl) (by simp) ?_
    refine AllReadyH.cons (o := ⟨some 25, _, _, _, _, _⟩) rfl (fun K hK => ?_) AllReadyH.nil
    go_simp
    (with_reducible refine (copied_tabs _ BB.length _ _ hB24 (HSB.out.on (HB1.out.trans (hHeld.1.mono HB1.out.size))) (fun W hb => (HSB.out.on (HB1.out.trans (hHeld.1.mono HB1.out.size))).on hb)).mono ?_)
    rintro e u19 ⟨v, rfl, o, hb⟩
    have o4 := World.ownsRow.mono o hHeld.1.size
    obtain ⟨A4, c4, rfl, -⟩ := own_sl o4
    clear o
    replace o1 := O2P.on _ _ _ _ _ hb o1
    replace o2 := own_on o2 hb
    replace o3 := own_on o3 hb
    replace t := t.on hb
    (try dsimp only)
    refine hK.out _ _ (HKP.out _ (hHeld.1.trans (hb.mono hHeld.1.size))) (fun hNext => ?_)
    clear hK K hHeld
    have hHeld := hNext
    clear hNext
    clear hb
    try simp only [Act.put, List.setIfInBounds_toArray, List.set_cons_zero, List.set_cons_succ]
    refine wpAnyH_take (i := 20) (oi := ⟨some 26, _, _, _, _, _⟩) (v := ?vct25) rfl (by kernel_rfl) (by kernel_rfl) (by kernel_rfl) (fun _ _ _ h => h) (Or.inl ⟨by rfl, ?yct25⟩) hHeld ?rct25
    case yct25 => (intro w' hSw; (try dsimp only at hSw); go_simp; try (with_reducible rfl))
    simp only [Act.put, List.setIfInBounds_toArray, List.set_cons_zero, List.set_cons_succ]
    refine wpAnyH_ready (rs := [22]) (by kernel_rfl) (by simp) ?_
    refine AllReadyH.cons (o := ⟨none, _, _, _, _, _⟩) rfl (fun K hK => ?_) AllReadyH.nil
    rw [if_pos (by rfl)]
    refine wp_store_mid 31 _ _ rfl bn 0 #[.slice A1 T.length c1, .int .i64 ten, .slice A2 P.length c2, .slice A3 Q.length c3, .slice A4 BB.length c4] rfl rfl (show World.there _ _ _ 5 from t.there) infoCfg (by simp [Value.oneCell']) ?_
    (try dsimp only)
    have hTB : TB u19 bn 31 := ⟨_, _, t.1⟩
    replace o1 := farS (P := fun W => O2P w1.heap.size W (.slice A1 T.length c1) T) (fun W i u h1 h2 => O2P.far (by decide) (by decide) W bn i u _ _ h1 h2) [.slice A1 T.length c1, .int .i64 ten, .slice A2 P.length c2, .slice A3 Q.length c3, .slice A4 BB.length c4] 0 u19 hTB o1
    replace o2 := ownFar hTB (by decide) [.slice A1 T.length c1, .int .i64 ten, .slice A2 P.length c2, .slice A3 Q.length c3, .slice A4 BB.length c4] o2
    replace o3 := ownFar hTB (by decide) [.slice A1 T.length c1, .int .i64 ten, .slice A2 P.length c2, .slice A3 Q.length c3, .slice A4 BB.length c4] o3
    replace o4 := ownFar hTB (by decide) [.slice A1 T.length c1, .int .i64 ten, .slice A2 P.length c2, .slice A3 Q.length c3, .slice A4 BB.length c4] o4
    refine hK.out _ _ (HKP.out _ (Below.setCells _ _ _ hHeld.1 t.2)) (fun hNext => ?_)
    clear hK K hHeld
    have hHeld := hNext
    clear hNext
    have tk := t.2
    have ts : Blk _ bn 31 #[.slice A1 T.length c1, .int .i64 ten, .slice A2 P.length c2, .slice A3 Q.length c3, .slice A4 BB.length c4] := Blk.putC [.slice A1 T.length c1, .int .i64 ten, .slice A2 P.length c2, .slice A3 Q.length c3, .slice A4 BB.length c4] 0 _ _ t.1
    clear t hTB
    try simp only [Act.put]
    refine wpAnyH_done (by kernel_rfl) ?_ _
    go_wp2_with fail
    go_meet
    exact ⟨_, _, _, _, _, _, _, _, _, rfl, tk, hHeld.1, ts, o1, o2, o3, o4⟩
  case rest =>
    obtain ⟨b3, A1, c1, A2, c2, A3, c3, A4, c4, rfl, hb3, hbl, kb, k1, k2, k3, k4⟩ := hcut
    obtain ⟨-, -, -, -, hA4⟩ : True ∧ True ∧ True ∧ True ∧ (0 < BB.length → ∃ g, A4 = some ⟨g, 0, none⟩) := ⟨trivial, trivial, trivial, trivial, by obtain ⟨A', c', e, h⟩ := own_sl k4; injection e with e1; subst e1; exact h⟩
    have HA4 := Lib.hid hA4
    have hbz : (BB.length : Int) ≤ 5864062014634 := by omega
    have HC : Hid (Cn w1 wc b3 ten (.slice A1 T.length c1) (.slice A2 P.length c2) (.slice A3 Q.length c3) (.slice A4 BB.length c4) T P Q BB hs 0) := ⟨kb, k1, k2, k3, ClG.start k4, hbl⟩
    clear hbl kb k1 k2 k3 k4 hA4
    obtain ⟨d0, d1, d2, d3, d4⟩ := HC.out.box.five
    go_wp2
    clear d0 d1 d2 d3 d4
    go_loopg [4, 5, 30] BB.length (fun gk _ _ s30 wr => ∃ k : Nat, k ≤ BB.length ∧ gk = BB.length - k ∧ s30 = .int .i64 k ∧ Hid (Cn w1 wr b3 ten (.slice A1 T.length c1) (.slice A2 P.length c2) (.slice A3 Q.length c3) (.slice A4 BB.length c4) T P Q BB hs k))
    case atStart => exact ⟨0, Nat.zero_le _, rfl, rfl, HC⟩
    case round =>
      clear HC
      obtain ⟨k, hk, rfl, rfl, HC⟩ := hrel
      by_cases hlt : k < BB.length
      · have hltz : (k : Int) < (BB.length : Int) := by omega
        obtain ⟨X, hX⟩ : ∃ X, BB[k]? = some X := ⟨_, List.getElem?_eq_getElem hlt⟩
        obtain ⟨g, rfl⟩ := HA4.out (by omega)
        obtain ⟨s, hsk, hR⟩ := HH.out k X hX
        have HR := Lib.hid hR
        obtain ⟨A5, c5, rfl, -⟩ := hR
        have HXK := Lib.hid hX
        have HX1 := Lib.hid (HZX.out X (List.mem_of_getElem? hX))
        have HX2 := Lib.hid (HZR.out X (List.mem_of_getElem? hX))
        obtain ⟨y1, y2⟩ := HC.out.tabs.cellAt hlt
        rw [hsk] at y1
        have hne : b3 ≠ g := HC.out.ne
        have hg1 := HC.out.tb.2.1
        obtain ⟨d0, d1, d2, d3, d4⟩ := HC.out.box.five
        have KP : ∀ W W', (Below w1.heap.size w1 W ∧ W.cell? ⟨b3, 4, none⟩ = some (.slice (some ⟨g, 0, none⟩) BB.length c4) ∧ (∃ old, W.cell? ⟨g, k, none⟩ = some old) ∧ W.frozen? ⟨g, k, none⟩ = false) → Below W.heap.size W W' → (Below w1.heap.size w1 W' ∧ W'.cell? ⟨b3, 4, none⟩ = some (.slice (some ⟨g, 0, none⟩) BB.length c4) ∧ (∃ old, W'.cell? ⟨g, k, none⟩ = some old) ∧ W'.frozen? ⟨g, k, none⟩ = false) := fun W W' h hb => ⟨h.1.trans (hb.mono h.1.size), on_some hb h.2.1, (by obtain ⟨old, e⟩ := h.2.2.1; exact ⟨old, on_some hb e⟩), (by obtain ⟨old, e⟩ := h.2.2.1; exact (hb.frozen (World.block_lt_of_cell? W _ e)).trans h.2.2.2)⟩
        have HKP := Lib.hid KP
        have KS : ∀ W u, (Below w1.heap.size w1 W ∧ W.cell? ⟨b3, 4, none⟩ = some (.slice (some ⟨g, 0, none⟩) BB.length c4) ∧ (∃ old, W.cell? ⟨g, k, none⟩ = some old) ∧ W.frozen? ⟨g, k, none⟩ = false) → (Below w1.heap.size w1 (W.setCell ⟨g, k, none⟩ u) ∧ (W.setCell ⟨g, k, none⟩ u).cell? ⟨b3, 4, none⟩ = some (.slice (some ⟨g, 0, none⟩) BB.length c4) ∧ (∃ old, (W.setCell ⟨g, k, none⟩ u).cell? ⟨g, k, none⟩ = some old) ∧ (W.setCell ⟨g, k, none⟩ u).frozen? ⟨g, k, none⟩ = false) := fun W u h => ⟨h.1.setCell (p := ⟨g, k, none⟩) hg1 u, (World.cell?_of_block (Below.heap_setCell W ⟨g, k, none⟩ u b3 hne)).trans h.2.1, ⟨u, cell_set W g k u h.2.2.1⟩, frozen_set W g k u h.2.2.2⟩
        have HKS := Lib.hid KS
        have HS0 : Hid (Below w1.heap.size w1 wr ∧ wr.cell? ⟨b3, 4, none⟩ = some (.slice (some ⟨g, 0, none⟩) BB.length c4) ∧ (∃ old, wr.cell? ⟨g, k, none⟩ = some old) ∧ wr.frozen? ⟨g, k, none⟩ = false) := ⟨HC.out.bel, d4, ⟨_, y1⟩, y2⟩
        clear KP KS d0 d1 d2 d3 hX
        go_upto_region 5 with (fail)
        refine wp_region_held_drew (S := fun w' => Below w1.heap.size w1 w' ∧ w'.cell? ⟨b3, 4, none⟩ = some (.slice (some ⟨g, 0, none⟩) BB.length c4) ∧ (∃ old, w'.cell? ⟨g, k, none⟩ = some old) ∧ w'.frozen? ⟨g, k, none⟩ = false) (by kernel_rfl) (HKP.out _ _ HS0.out (Below.refl _ wr).drew) (fun hHeld => ?_)
        refine wpAnyH_take (i := 0) (oi := ⟨some 35, _, _, _, _, _⟩) (v := ?vcs0) rfl (by kernel_rfl) (by kernel_rfl) (by kernel_rfl) (fun _ _ _ h => h) (Or.inl ⟨by rfl, ?ycs0⟩) hHeld ?rcs0
        case ycs0 => (intro w' hSw; (try dsimp only at hSw); go_simp; try (with_reducible rfl))
        simp only [Act.put, List.setIfInBounds_toArray, List.set_cons_zero, List.set_cons_succ]
        refine wpAnyH_take (i := 1) (oi := ⟨some 36, _, _, _, _, _⟩) (v := ?vcs1) rfl (by kernel_rfl) (by kernel_rfl) (by kernel_rfl) (fun _ _ _ h => h) (Or.inl ⟨by rfl, ?ycs1⟩) hHeld ?rcs1
        case ycs1 => (intro w' hSw; (try dsimp only at hSw); go_simp; try (with_reducible rfl))
        simp only [Act.put, List.setIfInBounds_toArray, List.set_cons_zero, List.set_cons_succ]
        refine wpAnyH_take (i := 2) (oi := ⟨some 37, _, _, _, _, _⟩) (v := ?vcs2) rfl (by kernel_rfl) (by kernel_rfl) (by kernel_rfl) (fun _ _ _ h => h) (Or.inl ⟨by rfl, ?ycs2⟩) hHeld ?rcs2
        case ycs2 => (intro w' hSw; (try dsimp only at hSw); go_simp; try (with_reducible rfl))
        simp only [Act.put, List.setIfInBounds_toArray, List.set_cons_zero, List.set_cons_succ]
        refine wpAnyH_take (i := 3) (oi := ⟨some 38, _, _, _, _, _⟩) (v := ?vcs3) rfl (by kernel_rfl) (by kernel_rfl) (by kernel_rfl) (fun _ _ _ h => h) (Or.inl ⟨by rfl, ?ycs3⟩) hHeld ?rcs3
        case ycs3 => (intro w' hSw; (try dsimp only at hSw); go_simp; try (with_reducible rfl))
        simp only [Act.put, List.setIfInBounds_toArray, List.set_cons_zero, List.set_cons_succ]
        refine wpAnyH_ready (rs := [4]) (by kernel_rfl) (by simp) ?_
        refine AllReadyH.cons (o := ⟨some 39, _, _, _, _, _⟩) rfl (fun K hK => ?_) AllReadyH.nil
        go_simp
        (with_reducible refine (clists_rules _ X _ (HR.out.on (HB1.out.trans (hHeld.1.mono HB1.out.size))) HX1.out HX2.out).mono ?_)
        rintro e w5 ⟨v2, rfl, O2, hb⟩
        obtain ⟨A6, c6, rfl, -, -⟩ := OwG.rd O2
        have HCN5 := Lib.hid (HC.out.on ((Below.refl wr.heap.size wr).drew.trans hb))
        have HO2 : Hid (O2R w1.heap.size w5 (.slice A6 X.length c6) X) := O2R.mono HC.out.bel.size O2
        clear O2
        (try dsimp only)
        refine hK.out _ _ (HKP.out _ _ hHeld hb) (fun hNext => ?_)
        clear hK K hHeld
        have hHeld := hNext
        clear hNext
        try simp only [Act.put, List.setIfInBounds_toArray, List.set_cons_zero, List.set_cons_succ]
        refine wpAnyH_take (i := 5) (oi := ⟨some 40, _, _, _, _, _⟩) (v := ?vcs5) rfl (by kernel_rfl) (by kernel_rfl) (by kernel_rfl) (fun _ _ _ h => h) (Or.inl ⟨by rfl, ?ycs5⟩) hHeld ?rcs5
        case ycs5 => (intro w' hSw; (try dsimp only at hSw); go_simp; try (with_reducible rfl))
        simp only [Act.put, List.setIfInBounds_toArray, List.set_cons_zero, List.set_cons_succ]
        refine wpAnyH_ready (rs := [6]) (by kernel_rfl) (by simp) ?_
        refine AllReadyH.cons (o := ⟨none, _, _, _, _, _⟩) rfl (fun K hK => ?_) AllReadyH.nil
        obtain ⟨z1, z2⟩ := HCN5.out.tabs.cellAt hlt
        have z1' := z1
        rw [hsk] at z1
        go_simp
        refine hK.out _ _ (HKS.out _ _ hHeld) (fun hNext => ?_)
        have HCN6 := Lib.hid (HCN5.out.set HXK.out HO2.out)
        clear hK K hHeld z1 z1' z2 HO2 HCN5
        have hHeld := hNext
        clear hNext
        try simp only [Act.put]
        refine wpAnyH_done (by kernel_rfl) ?_ _
        clear hHeld HKP HKS HS0 HC d4 y1 y2
        go_wp2
        go_roundg (BB.length - (k + 1))
        case measure => omega
        case rel => exact ⟨k + 1, by omega, rfl, by go_num, HCN6⟩
      · have hltz : ¬ (k : Int) < (BB.length : Int) := by omega
        have R2 := R1.out.on HC.out.bel
        obtain ⟨d0, d1, d2, d3, d4⟩ := HC.out.box.five
        have K5 := R2.put5 (.slice A1 T.length c1) (.int .i64 ten) (.slice A2 P.length c2) (.slice A3 Q.length c3) (.slice A4 BB.length c4)
        obtain ⟨q0, q1, q2, q3, q4⟩ := K5.five
        obtain ⟨z0, z1, z2, z3, z4⟩ := R2.five
        have f0 := R2.free 0
        have f1 := R2.free 1
        have f2 := R2.free 2
        have f3 := R2.free 3
        have f4 := R2.free 4
        have hsz := HB1.out.size
        have HCF : Hid (Cfo w1.heap.size wr (.slice A1 T.length c1) (.slice A2 P.length c2) (.slice A3 Q.length c3) (.slice A4 BB.length c4) T P Q BB) := ⟨HC.out.ports, HC.out.peers, HC.out.ways, HC.out.tabs.done (by omega)⟩
        have hlt1 : w.heap.size + 1 < w1.heap.size := R1.out.lt
        have HCE := Lib.hid (Cfo.put5 hlt1 HCF.out (.slice A1 T.length c1) (.int .i64 ten) (.slice A2 P.length c2) (.slice A3 Q.length c3) (.slice A4 BB.length c4))
        have HBE := Lib.hid ((HB1.out.trans (HC.out.bel.mono hsz)).trans ((below_put5 (w := wr) (B := w.heap.size) (g := w.heap.size + 1) (by omega) (.slice A1 T.length c1) (.int .i64 ten) (.slice A2 P.length c2) (.slice A3 Q.length c3) (.slice A4 BB.length c4))))
        clear R2 K5 HC HCF
        go_wp2
        exact bodyPost_ret (v := .agg #[.slice A1 T.length c1, .int .i64 ten, .slice A2 P.length c2, .slice A3 Q.length c3, .slice A4 BB.length c4]) (by simp [results, Try.results22, go_sem, q0, q1, q2, q3, q4]) rfl ⟨_, _, _, _, rfl, Cfo.mono hsz HCE.out, HBE.out⟩
end Go.Proofs

namespace Go.Proofs.Hd
open Go.RowKit
/-- The row that may have been written is of element type t3. -/
def Rw (w : World) (row : Option Nat) (t3 : TypeId) : Prop := row = none ∨ ∃ g, row = some g ∧ TB w g t3
theorem own_rw {w : World} {base : Nat} {e : TypeId} {size : Nat} {v : Value} {n : Nat} {xs : List Value} (h : w.ownsRow base e size v n xs) : Rw w v.ownBlock e := by
  rcases h.2 with ⟨rfl, _⟩ | ⟨g, cap, cur, rfl, _, hg, _⟩
  · exact .inl rfl
  · exact .inr ⟨g, rfl, ⟨cur, (0, 0), hg⟩⟩
theorem own_kept {w w' : World} {base : Nat} {e t3 : TypeId} {size : Nat} {v : Value} {n : Nat} {xs : List Value} {row : Option Nat} (hr : Rw w row t3) (hne : e ≠ t3) (hg : w.grownBy w' row) (h : w.ownsRow base e size v n xs) : w'.ownsRow base e size v n xs := by
  refine h.kept hg ?_
  rcases hr with rfl | ⟨g, rfl, hb⟩
  · cases v.ownBlock with
    | none => exact .inl rfl
    | some k => exact .inr (by simp)
  · exact .inr fun e2 => own_apartT h hb hne e2.symm
theorem blk_kept {w w' : World} {b : Nat} {t t3 : TypeId} {cs : Array Value} {row : Option Nat} (hr : Rw w row t3) (hne : t ≠ t3) (hg : w.grownBy w' row) (h : Blk w b t cs) : Blk w' b t cs := by
  refine h.grown hg ?_
  rcases hr with rfl | ⟨g, rfl, c2, fr, hb⟩
  · simp
  · intro e
    injection e with e
    subst e
    unfold Blk at h
    rw [h] at hb
    injection hb with hb
    injection hb with _ hb
    exact hne hb
theorem OwG.kept {β : Type} {te t3 : TypeId} (hne : te ≠ t3) {R : World → Value → β → Prop} {w w' : World} {row : Option Nat} (hR : ∀ s x, R w s x → R w' s x) {B : Nat} {v : Value} {T : List β} (hr : Rw w row t3) (hg : w.grownBy w' row) (h : OwG te R w B v T) : OwG te R w' B v T := by
  obtain ⟨hs, h1, h2⟩ := h
  refine ⟨hs, own_kept hr hne hg h1, fun i x hx => ?_⟩
  obtain ⟨s, e, h3⟩ := h2 i x hx
  exact ⟨s, e, hR s x h3⟩
/-- One more header. -/
theorem OwG.snoc {β : Type} {te : TypeId} {R : World → Value → β → Prop} {w w' : World} {B : Nat} {v v' s : Value} {T : List β} {x : β} {hs : List Value} (hR : ∀ s x, R w s x → R w' s x) (h1 : w.ownsRow B te 1 v T.length hs) (h2 : ∀ (i : Nat) (x : β), T[i]? = some x → ∃ s, hs[i]? = some s ∧ R w s x) (hx : R w s x) (h3 : w'.ownsRow B te 1 v' (T.length + 1) (hs ++ [s])) : OwG te R w' B v' (T ++ [x]) := by
  have hl : hs.length = T.length := by rw [h1.1, Nat.mul_one]
  refine ⟨hs ++ [s], by rw [List.length_append]; exact h3, fun i y hy => ?_⟩
  by_cases hi : i < T.length
  · rw [List.getElem?_append_left hi] at hy
    obtain ⟨s', e, h4⟩ := h2 i y hy
    exact ⟨s', by rw [List.getElem?_append_left (by omega)]; exact e, hR _ _ h4⟩
  · rw [List.getElem?_append_right (by omega)] at hy
    obtain ⟨e, e2⟩ := List.getElem?_eq_some_iff.1 hy
    simp at e
    have e3 : i - T.length = 0 := by omega
    subst e2
    refine ⟨s, by rw [List.getElem?_append_right (by omega), hl, e3]; rfl, ?_⟩
    have e4 : [x][i - T.length] = x := by simp [e3]
    rw [e4]
    exact hR _ _ hx
theorem Cfo.start {B : Nat} {w : World} : Cfo B w (.slice none 0 0) (.slice none 0 0) (.slice none 0 0) (.slice none 0 0) [] [] [] [] :=
  ⟨⟨[], World.ownsRow_nil _ _ _ _, fun i x hx => by simp at hx⟩, World.ownsRow_nil _ _ _ _, World.ownsRow_nil _ _ _ _, ⟨[], World.ownsRow_nil _ _ _ _, fun i x hx => by simp at hx⟩⟩
/-- A store into a box of type Config. -/
theorem Cfo.box {B b i : Nat} {u : Value} {w : World} {tv pv wv bv : Value} {T : List (List Pt)} {P : List (Int × Int)} {Q : List Wa} {BB : List (List (List Rl))} (hb : TB w b 31) (h : Cfo B w tv pv wv bv T P Q BB) : Cfo B (w.setCell ⟨b, i, none⟩ u) tv pv wv bv T P Q BB :=
  ⟨O2P.far (by decide) (by decide) _ _ _ _ _ _ hb h.ports, ownsRow_setCell_other h.peers (fun e => own_apartT h.peers hb (by decide) e.symm) u, ownsRow_setCell_other h.ways (fun e => own_apartT h.ways hb (by decide) e.symm) u,
    OwG.far (by decide) (O2R.far (by decide) (by decide)) hb h.tabs⟩
theorem Cfo.appP {B : Nat} {w w' : World} {tv tv' pv wv bv s : Value} {hs : List Value} {L : List (List Pt)} {x : List Pt} {P : List (Int × Int)} {Q : List Wa} {BB : List (List (List Rl))} (h : Cfo B w tv pv wv bv L P Q BB)
    (o1 : w.ownsRow B 63 1 tv L.length hs) (o2 : ∀ (i : Nat) (x : List Pt), L[i]? = some x → ∃ s, hs[i]? = some s ∧ O1P B w s x) (hx : O1P B w s x) (o3 : w'.ownsRow B 63 1 tv' (L.length + 1) (hs ++ [s])) (hg : w.grownBy w' tv.ownBlock) : Cfo B w' tv' pv wv bv (L ++ [x]) P Q BB :=
  have hr := own_rw o1
  ⟨OwG.snoc (fun _ _ h => own_kept hr (by decide) hg h) o1 o2 hx o3, own_kept hr (by decide) hg h.peers, own_kept hr (by decide) hg h.ways, OwG.kept (by decide) (fun _ _ h => OwG.kept (by decide) (fun _ _ h => own_kept hr (by decide) hg h) hr hg h) hr hg h.tabs⟩
theorem Cfo.appB {B : Nat} {w w' : World} {tv pv wv bv bv' s : Value} {hs : List Value} {T : List (List Pt)} {P : List (Int × Int)} {Q : List Wa} {L : List (List (List Rl))} {x : List (List Rl)} (h : Cfo B w tv pv wv bv T P Q L)
    (o1 : w.ownsRow B 57 1 bv L.length hs) (o2 : ∀ (i : Nat) (x : List (List Rl)), L[i]? = some x → ∃ s, hs[i]? = some s ∧ O2R B w s x) (hx : O2R B w s x) (o3 : w'.ownsRow B 57 1 bv' (L.length + 1) (hs ++ [s])) (hg : w.grownBy w' bv.ownBlock) : Cfo B w' tv pv wv bv' T P Q (L ++ [x]) :=
  have hr := own_rw o1
  ⟨OwG.kept (by decide) (fun _ _ h => own_kept hr (by decide) hg h) hr hg h.ports, own_kept hr (by decide) hg h.peers, own_kept hr (by decide) hg h.ways, OwG.snoc (fun _ _ h => OwG.kept (by decide) (fun _ _ h => own_kept hr (by decide) hg h) hr hg h) o1 o2 hx o3⟩
theorem O2R.app {B : Nat} {w w' : World} {v v' s : Value} {hs : List Value} {L : List (List Rl)} {x : List Rl} (o1 : w.ownsRow B 58 1 v L.length hs) (o2 : ∀ (i : Nat) (x : List Rl), L[i]? = some x → ∃ s, hs[i]? = some s ∧ O1R B w s x) (hx : O1R B w s x) (o3 : w'.ownsRow B 58 1 v' (L.length + 1) (hs ++ [s])) (hg : w.grownBy w' v.ownBlock) : O2R B w' v' (L ++ [x]) :=
  have hr := own_rw o1
  OwG.snoc (fun _ _ h => own_kept hr (by decide) hg h) o1 o2 hx o3
theorem take_snoc {α : Type} {L : List α} {k : Nat} {x : α} (h : L[k]? = some x) : L.take (k + 1) = L.take k ++ [x] := by rw [List.take_add_one, h]; rfl
/-- A header as what is appended. -/
theorem src_head {w : World} {g : Nat} {t : TypeId} {s : Value} (h : Blk w g t #[s]) (h1 : s.oneCell' = true) : Src w 1 (.slice (some ⟨g, 0, none⟩) 1 1) 1 [s] := by
  refine ⟨rfl, by intro u hu; simp at hu; rw [hu]; exact h1, .inr ⟨_, 1, rfl, fun j u hu => ?_⟩⟩
  have e : (⟨g, 0, none⟩ : Addr).add j = ⟨g, j, none⟩ := by unfold Addr.add; by_cases h0 : j = 0 <;> simp [h0]
  rw [e, h.cell]
  simpa using hu
end Go.Proofs.Hd
