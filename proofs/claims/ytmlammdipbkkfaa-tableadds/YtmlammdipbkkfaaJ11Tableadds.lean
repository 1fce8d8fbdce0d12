/-
  Which headers reach a rule, and which match none: by the rule that is found. Mathematics, no program. Conditions as each theorem lists them.
  The rule that is found in a list with one more rule at its end, and in a list without a rule that is never found. Mathematics, no program. Conditions as each theorem lists them.
  Plain facts on blocks that a statement makes in whatever order and fills afterwards. No conditions.
  The walk of customhouselaw06.TableAdds: it returns true. Conditions as each theorem lists them.
-/
import Derived.Test.YtmlammdipbkkfaaJ10
import Derived.Deep.MidRow
import Derived.Deep.DeepCutAuto
import Derived.Deep.Light
import Derived.OrdersHeld
namespace Go.Proofs.Hd
open Go.RowKit
theorem anyHas_one (c : Cb) (x y : BitVec 64) : anyHas [c] x y = c.has x y := by simp [anyHas]
theorem pastL_has {L : List Rl} (x y : BitVec 64) (hs : sndA L = true) : ∀ {ks : List Nat} {A R : List Cb}, (∀ k ∈ ks, k < L.length) → (∀ c ∈ A, c.snd = true) → pastL L ks A = some R → anyHas R x y = (anyHas A x y && !ks.any (hasI L x y))
  | [], A, R, _, _, h => by rw [pastL] at h; injection h with h; subst h; simp
  | k :: ks, A, R, hk, hA, h => by
    rw [pastL] at h
    cases hl : lessL A [L[k]!.m] with
    | none => rw [hl] at h; cases h
    | some B =>
      rw [hl] at h
      have hkl := hk k (List.mem_cons_self ..)
      have hm : L[k]!.m.snd = true := by rw [getElem!_pos L k hkl]; exact sndA_at hs (List.getElem?_eq_getElem hkl)
      have h1 := lessL_has (B := [L[k]!.m]) x y (by intro c hc; rw [List.mem_singleton] at hc; rw [hc]; exact hm) hA hl
      rw [pastL_has x y hs (fun j hj => hk j (List.mem_cons_of_mem _ hj)) (sndL_all (less_one hl)) h, h1, anyHas_one, List.any_cons]
      show _ = (anyHas A x y && !(hasI L x y k || _))
      unfold hasI
      cases anyHas A x y <;> cases L[k]!.m.has x y <;> simp
theorem find_first {P : Nat → Bool} {n : Nat} : ∀ {ks : List Nat}, n ∈ ks → (ks.find? P = some n ↔ (P n && !(ks.takeWhile (fun k => k != n)).any P) = true)
  | [], h => by simp at h
  | a :: ks, h => by
    rw [List.find?_cons, List.takeWhile_cons]
    by_cases e : a = n
    · subst e
      rw [if_neg (by simp)]
      cases hp : P a with
      | true => simp
      | false =>
        simp only [List.any_nil, Bool.not_false, Bool.and_true]
        constructor
        · intro hf
          have := List.find?_some hf
          rw [hp] at this
          cases this
        · intro hf
          cases hf
    · have hm : n ∈ ks := by
        rcases List.mem_cons.1 h with h | h
        · exact absurd h.symm e
        · exact h
      rw [if_pos (by simpa using e), List.any_cons]
      cases hp : P a with
      | true =>
        simp [e]
      | false =>
        rw [Bool.false_or]
        exact find_first hm
theorem seen_has {L : List Rl} {n : Nat} {R : List Cb} (x y : BitVec 64) (hs : sndA L = true) (hn : n < L.length) (h : seenL L n = some R) : anyHas R x y = decide (fndI L x y = some n) := by
  have hm : L[n]!.m.snd = true := by rw [getElem!_pos L n hn]; exact sndA_at hs (List.getElem?_eq_getElem hn)
  unfold seenL at h
  rw [pastL_has x y hs ahead_lt (by intro c hc; rw [List.mem_singleton] at hc; rw [hc]; exact hm) h, anyHas_one]
  have := find_first (P := hasI L x y) (mem_ordI.2 hn)
  rw [Bool.eq_iff_iff, decide_eq_true_eq]
  exact this.symm
theorem allC_has (x y : BitVec 64) : allC.has x y = true := by
  unfold Cb.has allC
  simp [hasB]
theorem miss_has {L : List Rl} {Q : List Cb} (x y : BitVec 64) (hs : sndA L = true) (h : missL L = some Q) : anyHas Q x y = !(fndI L x y).isSome := by
  unfold missL at h
  rw [pastL_has x y hs (fun k hk => ordI_lt hk) (by intro c hc; rw [List.mem_singleton] at hc; rw [hc]; exact allC_snd) h, anyHas_one, allC_has, Bool.true_and]
  unfold fndI
  congr 1
  rw [Bool.eq_iff_iff, List.any_eq_true, List.find?_isSome]
end Go.Proofs.Hd

namespace Go.Proofs.Hd
open Go.RowKit
theorem find_inv {P : Nat → Bool} {R : Nat → Nat → Prop} : ∀ {ks : List Nat} {b : Nat}, ks.Pairwise R → ks.find? P = some b → ∀ k ∈ ks, P k = true → k = b ∨ R b k
  | [], _, _, h, _, _, _ => by cases h
  | a :: ks, b, hs, h, k, hk, hp => by
    rw [List.find?_cons] at h
    rw [List.pairwise_cons] at hs
    cases ha : P a with
    | true =>
      rw [ha] at h
      injection h with h
      subst h
      rcases List.mem_cons.1 hk with e | e
      · exact .inl e
      · exact .inr (hs.1 k e)
    | false =>
      rw [ha] at h
      rcases List.mem_cons.1 hk with e | e
      · rw [e, ha] at hp; cases hp
      · exact find_inv hs.2 h k e hp
theorem FstIs.of (L : List Rl) (x y : BitVec 64) : FstIs L x y L.length (fndI L x y) := by
  cases h : fndI L x y with
  | none =>
    refine .inl ⟨rfl, fun j hj => ?_⟩
    unfold fndI at h
    rw [List.find?_eq_none] at h
    have := h j (mem_ordI.2 hj)
    simpa using this
  | some b =>
    unfold fndI at h
    refine .inr ⟨b, rfl, ordI_lt (List.mem_of_find?_eq_some h), List.find?_some h, fun j hj hp => ?_⟩
    rcases find_inv (ordI_sorted L) h j (mem_ordI.2 hj) hp with e | e
    · rw [e]; exact leI_self L b
    · exact e
theorem fndI_lt {L : List Rl} {x y : BitVec 64} {b : Nat} (h : fndI L x y = some b) : b < L.length := by
  unfold fndI at h
  exact ordI_lt (List.mem_of_find?_eq_some h)
theorem at_app {M : List Rl} {p : Rl} {j : Nat} (hj : j < M.length) : (M ++ [p])[j]! = M[j]! := by
  rw [getElem!_pos (M ++ [p]) j (by simp; omega), getElem!_pos M j hj, List.getElem_append_left hj]
theorem at_end (M : List Rl) (p : Rl) : (M ++ [p])[M.length]! = p := by
  rw [getElem!_pos (M ++ [p]) M.length (by simp)]
  simp
theorem FstIs.app {M : List Rl} (p : Rl) (x y : BitVec 64) : FstIs (M ++ [p]) x y M.length (fndI M x y) := by
  rcases FstIs.of M x y with ⟨e, h⟩ | ⟨b, e, hb, hp, h⟩
  · refine .inl ⟨e, fun j hj => ?_⟩
    have := h j hj
    unfold hasI at this ⊢
    rw [at_app hj]
    exact this
  · refine .inr ⟨b, e, hb, ?_, fun j hj hpj => ?_⟩
    · unfold hasI at hp ⊢
      rw [at_app hb]
      exact hp
    · have hq : hasI M x y j = true := by
        unfold hasI at hpj ⊢
        rw [at_app hj] at hpj
        exact hpj
      have := h j hj hq
      unfold leI at this ⊢
      rw [at_app hj, at_app hb]
      exact this
theorem app_len (M : List Rl) (p : Rl) : (M ++ [p]).length = M.length + 1 := by simp
/-- A rule at the end that is tried behind all others. -/
theorem fnd_low {M : List Rl} {p : Rl} (x y : BitVec 64) (hp : ∀ k, k < M.length → p.pri < M[k]!.pri) : fndI (M ++ [p]) x y = match fndI M x y with
    | some a => some a
    | none => if p.m.has x y = true then some M.length else none := by
  have h := FstIs.app (M := M) p x y
  have he : hasI (M ++ [p]) x y M.length = p.m.has x y := by unfold hasI; rw [at_end]
  have hl : ∀ z, FstIs (M ++ [p]) x y (M.length + 1) z → fndI (M ++ [p]) x y = z := fun z hz => FstIs.last (by rw [app_len]; exact hz)
  cases hz : fndI M x y with
  | none =>
    rw [hz] at h
    cases hh : p.m.has x y with
    | true => exact hl _ (h.first (by rw [he, hh]))
    | false => exact hl _ (h.no (by rw [he, hh]))
  | some a =>
    rw [hz] at h
    have ha := h.lt
    refine hl _ (h.keep ?_)
    unfold leI
    rw [at_end, at_app ha, decide_eq_true_eq]
    exact .inl (hp a ha)
/-- A rule at the end that is tried first. -/
theorem fnd_high {M : List Rl} {p : Rl} (x y : BitVec 64) (hp : ∀ k, k < M.length → M[k]!.pri < p.pri) : fndI (M ++ [p]) x y = if p.m.has x y = true then some M.length else fndI M x y := by
  have h := FstIs.app (M := M) p x y
  have he : hasI (M ++ [p]) x y M.length = p.m.has x y := by unfold hasI; rw [at_end]
  have hl : ∀ z, FstIs (M ++ [p]) x y (M.length + 1) z → fndI (M ++ [p]) x y = z := fun z hz => FstIs.last (by rw [app_len]; exact hz)
  cases hh : p.m.has x y with
  | false => exact hl _ (h.no (by rw [he, hh]))
  | true =>
    rw [if_pos rfl]
    cases hz : fndI M x y with
    | none => rw [hz] at h; exact hl _ (h.first (by rw [he, hh]))
    | some a =>
      rw [hz] at h
      have ha := h.lt
      refine hl _ (h.more (by rw [he, hh]) ?_)
      unfold leI
      rw [at_end, at_app ha, decide_eq_true_eq]
      exact .inl (hp a ha)
/-- The list without rule n. -/
def offI (M : List Rl) (n : Nat) : List Rl := M.take n ++ M.drop (n + 1)
theorem offI_len {M : List Rl} {n : Nat} (hn : n < M.length) : (offI M n).length + 1 = M.length := by
  unfold offI
  rw [List.length_append, List.length_take, List.length_drop]
  omega
theorem offI_at {M : List Rl} {n j : Nat} (hn : n < M.length) : (offI M n)[j]? = if j < n then M[j]? else M[j + 1]? := by
  unfold offI
  rw [List.getElem?_append, List.length_take, List.getElem?_take, List.getElem?_drop]
  by_cases h : j < n
  · rw [if_pos (by omega), if_pos h, if_pos h]
  · rw [if_neg (by omega), if_neg h, show n + 1 + (j - min n M.length) = j + 1 by omega]
theorem offI_get {M : List Rl} {n j : Nat} (hn : n < M.length) (hj : j < (offI M n).length) : (offI M n)[j]! = M[if j < n then j else j + 1]! := by
  have hl := offI_len hn
  have h := offI_at (j := j) hn
  rw [List.getElem?_eq_getElem hj] at h
  rw [getElem!_pos (offI M n) j hj]
  by_cases h1 : j < n
  · rw [if_pos h1] at h ⊢
    exact (at_pos h.symm).symm
  · rw [if_neg h1] at h ⊢
    exact (at_pos h.symm).symm
/-- Without a rule that is not found, the same rule is found. -/
theorem fnd_off {M : List Rl} {n : Nat} (x y : BitVec 64) (hn : n < M.length) (hf : fndI M x y ≠ some n) : fndI (offI M n) x y = (fndI M x y).map fun a => if a < n then a else a - 1 := by
  have hl := offI_len hn
  rcases FstIs.of M x y with ⟨e, h⟩ | ⟨a, e, ha, hp, h⟩
  · rw [e]
    refine fndI_none fun k hk => ?_
    unfold hasI
    rw [offI_get hn hk]
    refine h _ ?_
    split <;> omega
  · rw [e]
    have hne : a ≠ n := fun e2 => hf (by rw [e, e2])
    have hb : (if a < n then a else a - 1) < (offI M n).length := by split <;> omega
    have hab : (offI M n)[if a < n then a else a - 1]! = M[a]! := by
      rw [offI_get hn hb]
      congr 1
      by_cases h1 : a < n
      · rw [if_pos h1, if_pos h1]
      · rw [if_neg h1, if_neg (by omega)]; omega
    refine fndI_some hb ?_ fun k hk hpk => ?_
    · unfold hasI at hp ⊢
      rw [hab]
      exact hp
    · unfold hasI at hpk
      rw [offI_get hn hk] at hpk
      have h2 := h (if k < n then k else k + 1) (by split <;> omega) hpk
      unfold leI at h2 ⊢
      rw [hab, offI_get hn hk, decide_eq_true_eq]
      rw [decide_eq_true_eq] at h2
      rcases h2 with h2 | ⟨h2, h3⟩
      · exact .inl h2
      · refine .inr ⟨h2, ?_⟩
        show (if a < n then a else a - 1) ≤ k
        split at h3 <;> split <;> omega
theorem idle_mem {L : List Rl} : ∀ {k : Nat} {xs : List Nat}, idlU L k = some xs → ∀ n ∈ xs, seenL L n = some []
  | 0, xs, h, n, hn => by rw [idlU] at h; injection h with h; subst h; simp at hn
  | k + 1, xs, h, n, hn => by
    rw [idlU] at h
    cases h1 : idlU L k with
    | none => rw [h1] at h; cases h
    | some ys =>
      rw [h1] at h
      cases h2 : seenL L k with
      | none => rw [h2] at h; cases h
      | some R =>
        rw [h2] at h
        simp only [Option.bind_some, Option.some.injEq] at h
        subst h
        by_cases hR : R.isEmpty = true
        · rw [if_pos hR] at hn
          rcases List.mem_append.1 hn with hn | hn
          · exact idle_mem h1 n hn
          · rw [List.mem_singleton] at hn
            rw [hn, h2, List.isEmpty_iff.1 hR]
        · rw [if_neg hR] at hn
          exact idle_mem h1 n hn
theorem idle_not {L : List Rl} {xs : List Nat} {n : Nat} (x y : BitVec 64) (hs : sndA L = true) (h : idlU L L.length = some xs) (hn : n ∈ xs) : fndI L x y ≠ some n := by
  have h1 := idle_mem h n hn
  have h2 := (idlU_len h).2 n hn
  have h3 := seen_has x y hs h2 h1
  intro e
  rw [e] at h3
  simp [anyHas] at h3
end Go.Proofs.Hd

namespace Go.Proofs.Hd
open Go.RowKit
/-- Block b, at or behind block B, holds the cells cs. -/
def Nb (B : Nat) (w : World) (b : Nat) (T : TypeId) (cs : Array Value) : Prop := Blk w b T cs ∧ B ≤ b
theorem Nb.on {B b : Nat} {W w' : World} {T : TypeId} {cs : Array Value} (h : Nb B W b T cs) (hb : Below W.heap.size W w') : Nb B w' b T cs := ⟨h.1.on hb, h.2⟩
theorem Nb.top {B : Nat} {T : TypeId} {cs : Array Value} (X : World) (h : B ≤ X.heap.size) : Nb B (X.alloc (.cells cs T)) X.heap.size T cs := ⟨Blk.new X T cs, h⟩
theorem Nb.ne {B b : Nat} {W : World} {T : TypeId} {cs : Array Value} (h : Nb B W b T cs) : b ≠ W.heap.size := Nat.ne_of_lt h.1.lt
theorem Nb.there {B b : Nat} {W : World} {T : TypeId} {cs : Array Value} (h : Nb B W b T cs) : W.there b 0 cs.size := fun j hj => by
  rw [Nat.zero_add, h.1.cell j, h.1.free j]
  simp [hj]
theorem Blk.farC {g b : Nat} {t : TypeId} {cs : Array Value} (hne : b ≠ g) : ∀ (vs : List Value) (o : Nat) (w : World), Blk w g t cs → Blk (w.setCells b o vs) g t cs
  | [], _, _, h => h
  | v :: vs, o, _, h => Blk.farC hne vs (o + 1) _ (h.far (p := ⟨b, o, none⟩) (fun e => hne e.symm) v)
theorem Nb.far {B b c : Nat} {W : World} {T : TypeId} {cs : Array Value} (h : Nb B W b T cs) (hne : c ≠ b) (vs : List Value) : Nb B (W.setCells c 0 vs) b T cs := ⟨Blk.farC hne vs 0 W h.1, h.2⟩
/-- Cells from place o on are set, one by one. -/
def setL (cs : Array Value) : Nat → List Value → Array Value
  | _, [] => cs
  | o, v :: vs => setL (cs.setIfInBounds o v) (o + 1) vs
theorem Blk.putC {b : Nat} {t : TypeId} : ∀ (vs : List Value) (o : Nat) (w : World) (cs : Array Value), Blk w b t cs → Blk (w.setCells b o vs) b t (setL cs o vs)
  | [], _, _, _, h => h
  | v :: vs, o, _, _, h => Blk.putC vs (o + 1) _ _ (h.set o v)
theorem setL_size : ∀ (vs : List Value) (o : Nat) (cs : Array Value), (setL cs o vs).size = cs.size
  | [], _, _ => rfl
  | v :: vs, o, cs => by rw [setL, setL_size vs]; simp
theorem setL_get : ∀ (vs : List Value) (o : Nat) (cs : Array Value) (j : Nat), (setL cs o vs)[j]? = if o ≤ j ∧ j < o + vs.length ∧ j < cs.size then vs[j - o]? else cs[j]?
  | [], o, cs, j => by rw [setL, if_neg (by simp; omega)]
  | v :: vs, o, cs, j => by
    rw [setL, setL_get vs]
    simp only [Array.size_setIfInBounds, List.length_cons]
    by_cases h1 : j = o
    · subst h1
      rw [if_neg (by omega)]
      by_cases h2 : j < cs.size
      · rw [if_pos (by omega)]
        simp [h2]
      · rw [if_neg (by omega)]
        simp [h2]
    · by_cases h2 : o + 1 ≤ j ∧ j < o + 1 + vs.length ∧ j < cs.size
      · rw [if_pos h2, if_pos (by omega), show j - o = (j - (o + 1)) + 1 by omega, List.getElem?_cons_succ]
      · rw [if_neg h2, if_neg (by omega), Array.getElem?_setIfInBounds, if_neg (fun e => h1 e.symm)]
theorem setL_all (vs : List Value) (cs : Array Value) (h : vs.length = cs.size) : setL cs 0 vs = vs.toArray := by
  apply Array.ext_getElem?
  intro j
  rw [setL_get]
  by_cases hj : j < cs.size
  · rw [if_pos (by omega)]; simp
  · rw [if_neg (by omega), Array.getElem?_eq_none (by omega), Array.getElem?_eq_none (by simp; omega)]
theorem Nb.put {B b : Nat} {W : World} {T : TypeId} {cs : Array Value} (h : Nb B W b T cs) (vs : List Value) (hl : vs.length = cs.size) : Nb B (W.setCells b 0 vs) b T vs.toArray := by
  refine ⟨?_, h.2⟩
  rw [← setL_all vs cs hl]
  exact Blk.putC vs 0 W cs h.1
end Go.Proofs.Hd

namespace Go.Proofs.Hd
open Go.RowKit
/-- A rule with another priority. -/
def Rl.wp (r : Rl) (p : Int) : Rl := ⟨p, r.m, r.kind, r.port, r.tab, r.s⟩
theorem flatR_nil : flatR [] = [] := rfl
theorem flatR_append (A B : List Rl) : flatR (A ++ B) = flatR A ++ flatR B := by simp [flatR]
theorem flatR_one (L : List Rl) : ∀ u ∈ flatR L, u.oneCell' = true := by
  intro u hu
  unfold flatR at hu
  obtain ⟨r, _, h⟩ := List.mem_flatMap.1 hu
  exact Rl.cs_one r u h
theorem flatR_at {L : List Rl} {j : Nat} {u : Value} (h : (flatR L)[j]? = some u) : ∃ r, L[j / 12]? = some r ∧ r.cs[j % 12]? = some u := by
  have hl : j < L.length * 12 := by have := (List.getElem?_eq_some_iff.1 h).1; rwa [flatR_len] at this
  have hd := Nat.div_add_mod j 12
  have hm := Nat.mod_lt j (show 0 < 12 by omega)
  obtain ⟨r, hr⟩ : ∃ r, L[j / 12]? = some r := ⟨_, List.getElem?_eq_getElem (by omega)⟩
  refine ⟨r, hr, ?_⟩
  have := flatR_get hr hm
  rw [show j / 12 * 12 + j % 12 = j by omega, h] at this
  exact this.symm
theorem Ru.src {w : World} {v : Value} {L : List Rl} (h : Ru w v L) : Src w 12 v L.length (flatR L) := by
  refine ⟨flatR_len L, flatR_one L, ?_⟩
  rcases h with ⟨rfl, A, cap, rfl⟩ | ⟨b, o, cap, rfl, _, hc⟩
  · cases A with
    | none => exact .inl ⟨rfl, _, rfl⟩
    | some a => exact .inr ⟨a, cap, rfl, fun j u hj => by simp [flatR] at hj⟩
  · refine .inr ⟨_, cap, rfl, fun j u hj => ?_⟩
    obtain ⟨r, hr, hu⟩ := flatR_at hj
    have hd := Nat.div_add_mod j 12
    have := hc _ r hr _ u hu
    rw [show o + j / 12 * 12 + j % 12 = o + j by omega] at this
    have e : (⟨b, o, none⟩ : Addr).add j = ⟨b, o + j, none⟩ := by unfold Addr.add; by_cases h0 : j = 0 <;> simp [h0]
    rw [e]
    exact this
theorem src_one {w : World} {g : Nat} {r : Rl} {t : TypeId} (h : Blk w g t r.cs.toArray) : Src w 12 (.slice (some ⟨g, 0, none⟩) 1 1) 1 r.cs := by
  refine ⟨rfl, Rl.cs_one r, .inr ⟨_, 1, rfl, fun j u hj => ?_⟩⟩
  have e : (⟨g, 0, none⟩ : Addr).add j = ⟨g, j, none⟩ := by unfold Addr.add; by_cases h0 : j = 0 <;> simp [h0]
  rw [e, h.cell j]
  simpa using hj
end Go.Proofs.Hd
namespace Go.Proofs
open Go.RowKit Go.Proofs.Hd Go.Sort Go.Shelf Go.Lib
attribute [local go_sem] uv_nonneg
theorem onesRu (r : Rl) : (#[.int .i64 r.pri, .int .u64 (uv r.m.vh), .int .u64 (uv r.m.vl), .int .u64 (uv r.m.ch), .int .u64 (uv r.m.cl), .int .i64 r.kind, .int .i64 r.port, .int .i64 r.tab, .int .u64 (uv r.s.vh), .int .u64 (uv r.s.vl), .int .u64 (uv r.s.ch), .int .u64 (uv r.s.cl)] : Array Value).all (fun x => x.oneCell') = true := by simp [Value.oneCell']
theorem sizeRu : (Try.prog.info? 55).map (·.size) = some 12 := by kernel_rfl
theorem infoRu : (Try.prog.info? 55).map (fun i => (i.zero, i.size, i.bytes)) = some (some (.agg #[.int .i64 0, .int .u64 0, .int .u64 0, .int .u64 0, .int .u64 0, .int .i64 0, .int .i64 0, .int .i64 0, .int .u64 0, .int .u64 0, .int .u64 0, .int .u64 0]), 12, 96) := by kernel_rfl
set_option maxHeartbeats 32000000 in
set_option maxRecDepth 100000 in
theorem tal_m (A : Option Addr) (n cap : Nat) (M : List Rl) (r : Rl) (hh hl : BitVec 64) (w : World) (hm : M.length ≤ 8) (hf : ∀ W, Below w.heap.size w W → Calls Try.prog 14 #[.slice A n cap] W fun e w' => e = .returned (.slice A M.length cap) ∧ w' = W) (hv : Ru w (.slice A M.length cap) M) : Calls Try.prog 8 #[.slice A n cap, .agg #[.int .i64 r.pri, .int .u64 (uv r.m.vh), .int .u64 (uv r.m.vl), .int .u64 (uv r.m.ch), .int .u64 (uv r.m.cl), .int .i64 r.kind, .int .i64 r.port, .int .i64 r.tab, .int .u64 (uv r.s.vh), .int .u64 (uv r.s.vl), .int .u64 (uv r.s.ch), .int .u64 (uv r.s.cl)], .agg #[.int .u64 (uv hh), .int .u64 (uv hl)]] w fun e w' => e = .returned (.bool true) ∧ Below w.heap.size w w' := by
  have hmz : (M.length : Int) ≤ 8 := by omega
  obtain ⟨i1, hi1, hz0, hz1, hz2⟩ := info_parts infoRu
  have B0 := below2 w (.cells #[.int .i64 r.pri, .int .u64 (uv r.m.vh), .int .u64 (uv r.m.vl), .int .u64 (uv r.m.ch), .int .u64 (uv r.m.cl), .int .i64 r.kind, .int .i64 r.port, .int .i64 r.tab, .int .u64 (uv r.s.vh), .int .u64 (uv r.s.vl), .int .u64 (uv r.s.ch), .int .u64 (uv r.s.cl)] 55) (.cells #[.int .u64 (uv hh), .int .u64 (uv hl)] 25)
  have X0 : Blk ((w.alloc (.cells #[.int .i64 r.pri, .int .u64 (uv r.m.vh), .int .u64 (uv r.m.vl), .int .u64 (uv r.m.ch), .int .u64 (uv r.m.cl), .int .i64 r.kind, .int .i64 r.port, .int .i64 r.tab, .int .u64 (uv r.s.vh), .int .u64 (uv r.s.vl), .int .u64 (uv r.s.ch), .int .u64 (uv r.s.cl)] 55)).alloc (.cells #[.int .u64 (uv hh), .int .u64 (uv hl)] 25)) w.heap.size 55 #[.int .i64 r.pri, .int .u64 (uv r.m.vh), .int .u64 (uv r.m.vl), .int .u64 (uv r.m.ch), .int .u64 (uv r.m.cl), .int .i64 r.kind, .int .i64 r.port, .int .i64 r.tab, .int .u64 (uv r.s.vh), .int .u64 (uv r.s.vl), .int .u64 (uv r.s.ch), .int .u64 (uv r.s.cl)] := (Blk.new w _ _).on (below1 _ _)
  have X1 : Blk ((w.alloc (.cells #[.int .i64 r.pri, .int .u64 (uv r.m.vh), .int .u64 (uv r.m.vl), .int .u64 (uv r.m.ch), .int .u64 (uv r.m.cl), .int .i64 r.kind, .int .i64 r.port, .int .i64 r.tab, .int .u64 (uv r.s.vh), .int .u64 (uv r.s.vl), .int .u64 (uv r.s.ch), .int .u64 (uv r.s.cl)] 55)).alloc (.cells #[.int .u64 (uv hh), .int .u64 (uv hl)] 25)) (w.heap.size + 1) 25 #[.int .u64 (uv hh), .int .u64 (uv hl)] := by
    have h := Blk.new (w.alloc (.cells #[.int .i64 r.pri, .int .u64 (uv r.m.vh), .int .u64 (uv r.m.vl), .int .u64 (uv r.m.ch), .int .u64 (uv r.m.cl), .int .i64 r.kind, .int .i64 r.port, .int .i64 r.tab, .int .u64 (uv r.s.vh), .int .u64 (uv r.s.vl), .int .u64 (uv r.s.ch), .int .u64 (uv r.s.cl)] 55)) 25 #[.int .u64 (uv hh), .int .u64 (uv hl)]
    simpa using h
  have hf0 := hf _ B0
  have HV0 := Lib.hid hv
  have HXA := Lib.hid X0
  have HXB := Lib.hid X1
  have HB0 := Lib.hid B0
  clear hf hv X0 X1 B0
  go_enter Try.func8, Try.ntmps8
  go_wp2_with fail
  (with_reducible refine hf0.mono ?_)
  rintro e w1 ⟨rfl, rfl⟩
  clear hf0
  go_wp2_with fail
  (with_reducible refine (awake6_c _).mono ?_)
  rintro e w2 ⟨rfl, hb⟩
  have HB2 := Lib.hid (HB0.out.trans (hb.mono HB0.out.size))
  have HR2 := Lib.hid (HXA.out.on hb)
  have HH2 := Lib.hid (HXB.out.on hb)
  have HV2 := Lib.hid (HV0.out.on HB2.out)
  clear hb HXA HXB HV0 HB0
  go_upto_region 4 with (fail)
  go_cut [7, 8] (fun i o wc => ∃ b7 b8 : Nat, i = .pointer (some ⟨b7, 0, none⟩) ∧ o = .pointer (some ⟨b8, 0, none⟩) ∧ b7 ≠ b8 ∧ Below w2.heap.size w2 wc ∧ Nb w2.heap.size wc b7 55 #[.int .i64 r.pri, .int .u64 (uv r.m.vh), .int .u64 (uv r.m.vl), .int .u64 (uv r.m.ch), .int .u64 (uv r.m.cl), .int .i64 r.kind, .int .i64 r.port, .int .i64 r.tab, .int .u64 (uv r.s.vh), .int .u64 (uv r.s.vl), .int .u64 (uv r.s.ch), .int .u64 (uv r.s.cl)] ∧ Nb w2.heap.size wc b8 55 #[.int .i64 r.pri, .int .u64 (uv r.m.vh), .int .u64 (uv r.m.vl), .int .u64 (uv r.m.ch), .int .u64 (uv r.m.cl), .int .i64 r.kind, .int .i64 r.port, .int .i64 r.tab, .int .u64 (uv r.s.vh), .int .u64 (uv r.s.vl), .int .u64 (uv r.s.ch), .int .u64 (uv r.s.cl)])
  case first =>
    have KP : ∀ W, Below w2.heap.size w2 W → (Below w2.heap.size w2 W ∧ W.cell? ⟨w.heap.size, 0, none⟩ = some (.int .i64 r.pri) ∧ W.cell? ⟨w.heap.size, 1, none⟩ = some (.int .u64 (uv r.m.vh)) ∧ W.cell? ⟨w.heap.size, 2, none⟩ = some (.int .u64 (uv r.m.vl)) ∧ W.cell? ⟨w.heap.size, 3, none⟩ = some (.int .u64 (uv r.m.ch)) ∧ W.cell? ⟨w.heap.size, 4, none⟩ = some (.int .u64 (uv r.m.cl)) ∧ W.cell? ⟨w.heap.size, 5, none⟩ = some (.int .i64 r.kind) ∧ W.cell? ⟨w.heap.size, 6, none⟩ = some (.int .i64 r.port) ∧ W.cell? ⟨w.heap.size, 7, none⟩ = some (.int .i64 r.tab) ∧ W.cell? ⟨w.heap.size, 8, none⟩ = some (.int .u64 (uv r.s.vh)) ∧ W.cell? ⟨w.heap.size, 9, none⟩ = some (.int .u64 (uv r.s.vl)) ∧ W.cell? ⟨w.heap.size, 10, none⟩ = some (.int .u64 (uv r.s.ch)) ∧ W.cell? ⟨w.heap.size, 11, none⟩ = some (.int .u64 (uv r.s.cl))) := fun W hb => ⟨hb, (HR2.out.on hb).cell 0, (HR2.out.on hb).cell 1, (HR2.out.on hb).cell 2, (HR2.out.on hb).cell 3, (HR2.out.on hb).cell 4, (HR2.out.on hb).cell 5, (HR2.out.on hb).cell 6, (HR2.out.on hb).cell 7, (HR2.out.on hb).cell 8, (HR2.out.on hb).cell 9, (HR2.out.on hb).cell 10, (HR2.out.on hb).cell 11⟩
    have HKP := Lib.hid KP
    clear KP
    refine wp_region_held_drew (S := fun w' => Below w2.heap.size w2 w' ∧ w'.cell? ⟨w.heap.size, 0, none⟩ = some (.int .i64 r.pri) ∧ w'.cell? ⟨w.heap.size, 1, none⟩ = some (.int .u64 (uv r.m.vh)) ∧ w'.cell? ⟨w.heap.size, 2, none⟩ = some (.int .u64 (uv r.m.vl)) ∧ w'.cell? ⟨w.heap.size, 3, none⟩ = some (.int .u64 (uv r.m.ch)) ∧ w'.cell? ⟨w.heap.size, 4, none⟩ = some (.int .u64 (uv r.m.cl)) ∧ w'.cell? ⟨w.heap.size, 5, none⟩ = some (.int .i64 r.kind) ∧ w'.cell? ⟨w.heap.size, 6, none⟩ = some (.int .i64 r.port) ∧ w'.cell? ⟨w.heap.size, 7, none⟩ = some (.int .i64 r.tab) ∧ w'.cell? ⟨w.heap.size, 8, none⟩ = some (.int .u64 (uv r.s.vh)) ∧ w'.cell? ⟨w.heap.size, 9, none⟩ = some (.int .u64 (uv r.s.vl)) ∧ w'.cell? ⟨w.heap.size, 10, none⟩ = some (.int .u64 (uv r.s.ch)) ∧ w'.cell? ⟨w.heap.size, 11, none⟩ = some (.int .u64 (uv r.s.cl))) (by kernel_rfl) (HKP.out _ (Below.refl _ w2).drew) (fun hHeld => ?_)
    generalize w2.drew = u0 at hHeld ⊢
    refine wpAnyH_take (i := 0) (oi := ⟨some 23, _, _, _, _, _⟩) (v := ?vfl0) rfl (by kernel_rfl) (by kernel_rfl) (by kernel_rfl) (fun _ _ _ h => h) (Or.inl ⟨by rfl, ?yfl0⟩) hHeld ?rfl0
    case yfl0 => (intro w' hSw; (try dsimp only at hSw); go_simp; try (with_reducible rfl))
    simp only [Act.put, List.setIfInBounds_toArray, List.set_cons_zero, List.set_cons_succ]
    refine wpAnyH_take (i := 1) (oi := ⟨some 24, _, _, _, _, _⟩) (v := ?vfl1) rfl (by kernel_rfl) (by kernel_rfl) (by kernel_rfl) (fun _ _ _ h => h) (Or.inl ⟨by rfl, ?yfl1⟩) hHeld ?rfl1
    case yfl1 => (intro w' hSw; (try dsimp only at hSw); go_simp; try (with_reducible rfl))
    simp only [Act.put, List.setIfInBounds_toArray, List.set_cons_zero, List.set_cons_succ]
    refine wpAnyH_ready (rs := [2, 3]) (by kernel_rfl) (by simp) ?_
    refine AllReadyH.cons (o := ⟨some 7, _, _, _, _, _⟩) rfl (fun K hK => ?_) ?_
    · go_simp
      have hb := below1 u0 (.cells #[.int .i64 0, .int .u64 0, .int .u64 0, .int .u64 0, .int .u64 0, .int .i64 0, .int .i64 0, .int .i64 0, .int .u64 0, .int .u64 0, .int .u64 0, .int .u64 0] 55)
      refine hK.out _ _ (HKP.out _ (hHeld.1.trans (hb.mono hHeld.1.size))) (fun hNext => ?_)
      have t2 : Nb w2.heap.size (u0.alloc (.cells #[.int .i64 0, .int .u64 0, .int .u64 0, .int .u64 0, .int .u64 0, .int .i64 0, .int .i64 0, .int .i64 0, .int .u64 0, .int .u64 0, .int .u64 0, .int .u64 0] 55)) u0.heap.size 55 #[.int .i64 0, .int .u64 0, .int .u64 0, .int .u64 0, .int .u64 0, .int .i64 0, .int .i64 0, .int .i64 0, .int .u64 0, .int .u64 0, .int .u64 0, .int .u64 0] := Nb.top u0 hHeld.1.size
      clear hK K hHeld hb
      have hHeld := hNext
      clear hNext
      generalize hgen : (u0.alloc (.cells #[.int .i64 0, .int .u64 0, .int .u64 0, .int .u64 0, .int .u64 0, .int .i64 0, .int .i64 0, .int .i64 0, .int .u64 0, .int .u64 0, .int .u64 0, .int .u64 0] 55)) = u1 at hHeld t2 ⊢
      clear hgen
      generalize hgen : u0.heap.size = b2_1 at t2  ⊢
      clear hgen
      try simp only [Act.put, List.setIfInBounds_toArray, List.set_cons_zero, List.set_cons_succ]
      refine wpAnyH_ready (rs := [3]) (by kernel_rfl) (by simp) ?_
      refine AllReadyH.cons (o := ⟨some 8, _, _, _, _, _⟩) rfl (fun K hK => ?_) AllReadyH.nil
      go_simp
      have hb := below1 u1 (.cells #[.int .i64 0, .int .u64 0, .int .u64 0, .int .u64 0, .int .u64 0, .int .i64 0, .int .i64 0, .int .i64 0, .int .u64 0, .int .u64 0, .int .u64 0, .int .u64 0] 55)
      refine hK.out _ _ (HKP.out _ (hHeld.1.trans (hb.mono hHeld.1.size))) (fun hNext => ?_)
      have t3 : Nb w2.heap.size (u1.alloc (.cells #[.int .i64 0, .int .u64 0, .int .u64 0, .int .u64 0, .int .u64 0, .int .i64 0, .int .i64 0, .int .i64 0, .int .u64 0, .int .u64 0, .int .u64 0, .int .u64 0] 55)) u1.heap.size 55 #[.int .i64 0, .int .u64 0, .int .u64 0, .int .u64 0, .int .u64 0, .int .i64 0, .int .i64 0, .int .i64 0, .int .u64 0, .int .u64 0, .int .u64 0, .int .u64 0] := Nb.top u1 hHeld.1.size
      have ne3_2 : u1.heap.size ≠ b2_1 := t2.ne.symm
      have ne2_3 : b2_1 ≠ u1.heap.size := t2.ne
      replace t2 := t2.on hb
      clear hK K hHeld hb
      have hHeld := hNext
      clear hNext
      generalize hgen : (u1.alloc (.cells #[.int .i64 0, .int .u64 0, .int .u64 0, .int .u64 0, .int .u64 0, .int .i64 0, .int .i64 0, .int .i64 0, .int .u64 0, .int .u64 0, .int .u64 0, .int .u64 0] 55)) = u2 at hHeld t2 t3 ⊢
      clear hgen
      generalize hgen : u1.heap.size = b3_2 at t3 ne3_2 ne2_3 ⊢
      clear hgen
      try simp only [Act.put, List.setIfInBounds_toArray, List.set_cons_zero, List.set_cons_succ]
      refine wpAnyH_ready (rs := [4]) (by kernel_rfl) (by simp) ?_
      refine AllReadyH.cons (o := ⟨none, _, _, _, _, _⟩) rfl (fun K hK => ?_) AllReadyH.nil
      rw [if_pos (by rfl)]
      refine wp_store_mid 55 _ _ rfl b2_1 0 #[.int .i64 r.pri, .int .u64 (uv r.m.vh), .int .u64 (uv r.m.vl), .int .u64 (uv r.m.ch), .int .u64 (uv r.m.cl), .int .i64 r.kind, .int .i64 r.port, .int .i64 r.tab, .int .u64 (uv r.s.vh), .int .u64 (uv r.s.vl), .int .u64 (uv r.s.ch), .int .u64 (uv r.s.cl)] rfl rfl t2.there sizeRu (onesRu r) ?_
      (try dsimp only)
      refine hK.out _ _ (HKP.out _ (Below.setCells _ _ _ hHeld.1 t2.2)) (fun hNext => ?_)
      clear hK K hHeld
      have hHeld := hNext
      clear hNext
      replace t3 := t3.far ne2_3 [.int .i64 r.pri, .int .u64 (uv r.m.vh), .int .u64 (uv r.m.vl), .int .u64 (uv r.m.ch), .int .u64 (uv r.m.cl), .int .i64 r.kind, .int .i64 r.port, .int .i64 r.tab, .int .u64 (uv r.s.vh), .int .u64 (uv r.s.vl), .int .u64 (uv r.s.ch), .int .u64 (uv r.s.cl)]
      replace t2 := t2.put [.int .i64 r.pri, .int .u64 (uv r.m.vh), .int .u64 (uv r.m.vl), .int .u64 (uv r.m.ch), .int .u64 (uv r.m.cl), .int .i64 r.kind, .int .i64 r.port, .int .i64 r.tab, .int .u64 (uv r.s.vh), .int .u64 (uv r.s.vl), .int .u64 (uv r.s.ch), .int .u64 (uv r.s.cl)] rfl
      generalize (World.setCells u2 b2_1 0 [.int .i64 r.pri, .int .u64 (uv r.m.vh), .int .u64 (uv r.m.vl), .int .u64 (uv r.m.ch), .int .u64 (uv r.m.cl), .int .i64 r.kind, .int .i64 r.port, .int .i64 r.tab, .int .u64 (uv r.s.vh), .int .u64 (uv r.s.vl), .int .u64 (uv r.s.ch), .int .u64 (uv r.s.cl)]) = u3 at hHeld t2 t3 ⊢
      try simp only [Act.put]
      refine wpAnyH_ready (rs := [5]) (by kernel_rfl) (by simp) ?_
      refine AllReadyH.cons (o := ⟨none, _, _, _, _, _⟩) rfl (fun K hK => ?_) AllReadyH.nil
      rw [if_pos (by rfl)]
      refine wp_store_mid 55 _ _ rfl b3_2 0 #[.int .i64 r.pri, .int .u64 (uv r.m.vh), .int .u64 (uv r.m.vl), .int .u64 (uv r.m.ch), .int .u64 (uv r.m.cl), .int .i64 r.kind, .int .i64 r.port, .int .i64 r.tab, .int .u64 (uv r.s.vh), .int .u64 (uv r.s.vl), .int .u64 (uv r.s.ch), .int .u64 (uv r.s.cl)] rfl rfl t3.there sizeRu (onesRu r) ?_
      (try dsimp only)
      refine hK.out _ _ (HKP.out _ (Below.setCells _ _ _ hHeld.1 t3.2)) (fun hNext => ?_)
      clear hK K hHeld
      have hHeld := hNext
      clear hNext
      replace t2 := t2.far ne3_2 [.int .i64 r.pri, .int .u64 (uv r.m.vh), .int .u64 (uv r.m.vl), .int .u64 (uv r.m.ch), .int .u64 (uv r.m.cl), .int .i64 r.kind, .int .i64 r.port, .int .i64 r.tab, .int .u64 (uv r.s.vh), .int .u64 (uv r.s.vl), .int .u64 (uv r.s.ch), .int .u64 (uv r.s.cl)]
      replace t3 := t3.put [.int .i64 r.pri, .int .u64 (uv r.m.vh), .int .u64 (uv r.m.vl), .int .u64 (uv r.m.ch), .int .u64 (uv r.m.cl), .int .i64 r.kind, .int .i64 r.port, .int .i64 r.tab, .int .u64 (uv r.s.vh), .int .u64 (uv r.s.vl), .int .u64 (uv r.s.ch), .int .u64 (uv r.s.cl)] rfl
      generalize (World.setCells u3 b3_2 0 [.int .i64 r.pri, .int .u64 (uv r.m.vh), .int .u64 (uv r.m.vl), .int .u64 (uv r.m.ch), .int .u64 (uv r.m.cl), .int .i64 r.kind, .int .i64 r.port, .int .i64 r.tab, .int .u64 (uv r.s.vh), .int .u64 (uv r.s.vl), .int .u64 (uv r.s.ch), .int .u64 (uv r.s.cl)]) = u4 at hHeld t2 t3 ⊢
      try simp only [Act.put]
      refine wpAnyH_done (by kernel_rfl) ?_ _
      go_wp2_with fail
      go_meet
      exact ⟨_, _, rfl, rfl, ne2_3, hHeld.1, t2, t3⟩
    refine AllReadyH.cons (o := ⟨some 8, _, _, _, _, _⟩) rfl (fun K hK => ?_) AllReadyH.nil
    go_simp
    have hb := below1 u0 (.cells #[.int .i64 0, .int .u64 0, .int .u64 0, .int .u64 0, .int .u64 0, .int .i64 0, .int .i64 0, .int .i64 0, .int .u64 0, .int .u64 0, .int .u64 0, .int .u64 0] 55)
    refine hK.out _ _ (HKP.out _ (hHeld.1.trans (hb.mono hHeld.1.size))) (fun hNext => ?_)
    have t3 : Nb w2.heap.size (u0.alloc (.cells #[.int .i64 0, .int .u64 0, .int .u64 0, .int .u64 0, .int .u64 0, .int .i64 0, .int .i64 0, .int .i64 0, .int .u64 0, .int .u64 0, .int .u64 0, .int .u64 0] 55)) u0.heap.size 55 #[.int .i64 0, .int .u64 0, .int .u64 0, .int .u64 0, .int .u64 0, .int .i64 0, .int .i64 0, .int .i64 0, .int .u64 0, .int .u64 0, .int .u64 0, .int .u64 0] := Nb.top u0 hHeld.1.size
    clear hK K hHeld hb
    have hHeld := hNext
    clear hNext
    generalize hgen : (u0.alloc (.cells #[.int .i64 0, .int .u64 0, .int .u64 0, .int .u64 0, .int .u64 0, .int .i64 0, .int .i64 0, .int .i64 0, .int .u64 0, .int .u64 0, .int .u64 0, .int .u64 0] 55)) = u5 at hHeld t3 ⊢
    clear hgen
    generalize hgen : u0.heap.size = b3_5 at t3  ⊢
    clear hgen
    try simp only [Act.put, List.setIfInBounds_toArray, List.set_cons_zero, List.set_cons_succ]
    refine wpAnyH_ready (rs := [2]) (by kernel_rfl) (by simp) ?_
    refine AllReadyH.cons (o := ⟨some 7, _, _, _, _, _⟩) rfl (fun K hK => ?_) AllReadyH.nil
    go_simp
    have hb := below1 u5 (.cells #[.int .i64 0, .int .u64 0, .int .u64 0, .int .u64 0, .int .u64 0, .int .i64 0, .int .i64 0, .int .i64 0, .int .u64 0, .int .u64 0, .int .u64 0, .int .u64 0] 55)
    refine hK.out _ _ (HKP.out _ (hHeld.1.trans (hb.mono hHeld.1.size))) (fun hNext => ?_)
    have t2 : Nb w2.heap.size (u5.alloc (.cells #[.int .i64 0, .int .u64 0, .int .u64 0, .int .u64 0, .int .u64 0, .int .i64 0, .int .i64 0, .int .i64 0, .int .u64 0, .int .u64 0, .int .u64 0, .int .u64 0] 55)) u5.heap.size 55 #[.int .i64 0, .int .u64 0, .int .u64 0, .int .u64 0, .int .u64 0, .int .i64 0, .int .i64 0, .int .i64 0, .int .u64 0, .int .u64 0, .int .u64 0, .int .u64 0] := Nb.top u5 hHeld.1.size
    have ne2_3 : u5.heap.size ≠ b3_5 := t3.ne.symm
    have ne3_2 : b3_5 ≠ u5.heap.size := t3.ne
    replace t3 := t3.on hb
    clear hK K hHeld hb
    have hHeld := hNext
    clear hNext
    generalize hgen : (u5.alloc (.cells #[.int .i64 0, .int .u64 0, .int .u64 0, .int .u64 0, .int .u64 0, .int .i64 0, .int .i64 0, .int .i64 0, .int .u64 0, .int .u64 0, .int .u64 0, .int .u64 0] 55)) = u6 at hHeld t2 t3 ⊢
    clear hgen
    generalize hgen : u5.heap.size = b2_6 at t2 ne2_3 ne3_2 ⊢
    clear hgen
    try simp only [Act.put, List.setIfInBounds_toArray, List.set_cons_zero, List.set_cons_succ]
    refine wpAnyH_ready (rs := [4]) (by kernel_rfl) (by simp) ?_
    refine AllReadyH.cons (o := ⟨none, _, _, _, _, _⟩) rfl (fun K hK => ?_) AllReadyH.nil
    rw [if_pos (by rfl)]
    refine wp_store_mid 55 _ _ rfl b2_6 0 #[.int .i64 r.pri, .int .u64 (uv r.m.vh), .int .u64 (uv r.m.vl), .int .u64 (uv r.m.ch), .int .u64 (uv r.m.cl), .int .i64 r.kind, .int .i64 r.port, .int .i64 r.tab, .int .u64 (uv r.s.vh), .int .u64 (uv r.s.vl), .int .u64 (uv r.s.ch), .int .u64 (uv r.s.cl)] rfl rfl t2.there sizeRu (onesRu r) ?_
    (try dsimp only)
    refine hK.out _ _ (HKP.out _ (Below.setCells _ _ _ hHeld.1 t2.2)) (fun hNext => ?_)
    clear hK K hHeld
    have hHeld := hNext
    clear hNext
    replace t3 := t3.far ne2_3 [.int .i64 r.pri, .int .u64 (uv r.m.vh), .int .u64 (uv r.m.vl), .int .u64 (uv r.m.ch), .int .u64 (uv r.m.cl), .int .i64 r.kind, .int .i64 r.port, .int .i64 r.tab, .int .u64 (uv r.s.vh), .int .u64 (uv r.s.vl), .int .u64 (uv r.s.ch), .int .u64 (uv r.s.cl)]
    replace t2 := t2.put [.int .i64 r.pri, .int .u64 (uv r.m.vh), .int .u64 (uv r.m.vl), .int .u64 (uv r.m.ch), .int .u64 (uv r.m.cl), .int .i64 r.kind, .int .i64 r.port, .int .i64 r.tab, .int .u64 (uv r.s.vh), .int .u64 (uv r.s.vl), .int .u64 (uv r.s.ch), .int .u64 (uv r.s.cl)] rfl
    generalize (World.setCells u6 b2_6 0 [.int .i64 r.pri, .int .u64 (uv r.m.vh), .int .u64 (uv r.m.vl), .int .u64 (uv r.m.ch), .int .u64 (uv r.m.cl), .int .i64 r.kind, .int .i64 r.port, .int .i64 r.tab, .int .u64 (uv r.s.vh), .int .u64 (uv r.s.vl), .int .u64 (uv r.s.ch), .int .u64 (uv r.s.cl)]) = u7 at hHeld t2 t3 ⊢
    try simp only [Act.put]
    refine wpAnyH_ready (rs := [5]) (by kernel_rfl) (by simp) ?_
    refine AllReadyH.cons (o := ⟨none, _, _, _, _, _⟩) rfl (fun K hK => ?_) AllReadyH.nil
    rw [if_pos (by rfl)]
    refine wp_store_mid 55 _ _ rfl b3_5 0 #[.int .i64 r.pri, .int .u64 (uv r.m.vh), .int .u64 (uv r.m.vl), .int .u64 (uv r.m.ch), .int .u64 (uv r.m.cl), .int .i64 r.kind, .int .i64 r.port, .int .i64 r.tab, .int .u64 (uv r.s.vh), .int .u64 (uv r.s.vl), .int .u64 (uv r.s.ch), .int .u64 (uv r.s.cl)] rfl rfl t3.there sizeRu (onesRu r) ?_
    (try dsimp only)
    refine hK.out _ _ (HKP.out _ (Below.setCells _ _ _ hHeld.1 t3.2)) (fun hNext => ?_)
    clear hK K hHeld
    have hHeld := hNext
    clear hNext
    replace t2 := t2.far ne3_2 [.int .i64 r.pri, .int .u64 (uv r.m.vh), .int .u64 (uv r.m.vl), .int .u64 (uv r.m.ch), .int .u64 (uv r.m.cl), .int .i64 r.kind, .int .i64 r.port, .int .i64 r.tab, .int .u64 (uv r.s.vh), .int .u64 (uv r.s.vl), .int .u64 (uv r.s.ch), .int .u64 (uv r.s.cl)]
    replace t3 := t3.put [.int .i64 r.pri, .int .u64 (uv r.m.vh), .int .u64 (uv r.m.vl), .int .u64 (uv r.m.ch), .int .u64 (uv r.m.cl), .int .i64 r.kind, .int .i64 r.port, .int .i64 r.tab, .int .u64 (uv r.s.vh), .int .u64 (uv r.s.vl), .int .u64 (uv r.s.ch), .int .u64 (uv r.s.cl)] rfl
    generalize (World.setCells u7 b3_5 0 [.int .i64 r.pri, .int .u64 (uv r.m.vh), .int .u64 (uv r.m.vl), .int .u64 (uv r.m.ch), .int .u64 (uv r.m.cl), .int .i64 r.kind, .int .i64 r.port, .int .i64 r.tab, .int .u64 (uv r.s.vh), .int .u64 (uv r.s.vl), .int .u64 (uv r.s.ch), .int .u64 (uv r.s.cl)]) = u8 at hHeld t2 t3 ⊢
    try simp only [Act.put]
    refine wpAnyH_done (by kernel_rfl) ?_ _
    go_wp2_with fail
    go_meet
    exact ⟨_, _, rfl, rfl, ne2_3, hHeld.1, t2, t3⟩
  case rest =>
    obtain ⟨b7, b8, rfl, rfl, hne, B3, N7, N8⟩ := hcut
    have y0 := N7.1.cell 0
    have y1 := N7.1.free 0
    have z0 := N8.1.cell 0
    have z1 := N8.1.free 0
    have E7 : Hid (Blk ((wc.setCell ⟨b7, 0, none⟩ (.int .i64 (-1))).setCell ⟨b8, 0, none⟩ (.int .i64 2097152)) b7 55 #[.int .i64 (-1), .int .u64 (uv r.m.vh), .int .u64 (uv r.m.vl), .int .u64 (uv r.m.ch), .int .u64 (uv r.m.cl), .int .i64 r.kind, .int .i64 r.port, .int .i64 r.tab, .int .u64 (uv r.s.vh), .int .u64 (uv r.s.vl), .int .u64 (uv r.s.ch), .int .u64 (uv r.s.cl)]) := (N7.1.set 0 (.int .i64 (-1))).far (p := ⟨b8, 0, none⟩) hne _
    have E8 : Hid (Blk ((wc.setCell ⟨b7, 0, none⟩ (.int .i64 (-1))).setCell ⟨b8, 0, none⟩ (.int .i64 2097152)) b8 55 #[.int .i64 2097152, .int .u64 (uv r.m.vh), .int .u64 (uv r.m.vl), .int .u64 (uv r.m.ch), .int .u64 (uv r.m.cl), .int .i64 r.kind, .int .i64 r.port, .int .i64 r.tab, .int .u64 (uv r.s.vh), .int .u64 (uv r.s.vl), .int .u64 (uv r.s.ch), .int .u64 (uv r.s.cl)]) := (N8.1.far (p := ⟨b7, 0, none⟩) hne.symm _).set 0 (.int .i64 2097152)
    have B4 : Hid (Below w2.heap.size w2 ((wc.setCell ⟨b7, 0, none⟩ (.int .i64 (-1))).setCell ⟨b8, 0, none⟩ (.int .i64 2097152))) := (B3.setCell (p := ⟨b7, 0, none⟩) N7.2 _).setCell (p := ⟨b8, 0, none⟩) N8.2 _
    clear N7 N8 B3
    go_upto_region 6 with (fail)
    generalize (wc.setCell ⟨b7, 0, none⟩ (.int .i64 (-1))).setCell ⟨b8, 0, none⟩ (.int .i64 2097152) = wd at E7 E8 B4 ⊢
    have HBd := Lib.hid (HB2.out.trans (B4.out.mono HB2.out.size))
    have HVd := Lib.hid (HV2.out.on B4.out)
    have HHd := Lib.hid (HH2.out.on B4.out)
    have HRd := Lib.hid (HR2.out.on B4.out)
    clear y0 y1 z0 z1 B4 HB2 HV2 HH2 HR2
    go_wp2
    go_loopg [9] M.length (fun gk s9 wr => ∃ k : Nat, k ≤ M.length ∧ gk = M.length - k ∧ s9 = .int .i64 k ∧ Hid (∀ j, j < k → 0 ≤ M[j]!.pri ∧ M[j]!.pri ≤ 1048576) ∧ Hid (Below wd.heap.size wd wr))
    case atStart => exact ⟨0, Nat.zero_le _, rfl, rfl, fun j hj => absurd hj (Nat.not_lt_zero _), Below.refl _ _⟩
    case round =>
      obtain ⟨k, hk, rfl, rfl, HP, HB⟩ := hrel
      by_cases hlt : k < M.length
      · have hltz : (k : Int) < (M.length : Int) := by omega
        obtain ⟨p, hp⟩ : ∃ p, M[k]? = some p := ⟨_, List.getElem?_eq_getElem hlt⟩
        obtain ⟨A', c', e', hA⟩ := (HVd.out.on HB.out).form
        injection e' with e1 _ e3
        subst e1 e3
        obtain ⟨b, o, rfl, _, hpc⟩ := hA (by intro h; rw [h] at hlt; simp at hlt)
        have c0 := (hpc k p hp).out.1
        have HM := Lib.hid (at_pos hp)
        clear hp hpc hA
        by_cases h1 : p.pri < 0
        · have hd1 : decide (p.pri < 0) = true := decide_eq_true h1
          have BE := HBd.out.trans (HB.out.mono HBd.out.size)
          go_wp2
          go_ret
          exact ⟨rfl, BE⟩
        · have hd1 : decide (p.pri < 0) = false := decide_eq_false h1
          by_cases h2 : 1048576 < p.pri
          · have hd2 : decide (p.pri > 1048576) = true := decide_eq_true h2
            have BE := HBd.out.trans (HB.out.mono HBd.out.size)
            go_wp2
            go_ret
            exact ⟨rfl, BE⟩
          · have hd2 : decide (p.pri > 1048576) = false := decide_eq_false h2
            have HP2 : Hid (∀ j, j < k + 1 → 0 ≤ M[j]!.pri ∧ M[j]!.pri ≤ 1048576) := fun j hj => by
              rcases Nat.lt_or_ge j k with h | h
              · exact HP.out j h
              · rw [show j = k by omega, HM.out]; omega
            go_wp2
            go_roundg (M.length - (k + 1))
            case measure => omega
            case rel => exact ⟨k + 1, by omega, rfl, by go_num, HP2, HB⟩
      · have hltz : ¬ (k : Int) < (M.length : Int) := by omega
        obtain rfl : k = M.length := by omega
        obtain ⟨z, hz⟩ : ∃ z, fndI M hh hl = z := ⟨_, rfl⟩
        have hzb := fnd_low (M := M) (p := r.wp (-1)) hh hl (fun k hk => by have := (HP.out k hk).1; show (-1 : Int) < _; omega)
        have hzc := fnd_high (M := M) (p := r.wp 2097152) hh hl (fun k hk => by have := (HP.out k hk).2; show _ < (2097152 : Int); omega)
        rw [hz] at hzb hzc
        obtain ⟨zb, hzb2⟩ : ∃ q, fndI (M ++ [r.wp (-1)]) hh hl = q := ⟨_, rfl⟩
        obtain ⟨zc, hzc2⟩ : ∃ q, fndI (M ++ [r.wp 2097152]) hh hl = q := ⟨_, rfl⟩
        have FA : Hid (∀ W v, Ru W v M → Calls Try.prog 9 #[v, .agg #[.int .u64 (uv hh), .int .u64 (uv hl)]] W fun e w' => e = .returned (.tuple #[.int .i64 (fz z), .bool z.isSome]) ∧ Below W.heap.size W w') := fun W v h => by
          have q := find_c v M hh hl W (by omega) h
          rw [hz] at q
          exact q
        have FB : Hid (∀ W v, Ru W v (M ++ [r.wp (-1)]) → Calls Try.prog 9 #[v, .agg #[.int .u64 (uv hh), .int .u64 (uv hl)]] W fun e w' => e = .returned (.tuple #[.int .i64 (fz zb), .bool zb.isSome]) ∧ Below W.heap.size W w') := fun W v h => by
          have q := find_c v (M ++ [r.wp (-1)]) hh hl W (by simp; omega) h
          rw [hzb2] at q
          exact q
        have FC : Hid (∀ W v, Ru W v (M ++ [r.wp 2097152]) → Calls Try.prog 9 #[v, .agg #[.int .u64 (uv hh), .int .u64 (uv hl)]] W fun e w' => e = .returned (.tuple #[.int .i64 (fz zc), .bool zc.isSome]) ∧ Below W.heap.size W w') := fun W v h => by
          have q := find_c v (M ++ [r.wp 2097152]) hh hl W (by simp; omega) h
          rw [hzc2] at q
          exact q
        rw [hzb2] at hzb
        rw [hzc2] at hzc
        have HZB := Lib.hid hzb
        have HZC := Lib.hid hzc
        obtain ⟨na, hna⟩ : ∃ q, fz z = q := ⟨_, rfl⟩
        obtain ⟨xa, hxa⟩ : ∃ q, z.isSome = q := ⟨_, rfl⟩
        obtain ⟨nb, hnb⟩ : ∃ q, fz zb = q := ⟨_, rfl⟩
        obtain ⟨xb, hxb⟩ : ∃ q, zb.isSome = q := ⟨_, rfl⟩
        obtain ⟨nc, hnc⟩ : ∃ q, fz zc = q := ⟨_, rfl⟩
        obtain ⟨xc, hxc⟩ : ∃ q, zc.isSome = q := ⟨_, rfl⟩
        rw [hna, hxa] at FA
        rw [hnb, hxb] at FB
        rw [hnc, hxc] at FC
        have HNA := Lib.hid hna
        have HXA := Lib.hid hxa
        have HNB := Lib.hid hnb
        have HXB := Lib.hid hxb
        have HNC := Lib.hid hnc
        have HXC := Lib.hid hxc
        have HV3 := Lib.hid (HVd.out.on HB.out)
        have HH3 := Lib.hid (HHd.out.on HB.out)
        have HR3 := Lib.hid (HRd.out.on HB.out)
        have E73 := Lib.hid (E7.out.on HB.out)
        have E83 := Lib.hid (E8.out.on HB.out)
        have HB3 := Lib.hid (HBd.out.trans (HB.out.mono HBd.out.size))
        have x0 := HH3.out.cell 0
        have x1 := HH3.out.cell 1
        clear hz hzb hzc hzb2 hzc2 hna hxa hnb hxb hnc hxc HVd HHd HRd E7 E8 HB HBd HP
        go_wp2_with fail
        (with_reducible refine (FA.out _ _ HV3.out).mono ?_)
        rintro e w4 ⟨rfl, hb⟩
        have HB4 := Lib.hid (HB3.out.trans (hb.mono HB3.out.size))
        have HV := Lib.hid (HV3.out.on hb)
        have HH := Lib.hid (HH3.out.on hb)
        have HR := Lib.hid (HR3.out.on hb)
        have E7 := Lib.hid (E73.out.on hb)
        have E8 := Lib.hid (E83.out.on hb)
        clear hb HB3 HV3 HH3 HR3 E73 E83 FA x0 x1
        go_upto_region 12 with (fail)
        go_cut [12, 13] (fun i o wc => i = .int .i64 nb ∧ o = .bool xb ∧ Below w4.heap.size w4 wc)
        case first =>
          have KP : ∀ W, Below w4.heap.size w4 W → (Below w4.heap.size w4 W ∧ W.cell? ⟨b7, 0, none⟩ = some (.int .i64 (-1)) ∧ W.cell? ⟨b7, 1, none⟩ = some (.int .u64 (uv r.m.vh)) ∧ W.cell? ⟨b7, 2, none⟩ = some (.int .u64 (uv r.m.vl)) ∧ W.cell? ⟨b7, 3, none⟩ = some (.int .u64 (uv r.m.ch)) ∧ W.cell? ⟨b7, 4, none⟩ = some (.int .u64 (uv r.m.cl)) ∧ W.cell? ⟨b7, 5, none⟩ = some (.int .i64 r.kind) ∧ W.cell? ⟨b7, 6, none⟩ = some (.int .i64 r.port) ∧ W.cell? ⟨b7, 7, none⟩ = some (.int .i64 r.tab) ∧ W.cell? ⟨b7, 8, none⟩ = some (.int .u64 (uv r.s.vh)) ∧ W.cell? ⟨b7, 9, none⟩ = some (.int .u64 (uv r.s.vl)) ∧ W.cell? ⟨b7, 10, none⟩ = some (.int .u64 (uv r.s.ch)) ∧ W.cell? ⟨b7, 11, none⟩ = some (.int .u64 (uv r.s.cl)) ∧ W.cell? ⟨w.heap.size + 1, 0, none⟩ = some (.int .u64 (uv hh)) ∧ W.cell? ⟨w.heap.size + 1, 1, none⟩ = some (.int .u64 (uv hl))) := fun W hb => ⟨hb, (E7.out.on hb).cell 0, (E7.out.on hb).cell 1, (E7.out.on hb).cell 2, (E7.out.on hb).cell 3, (E7.out.on hb).cell 4, (E7.out.on hb).cell 5, (E7.out.on hb).cell 6, (E7.out.on hb).cell 7, (E7.out.on hb).cell 8, (E7.out.on hb).cell 9, (E7.out.on hb).cell 10, (E7.out.on hb).cell 11, (HH.out.on hb).cell 0, (HH.out.on hb).cell 1⟩
          have HKP := Lib.hid KP
          clear KP
          refine wp_region_held_drew (S := fun w' => Below w4.heap.size w4 w' ∧ w'.cell? ⟨b7, 0, none⟩ = some (.int .i64 (-1)) ∧ w'.cell? ⟨b7, 1, none⟩ = some (.int .u64 (uv r.m.vh)) ∧ w'.cell? ⟨b7, 2, none⟩ = some (.int .u64 (uv r.m.vl)) ∧ w'.cell? ⟨b7, 3, none⟩ = some (.int .u64 (uv r.m.ch)) ∧ w'.cell? ⟨b7, 4, none⟩ = some (.int .u64 (uv r.m.cl)) ∧ w'.cell? ⟨b7, 5, none⟩ = some (.int .i64 r.kind) ∧ w'.cell? ⟨b7, 6, none⟩ = some (.int .i64 r.port) ∧ w'.cell? ⟨b7, 7, none⟩ = some (.int .i64 r.tab) ∧ w'.cell? ⟨b7, 8, none⟩ = some (.int .u64 (uv r.s.vh)) ∧ w'.cell? ⟨b7, 9, none⟩ = some (.int .u64 (uv r.s.vl)) ∧ w'.cell? ⟨b7, 10, none⟩ = some (.int .u64 (uv r.s.ch)) ∧ w'.cell? ⟨b7, 11, none⟩ = some (.int .u64 (uv r.s.cl)) ∧ w'.cell? ⟨w.heap.size + 1, 0, none⟩ = some (.int .u64 (uv hh)) ∧ w'.cell? ⟨w.heap.size + 1, 1, none⟩ = some (.int .u64 (uv hl))) (by kernel_rfl) (HKP.out _ (Below.refl _ w4).drew) (fun hHeld => ?_)
          generalize w4.drew = u0 at hHeld ⊢
          refine wpAnyH_take (i := 1) (oi := ⟨some 55, _, _, _, _, _⟩) (v := ?vp12x1) rfl (by kernel_rfl) (by kernel_rfl) (by kernel_rfl) (fun _ _ _ h => h) (Or.inl ⟨by rfl, ?yp12x1⟩) hHeld ?rp12x1
          case yp12x1 => (intro w' hSw; (try dsimp only at hSw); go_simp; try (with_reducible rfl))
          simp only [Act.put, List.setIfInBounds_toArray, List.set_cons_zero, List.set_cons_succ]
          refine wpAnyH_take (i := 3) (oi := ⟨some 57, _, _, _, _, _⟩) (v := ?vp12x2) rfl (by kernel_rfl) (by kernel_rfl) (by kernel_rfl) (fun _ _ _ h => h) (Or.inl ⟨by rfl, ?yp12x2⟩) hHeld ?rp12x2
          case yp12x2 => (intro w' hSw; (try dsimp only at hSw); go_simp; try (with_reducible rfl))
          simp only [Act.put, List.setIfInBounds_toArray, List.set_cons_zero, List.set_cons_succ]
          refine wpAnyH_take (i := 6) (oi := ⟨some 60, _, _, _, _, _⟩) (v := ?vp12x3) rfl (by kernel_rfl) (by kernel_rfl) (by kernel_rfl) (fun _ _ _ h => h) (Or.inl ⟨by rfl, ?yp12x3⟩) hHeld ?rp12x3
          case yp12x3 => (intro w' hSw; (try dsimp only at hSw); go_simp; try (with_reducible rfl))
          simp only [Act.put, List.setIfInBounds_toArray, List.set_cons_zero, List.set_cons_succ]
          refine wpAnyH_ready (rs := [0, 4]) (by kernel_rfl) (by simp) ?_
          refine AllReadyH.cons (o := ⟨some 54, _, _, _, _, _⟩) rfl (fun K hK => ?_) ?_
          · go_simp
            have hb := below1 u0 (.cells #[] 55)
            refine hK.out _ _ (HKP.out _ (hHeld.1.trans (hb.mono hHeld.1.size))) (fun hNext => ?_)
            have O0 : (u0.alloc (.cells #[] 55)).ownsRow w4.heap.size 55 12 (.slice (some ⟨u0.heap.size, 0, none⟩) 0 0) ([] : List Rl).length (flatR []) := World.ownsRow_made u0 #[] 0 hHeld.1.size (Nat.zero_le _) rfl
            have G0 : u0.heap.size < (u0.alloc (.cells #[] 55)).heap.size := by simp
            clear hK K hHeld
            have hHeld := hNext
            clear hNext
            clear hb
            generalize hgen : (u0.alloc (.cells #[] 55)) = u1 at hHeld O0 G0 ⊢
            clear hgen
            generalize hgen : u0.heap.size = g0 at O0 G0 ⊢
            clear hgen
            try simp only [Act.put, List.setIfInBounds_toArray, List.set_cons_zero, List.set_cons_succ]
            refine wpAnyH_ready (rs := [2, 4]) (by kernel_rfl) (by simp) ?_
            refine AllReadyH.cons (o := ⟨some 56, _, _, _, _, _⟩) rfl (fun K hK => ?_) ?_
            · have SR := (HV.out.on hHeld.1).src
              refine step_app _ rfl (.tmp 54) (.tmp 55) 22 rfl w4.heap.size 55 i1 _ 12 96 Try.underlying22 hi1 hz0 hz1 hz2 rfl (by decide) (.slice (some ⟨g0, 0, none⟩) 0 0) 0 (flatR []) rfl O0 _ M.length (flatR M) rfl SR (by unfold maxLen; omega) (by omega) hHeld.1.size ?_
              intro v2 u2 O2 hg2
              have B2 := hHeld.1.grown hg2 hHeld.1.size (fun j hj => (O0.lt j hj).1)
              refine hK.out _ _ (HKP.out _ B2) (fun hNext => ?_)
              clear hK K hHeld
              have hHeld := hNext
              clear hNext
              clear O0 G0 hg2 B2 SR
              rw [Nat.zero_add] at O2
              simp only [flatR_nil, List.nil_append] at O2
              try simp only [Act.put, List.setIfInBounds_toArray, List.set_cons_zero, List.set_cons_succ]
              refine wpAnyH_ready (rs := [4]) (by kernel_rfl) (by simp) ?_
              refine AllReadyH.cons (o := ⟨some 58, _, _, _, _, _⟩) rfl (fun K hK => ?_) AllReadyH.nil
              go_simp
              have hb := below1 u2 (.cells #[.int .i64 (-1), .int .u64 (uv r.m.vh), .int .u64 (uv r.m.vl), .int .u64 (uv r.m.ch), .int .u64 (uv r.m.cl), .int .i64 r.kind, .int .i64 r.port, .int .i64 r.tab, .int .u64 (uv r.s.vh), .int .u64 (uv r.s.vl), .int .u64 (uv r.s.ch), .int .u64 (uv r.s.cl)] 55)
              refine hK.out _ _ (HKP.out _ (hHeld.1.trans (hb.mono hHeld.1.size))) (fun hNext => ?_)
              have N4 : Blk (u2.alloc (.cells #[.int .i64 (-1), .int .u64 (uv r.m.vh), .int .u64 (uv r.m.vl), .int .u64 (uv r.m.ch), .int .u64 (uv r.m.cl), .int .i64 r.kind, .int .i64 r.port, .int .i64 r.tab, .int .u64 (uv r.s.vh), .int .u64 (uv r.s.vl), .int .u64 (uv r.s.ch), .int .u64 (uv r.s.cl)] 55)) u2.heap.size 55 #[.int .i64 (-1), .int .u64 (uv r.m.vh), .int .u64 (uv r.m.vl), .int .u64 (uv r.m.ch), .int .u64 (uv r.m.cl), .int .i64 r.kind, .int .i64 r.port, .int .i64 r.tab, .int .u64 (uv r.s.vh), .int .u64 (uv r.s.vl), .int .u64 (uv r.s.ch), .int .u64 (uv r.s.cl)] := Blk.new u2 _ _
              replace O2 := own_on O2 hb
              clear hK K hHeld
              have hHeld := hNext
              clear hNext
              clear hb
              generalize hgen : (u2.alloc (.cells #[.int .i64 (-1), .int .u64 (uv r.m.vh), .int .u64 (uv r.m.vl), .int .u64 (uv r.m.ch), .int .u64 (uv r.m.cl), .int .i64 r.kind, .int .i64 r.port, .int .i64 r.tab, .int .u64 (uv r.s.vh), .int .u64 (uv r.s.vl), .int .u64 (uv r.s.ch), .int .u64 (uv r.s.cl)] 55)) = u3 at hHeld N4 O2 ⊢
              clear hgen
              generalize hgen : u2.heap.size = g4 at N4 ⊢
              clear hgen
              try simp only [Act.put, List.setIfInBounds_toArray, List.set_cons_zero, List.set_cons_succ]
              refine wpAnyH_ready (rs := [5]) (by kernel_rfl) (by simp) ?_
              refine AllReadyH.cons (o := ⟨some 59, _, _, _, _, _⟩) rfl (fun K hK => ?_) AllReadyH.nil
              refine step_app _ rfl (.tmp 56) (.tmp 58) 22 rfl w4.heap.size 55 i1 _ 12 96 Try.underlying22 hi1 hz0 hz1 hz2 rfl (by decide) _ M.length (flatR M) rfl O2 (.slice (some ⟨g4, 0, none⟩) 1 1) 1 [.int .i64 (-1), .int .u64 (uv r.m.vh), .int .u64 (uv r.m.vl), .int .u64 (uv r.m.ch), .int .u64 (uv r.m.cl), .int .i64 r.kind, .int .i64 r.port, .int .i64 r.tab, .int .u64 (uv r.s.vh), .int .u64 (uv r.s.vl), .int .u64 (uv r.s.ch), .int .u64 (uv r.s.cl)] rfl (src_one (r := r.wp (-1)) N4) (by unfold maxLen; omega) (by omega) hHeld.1.size ?_
              intro v5 u4 O5 hg5
              have B5 := hHeld.1.grown hg5 hHeld.1.size (fun j hj => (O2.lt j hj).1)
              have R5 : Ru u4 v5 (M ++ [r.wp (-1)]) := own_Ru (base := w4.heap.size) (t := 55) (by rw [List.length_append, flatR_append]; exact O5)
              refine hK.out _ _ (HKP.out _ B5) (fun hNext => ?_)
              clear hK K hHeld
              have hHeld := hNext
              clear hNext
              clear O2 O5 hg5 B5 N4
              try simp only [Act.put, List.setIfInBounds_toArray, List.set_cons_zero, List.set_cons_succ]
              refine wpAnyH_ready (rs := [7]) (by kernel_rfl) (by simp) ?_
              refine AllReadyH.cons (o := ⟨some 61, _, _, _, _, _⟩) rfl (fun K hK => ?_) AllReadyH.nil
              go_simp
              (with_reducible refine (FB.out _ _ R5).mono ?_)
              rintro e u5 ⟨rfl, hb⟩
              (try dsimp only)
              refine hK.out _ _ (HKP.out _ (hHeld.1.trans (hb.mono hHeld.1.size))) (fun hNext => ?_)
              clear hK K hHeld
              have hHeld := hNext
              clear hNext
              clear hb R5
              try simp only [Act.put, List.setIfInBounds_toArray, List.set_cons_zero, List.set_cons_succ]
              refine wpAnyH_take (i := 8) (oi := ⟨some 53, _, _, _, _, _⟩) (v := ?vp12x4) rfl (by kernel_rfl) (by kernel_rfl) (by kernel_rfl) (fun _ _ _ h => h) (Or.inl ⟨by rfl, ?yp12x4⟩) hHeld ?rp12x4
              case yp12x4 => (intro w' hSw; (try dsimp only at hSw); go_simp; try (with_reducible rfl))
              simp only [Act.put, List.setIfInBounds_toArray, List.set_cons_zero, List.set_cons_succ]
              refine wpAnyH_take (i := 9) (oi := ⟨some 62, _, _, _, _, _⟩) (v := ?vp12x5) rfl (by kernel_rfl) (by kernel_rfl) (by kernel_rfl) (fun _ _ _ h => h) (Or.inl ⟨by rfl, ?yp12x5⟩) hHeld ?rp12x5
              case yp12x5 => (intro w' hSw; (try dsimp only at hSw); go_simp; try (with_reducible rfl))
              simp only [Act.put, List.setIfInBounds_toArray, List.set_cons_zero, List.set_cons_succ]
              refine wpAnyH_take (i := 10) (oi := ⟨some 63, _, _, _, _, _⟩) (v := ?vp12x6) rfl (by kernel_rfl) (by kernel_rfl) (by kernel_rfl) (fun _ _ _ h => h) (Or.inl ⟨by rfl, ?yp12x6⟩) hHeld ?rp12x6
              case yp12x6 => (intro w' hSw; (try dsimp only at hSw); go_simp; try (with_reducible rfl))
              simp only [Act.put, List.setIfInBounds_toArray, List.set_cons_zero, List.set_cons_succ]
              refine wpAnyH_take (i := 11) (oi := ⟨some 12, _, _, _, _, _⟩) (v := ?vp12x7) rfl (by kernel_rfl) (by kernel_rfl) (by kernel_rfl) (fun _ _ _ h => h) (Or.inl ⟨by rfl, ?yp12x7⟩) hHeld ?rp12x7
              case yp12x7 => (intro w' hSw; (try dsimp only at hSw); go_simp; try (with_reducible rfl))
              simp only [Act.put, List.setIfInBounds_toArray, List.set_cons_zero, List.set_cons_succ]
              refine wpAnyH_take (i := 12) (oi := ⟨some 13, _, _, _, _, _⟩) (v := ?vp12x8) rfl (by kernel_rfl) (by kernel_rfl) (by kernel_rfl) (fun _ _ _ h => h) (Or.inl ⟨by rfl, ?yp12x8⟩) hHeld ?rp12x8
              case yp12x8 => (intro w' hSw; (try dsimp only at hSw); go_simp; try (with_reducible rfl))
              simp only [Act.put, List.setIfInBounds_toArray, List.set_cons_zero, List.set_cons_succ]
              refine wpAnyH_done (by kernel_rfl) ?_ _
              go_wp2_with fail
              go_meet
              exact ⟨rfl, rfl, hHeld.1⟩
            refine AllReadyH.cons (o := ⟨some 58, _, _, _, _, _⟩) rfl (fun K hK => ?_) AllReadyH.nil
            go_simp
            have hb := below1 u1 (.cells #[.int .i64 (-1), .int .u64 (uv r.m.vh), .int .u64 (uv r.m.vl), .int .u64 (uv r.m.ch), .int .u64 (uv r.m.cl), .int .i64 r.kind, .int .i64 r.port, .int .i64 r.tab, .int .u64 (uv r.s.vh), .int .u64 (uv r.s.vl), .int .u64 (uv r.s.ch), .int .u64 (uv r.s.cl)] 55)
            refine hK.out _ _ (HKP.out _ (hHeld.1.trans (hb.mono hHeld.1.size))) (fun hNext => ?_)
            have N4 : Blk (u1.alloc (.cells #[.int .i64 (-1), .int .u64 (uv r.m.vh), .int .u64 (uv r.m.vl), .int .u64 (uv r.m.ch), .int .u64 (uv r.m.cl), .int .i64 r.kind, .int .i64 r.port, .int .i64 r.tab, .int .u64 (uv r.s.vh), .int .u64 (uv r.s.vl), .int .u64 (uv r.s.ch), .int .u64 (uv r.s.cl)] 55)) u1.heap.size 55 #[.int .i64 (-1), .int .u64 (uv r.m.vh), .int .u64 (uv r.m.vl), .int .u64 (uv r.m.ch), .int .u64 (uv r.m.cl), .int .i64 r.kind, .int .i64 r.port, .int .i64 r.tab, .int .u64 (uv r.s.vh), .int .u64 (uv r.s.vl), .int .u64 (uv r.s.ch), .int .u64 (uv r.s.cl)] := Blk.new u1 _ _
            have hne : u1.heap.size ≠ g0 := Nat.ne_of_gt G0
            replace G0 := Nat.lt_of_lt_of_le G0 hb.size
            replace O0 := own_on O0 hb
            clear hK K hHeld
            have hHeld := hNext
            clear hNext
            clear hb
            generalize hgen : (u1.alloc (.cells #[.int .i64 (-1), .int .u64 (uv r.m.vh), .int .u64 (uv r.m.vl), .int .u64 (uv r.m.ch), .int .u64 (uv r.m.cl), .int .i64 r.kind, .int .i64 r.port, .int .i64 r.tab, .int .u64 (uv r.s.vh), .int .u64 (uv r.s.vl), .int .u64 (uv r.s.ch), .int .u64 (uv r.s.cl)] 55)) = u6 at hHeld N4 O0 G0 ⊢
            clear hgen
            generalize hgen : u1.heap.size = g4 at N4 hne ⊢
            clear hgen
            try simp only [Act.put, List.setIfInBounds_toArray, List.set_cons_zero, List.set_cons_succ]
            refine wpAnyH_ready (rs := [2]) (by kernel_rfl) (by simp) ?_
            refine AllReadyH.cons (o := ⟨some 56, _, _, _, _, _⟩) rfl (fun K hK => ?_) AllReadyH.nil
            have SR := (HV.out.on hHeld.1).src
            refine step_app _ rfl (.tmp 54) (.tmp 55) 22 rfl w4.heap.size 55 i1 _ 12 96 Try.underlying22 hi1 hz0 hz1 hz2 rfl (by decide) (.slice (some ⟨g0, 0, none⟩) 0 0) 0 (flatR []) rfl O0 _ M.length (flatR M) rfl SR (by unfold maxLen; omega) (by omega) hHeld.1.size ?_
            intro v2 u7 O2 hg2
            have B2 := hHeld.1.grown hg2 hHeld.1.size (fun j hj => (O0.lt j hj).1)
            replace N4 := N4.grown hg2 (by intro e; simp [Value.ownBlock] at e; exact hne e)
            refine hK.out _ _ (HKP.out _ B2) (fun hNext => ?_)
            clear hK K hHeld
            have hHeld := hNext
            clear hNext
            clear O0 G0 hg2 B2 SR hne
            rw [Nat.zero_add] at O2
            simp only [flatR_nil, List.nil_append] at O2
            try simp only [Act.put, List.setIfInBounds_toArray, List.set_cons_zero, List.set_cons_succ]
            refine wpAnyH_ready (rs := [5]) (by kernel_rfl) (by simp) ?_
            refine AllReadyH.cons (o := ⟨some 59, _, _, _, _, _⟩) rfl (fun K hK => ?_) AllReadyH.nil
            refine step_app _ rfl (.tmp 56) (.tmp 58) 22 rfl w4.heap.size 55 i1 _ 12 96 Try.underlying22 hi1 hz0 hz1 hz2 rfl (by decide) _ M.length (flatR M) rfl O2 (.slice (some ⟨g4, 0, none⟩) 1 1) 1 [.int .i64 (-1), .int .u64 (uv r.m.vh), .int .u64 (uv r.m.vl), .int .u64 (uv r.m.ch), .int .u64 (uv r.m.cl), .int .i64 r.kind, .int .i64 r.port, .int .i64 r.tab, .int .u64 (uv r.s.vh), .int .u64 (uv r.s.vl), .int .u64 (uv r.s.ch), .int .u64 (uv r.s.cl)] rfl (src_one (r := r.wp (-1)) N4) (by unfold maxLen; omega) (by omega) hHeld.1.size ?_
            intro v5 u8 O5 hg5
            have B5 := hHeld.1.grown hg5 hHeld.1.size (fun j hj => (O2.lt j hj).1)
            have R5 : Ru u8 v5 (M ++ [r.wp (-1)]) := own_Ru (base := w4.heap.size) (t := 55) (by rw [List.length_append, flatR_append]; exact O5)
            refine hK.out _ _ (HKP.out _ B5) (fun hNext => ?_)
            clear hK K hHeld
            have hHeld := hNext
            clear hNext
            clear O2 O5 hg5 B5 N4
            try simp only [Act.put, List.setIfInBounds_toArray, List.set_cons_zero, List.set_cons_succ]
            refine wpAnyH_ready (rs := [7]) (by kernel_rfl) (by simp) ?_
            refine AllReadyH.cons (o := ⟨some 61, _, _, _, _, _⟩) rfl (fun K hK => ?_) AllReadyH.nil
            go_simp
            (with_reducible refine (FB.out _ _ R5).mono ?_)
            rintro e u9 ⟨rfl, hb⟩
            (try dsimp only)
            refine hK.out _ _ (HKP.out _ (hHeld.1.trans (hb.mono hHeld.1.size))) (fun hNext => ?_)
            clear hK K hHeld
            have hHeld := hNext
            clear hNext
            clear hb R5
            try simp only [Act.put, List.setIfInBounds_toArray, List.set_cons_zero, List.set_cons_succ]
            refine wpAnyH_take (i := 8) (oi := ⟨some 53, _, _, _, _, _⟩) (v := ?vp12x9) rfl (by kernel_rfl) (by kernel_rfl) (by kernel_rfl) (fun _ _ _ h => h) (Or.inl ⟨by rfl, ?yp12x9⟩) hHeld ?rp12x9
            case yp12x9 => (intro w' hSw; (try dsimp only at hSw); go_simp; try (with_reducible rfl))
            simp only [Act.put, List.setIfInBounds_toArray, List.set_cons_zero, List.set_cons_succ]
            refine wpAnyH_take (i := 9) (oi := ⟨some 62, _, _, _, _, _⟩) (v := ?vp12x10) rfl (by kernel_rfl) (by kernel_rfl) (by kernel_rfl) (fun _ _ _ h => h) (Or.inl ⟨by rfl, ?yp12x10⟩) hHeld ?rp12x10
            case yp12x10 => (intro w' hSw; (try dsimp only at hSw); go_simp; try (with_reducible rfl))
            simp only [Act.put, List.setIfInBounds_toArray, List.set_cons_zero, List.set_cons_succ]
            refine wpAnyH_take (i := 10) (oi := ⟨some 63, _, _, _, _, _⟩) (v := ?vp12x11) rfl (by kernel_rfl) (by kernel_rfl) (by kernel_rfl) (fun _ _ _ h => h) (Or.inl ⟨by rfl, ?yp12x11⟩) hHeld ?rp12x11
            case yp12x11 => (intro w' hSw; (try dsimp only at hSw); go_simp; try (with_reducible rfl))
            simp only [Act.put, List.setIfInBounds_toArray, List.set_cons_zero, List.set_cons_succ]
            refine wpAnyH_take (i := 11) (oi := ⟨some 12, _, _, _, _, _⟩) (v := ?vp12x12) rfl (by kernel_rfl) (by kernel_rfl) (by kernel_rfl) (fun _ _ _ h => h) (Or.inl ⟨by rfl, ?yp12x12⟩) hHeld ?rp12x12
            case yp12x12 => (intro w' hSw; (try dsimp only at hSw); go_simp; try (with_reducible rfl))
            simp only [Act.put, List.setIfInBounds_toArray, List.set_cons_zero, List.set_cons_succ]
            refine wpAnyH_take (i := 12) (oi := ⟨some 13, _, _, _, _, _⟩) (v := ?vp12x13) rfl (by kernel_rfl) (by kernel_rfl) (by kernel_rfl) (fun _ _ _ h => h) (Or.inl ⟨by rfl, ?yp12x13⟩) hHeld ?rp12x13
            case yp12x13 => (intro w' hSw; (try dsimp only at hSw); go_simp; try (with_reducible rfl))
            simp only [Act.put, List.setIfInBounds_toArray, List.set_cons_zero, List.set_cons_succ]
            refine wpAnyH_done (by kernel_rfl) ?_ _
            go_wp2_with fail
            go_meet
            exact ⟨rfl, rfl, hHeld.1⟩
          refine AllReadyH.cons (o := ⟨some 58, _, _, _, _, _⟩) rfl (fun K hK => ?_) AllReadyH.nil
          go_simp
          have hb := below1 u0 (.cells #[.int .i64 (-1), .int .u64 (uv r.m.vh), .int .u64 (uv r.m.vl), .int .u64 (uv r.m.ch), .int .u64 (uv r.m.cl), .int .i64 r.kind, .int .i64 r.port, .int .i64 r.tab, .int .u64 (uv r.s.vh), .int .u64 (uv r.s.vl), .int .u64 (uv r.s.ch), .int .u64 (uv r.s.cl)] 55)
          refine hK.out _ _ (HKP.out _ (hHeld.1.trans (hb.mono hHeld.1.size))) (fun hNext => ?_)
          have N4 : Blk (u0.alloc (.cells #[.int .i64 (-1), .int .u64 (uv r.m.vh), .int .u64 (uv r.m.vl), .int .u64 (uv r.m.ch), .int .u64 (uv r.m.cl), .int .i64 r.kind, .int .i64 r.port, .int .i64 r.tab, .int .u64 (uv r.s.vh), .int .u64 (uv r.s.vl), .int .u64 (uv r.s.ch), .int .u64 (uv r.s.cl)] 55)) u0.heap.size 55 #[.int .i64 (-1), .int .u64 (uv r.m.vh), .int .u64 (uv r.m.vl), .int .u64 (uv r.m.ch), .int .u64 (uv r.m.cl), .int .i64 r.kind, .int .i64 r.port, .int .i64 r.tab, .int .u64 (uv r.s.vh), .int .u64 (uv r.s.vl), .int .u64 (uv r.s.ch), .int .u64 (uv r.s.cl)] := Blk.new u0 _ _
          clear hK K hHeld
          have hHeld := hNext
          clear hNext
          clear hb
          generalize hgen : (u0.alloc (.cells #[.int .i64 (-1), .int .u64 (uv r.m.vh), .int .u64 (uv r.m.vl), .int .u64 (uv r.m.ch), .int .u64 (uv r.m.cl), .int .i64 r.kind, .int .i64 r.port, .int .i64 r.tab, .int .u64 (uv r.s.vh), .int .u64 (uv r.s.vl), .int .u64 (uv r.s.ch), .int .u64 (uv r.s.cl)] 55)) = u10 at hHeld N4 ⊢
          clear hgen
          generalize hgen : u0.heap.size = g4 at N4 ⊢
          clear hgen
          try simp only [Act.put, List.setIfInBounds_toArray, List.set_cons_zero, List.set_cons_succ]
          refine wpAnyH_ready (rs := [0]) (by kernel_rfl) (by simp) ?_
          refine AllReadyH.cons (o := ⟨some 54, _, _, _, _, _⟩) rfl (fun K hK => ?_) AllReadyH.nil
          go_simp
          have hb := below1 u10 (.cells #[] 55)
          refine hK.out _ _ (HKP.out _ (hHeld.1.trans (hb.mono hHeld.1.size))) (fun hNext => ?_)
          have O0 : (u10.alloc (.cells #[] 55)).ownsRow w4.heap.size 55 12 (.slice (some ⟨u10.heap.size, 0, none⟩) 0 0) ([] : List Rl).length (flatR []) := World.ownsRow_made u10 #[] 0 hHeld.1.size (Nat.zero_le _) rfl
          have G0 : u10.heap.size < (u10.alloc (.cells #[] 55)).heap.size := by simp
          have hne : g4 ≠ u10.heap.size := Nat.ne_of_lt N4.lt
          replace N4 := N4.on hb
          clear hK K hHeld
          have hHeld := hNext
          clear hNext
          clear hb
          generalize hgen : (u10.alloc (.cells #[] 55)) = u11 at hHeld O0 G0 N4 ⊢
          clear hgen
          generalize hgen : u10.heap.size = g0 at O0 G0 hne ⊢
          clear hgen
          try simp only [Act.put, List.setIfInBounds_toArray, List.set_cons_zero, List.set_cons_succ]
          refine wpAnyH_ready (rs := [2]) (by kernel_rfl) (by simp) ?_
          refine AllReadyH.cons (o := ⟨some 56, _, _, _, _, _⟩) rfl (fun K hK => ?_) AllReadyH.nil
          have SR := (HV.out.on hHeld.1).src
          refine step_app _ rfl (.tmp 54) (.tmp 55) 22 rfl w4.heap.size 55 i1 _ 12 96 Try.underlying22 hi1 hz0 hz1 hz2 rfl (by decide) (.slice (some ⟨g0, 0, none⟩) 0 0) 0 (flatR []) rfl O0 _ M.length (flatR M) rfl SR (by unfold maxLen; omega) (by omega) hHeld.1.size ?_
          intro v2 u12 O2 hg2
          have B2 := hHeld.1.grown hg2 hHeld.1.size (fun j hj => (O0.lt j hj).1)
          replace N4 := N4.grown hg2 (by intro e; simp [Value.ownBlock] at e; exact hne e)
          refine hK.out _ _ (HKP.out _ B2) (fun hNext => ?_)
          clear hK K hHeld
          have hHeld := hNext
          clear hNext
          clear O0 G0 hg2 B2 SR hne
          rw [Nat.zero_add] at O2
          simp only [flatR_nil, List.nil_append] at O2
          try simp only [Act.put, List.setIfInBounds_toArray, List.set_cons_zero, List.set_cons_succ]
          refine wpAnyH_ready (rs := [5]) (by kernel_rfl) (by simp) ?_
          refine AllReadyH.cons (o := ⟨some 59, _, _, _, _, _⟩) rfl (fun K hK => ?_) AllReadyH.nil
          refine step_app _ rfl (.tmp 56) (.tmp 58) 22 rfl w4.heap.size 55 i1 _ 12 96 Try.underlying22 hi1 hz0 hz1 hz2 rfl (by decide) _ M.length (flatR M) rfl O2 (.slice (some ⟨g4, 0, none⟩) 1 1) 1 [.int .i64 (-1), .int .u64 (uv r.m.vh), .int .u64 (uv r.m.vl), .int .u64 (uv r.m.ch), .int .u64 (uv r.m.cl), .int .i64 r.kind, .int .i64 r.port, .int .i64 r.tab, .int .u64 (uv r.s.vh), .int .u64 (uv r.s.vl), .int .u64 (uv r.s.ch), .int .u64 (uv r.s.cl)] rfl (src_one (r := r.wp (-1)) N4) (by unfold maxLen; omega) (by omega) hHeld.1.size ?_
          intro v5 u13 O5 hg5
          have B5 := hHeld.1.grown hg5 hHeld.1.size (fun j hj => (O2.lt j hj).1)
          have R5 : Ru u13 v5 (M ++ [r.wp (-1)]) := own_Ru (base := w4.heap.size) (t := 55) (by rw [List.length_append, flatR_append]; exact O5)
          refine hK.out _ _ (HKP.out _ B5) (fun hNext => ?_)
          clear hK K hHeld
          have hHeld := hNext
          clear hNext
          clear O2 O5 hg5 B5 N4
          try simp only [Act.put, List.setIfInBounds_toArray, List.set_cons_zero, List.set_cons_succ]
          refine wpAnyH_ready (rs := [7]) (by kernel_rfl) (by simp) ?_
          refine AllReadyH.cons (o := ⟨some 61, _, _, _, _, _⟩) rfl (fun K hK => ?_) AllReadyH.nil
          go_simp
          (with_reducible refine (FB.out _ _ R5).mono ?_)
          rintro e u14 ⟨rfl, hb⟩
          (try dsimp only)
          refine hK.out _ _ (HKP.out _ (hHeld.1.trans (hb.mono hHeld.1.size))) (fun hNext => ?_)
          clear hK K hHeld
          have hHeld := hNext
          clear hNext
          clear hb R5
          try simp only [Act.put, List.setIfInBounds_toArray, List.set_cons_zero, List.set_cons_succ]
          refine wpAnyH_take (i := 8) (oi := ⟨some 53, _, _, _, _, _⟩) (v := ?vp12x14) rfl (by kernel_rfl) (by kernel_rfl) (by kernel_rfl) (fun _ _ _ h => h) (Or.inl ⟨by rfl, ?yp12x14⟩) hHeld ?rp12x14
          case yp12x14 => (intro w' hSw; (try dsimp only at hSw); go_simp; try (with_reducible rfl))
          simp only [Act.put, List.setIfInBounds_toArray, List.set_cons_zero, List.set_cons_succ]
          refine wpAnyH_take (i := 9) (oi := ⟨some 62, _, _, _, _, _⟩) (v := ?vp12x15) rfl (by kernel_rfl) (by kernel_rfl) (by kernel_rfl) (fun _ _ _ h => h) (Or.inl ⟨by rfl, ?yp12x15⟩) hHeld ?rp12x15
          case yp12x15 => (intro w' hSw; (try dsimp only at hSw); go_simp; try (with_reducible rfl))
          simp only [Act.put, List.setIfInBounds_toArray, List.set_cons_zero, List.set_cons_succ]
          refine wpAnyH_take (i := 10) (oi := ⟨some 63, _, _, _, _, _⟩) (v := ?vp12x16) rfl (by kernel_rfl) (by kernel_rfl) (by kernel_rfl) (fun _ _ _ h => h) (Or.inl ⟨by rfl, ?yp12x16⟩) hHeld ?rp12x16
          case yp12x16 => (intro w' hSw; (try dsimp only at hSw); go_simp; try (with_reducible rfl))
          simp only [Act.put, List.setIfInBounds_toArray, List.set_cons_zero, List.set_cons_succ]
          refine wpAnyH_take (i := 11) (oi := ⟨some 12, _, _, _, _, _⟩) (v := ?vp12x17) rfl (by kernel_rfl) (by kernel_rfl) (by kernel_rfl) (fun _ _ _ h => h) (Or.inl ⟨by rfl, ?yp12x17⟩) hHeld ?rp12x17
          case yp12x17 => (intro w' hSw; (try dsimp only at hSw); go_simp; try (with_reducible rfl))
          simp only [Act.put, List.setIfInBounds_toArray, List.set_cons_zero, List.set_cons_succ]
          refine wpAnyH_take (i := 12) (oi := ⟨some 13, _, _, _, _, _⟩) (v := ?vp12x18) rfl (by kernel_rfl) (by kernel_rfl) (by kernel_rfl) (fun _ _ _ h => h) (Or.inl ⟨by rfl, ?yp12x18⟩) hHeld ?rp12x18
          case yp12x18 => (intro w' hSw; (try dsimp only at hSw); go_simp; try (with_reducible rfl))
          simp only [Act.put, List.setIfInBounds_toArray, List.set_cons_zero, List.set_cons_succ]
          refine wpAnyH_done (by kernel_rfl) ?_ _
          go_wp2_with fail
          go_meet
          exact ⟨rfl, rfl, hHeld.1⟩
        case rest =>
          obtain ⟨rfl, rfl, B5⟩ := hcut
          have HB5 := Lib.hid (HB4.out.trans (B5.mono HB4.out.size))
          replace HV := Lib.hid (HV.out.on B5)
          replace HH := Lib.hid (HH.out.on B5)
          replace HR := Lib.hid (HR.out.on B5)
          replace E8 := Lib.hid (E8.out.on B5)
          clear B5 HB4 E7 FB
          go_upto_region 13 with (fail)
          go_cut [14, 15] (fun i o wx => i = .int .i64 nc ∧ o = .bool xc ∧ Below wc.heap.size wc wx)
          case first =>
            have KP : ∀ W, Below wc.heap.size wc W → (Below wc.heap.size wc W ∧ W.cell? ⟨b8, 0, none⟩ = some (.int .i64 2097152) ∧ W.cell? ⟨b8, 1, none⟩ = some (.int .u64 (uv r.m.vh)) ∧ W.cell? ⟨b8, 2, none⟩ = some (.int .u64 (uv r.m.vl)) ∧ W.cell? ⟨b8, 3, none⟩ = some (.int .u64 (uv r.m.ch)) ∧ W.cell? ⟨b8, 4, none⟩ = some (.int .u64 (uv r.m.cl)) ∧ W.cell? ⟨b8, 5, none⟩ = some (.int .i64 r.kind) ∧ W.cell? ⟨b8, 6, none⟩ = some (.int .i64 r.port) ∧ W.cell? ⟨b8, 7, none⟩ = some (.int .i64 r.tab) ∧ W.cell? ⟨b8, 8, none⟩ = some (.int .u64 (uv r.s.vh)) ∧ W.cell? ⟨b8, 9, none⟩ = some (.int .u64 (uv r.s.vl)) ∧ W.cell? ⟨b8, 10, none⟩ = some (.int .u64 (uv r.s.ch)) ∧ W.cell? ⟨b8, 11, none⟩ = some (.int .u64 (uv r.s.cl)) ∧ W.cell? ⟨w.heap.size + 1, 0, none⟩ = some (.int .u64 (uv hh)) ∧ W.cell? ⟨w.heap.size + 1, 1, none⟩ = some (.int .u64 (uv hl))) := fun W hb => ⟨hb, (E8.out.on hb).cell 0, (E8.out.on hb).cell 1, (E8.out.on hb).cell 2, (E8.out.on hb).cell 3, (E8.out.on hb).cell 4, (E8.out.on hb).cell 5, (E8.out.on hb).cell 6, (E8.out.on hb).cell 7, (E8.out.on hb).cell 8, (E8.out.on hb).cell 9, (E8.out.on hb).cell 10, (E8.out.on hb).cell 11, (HH.out.on hb).cell 0, (HH.out.on hb).cell 1⟩
            have HKP := Lib.hid KP
            clear KP
            refine wp_region_held_drew (S := fun w' => Below wc.heap.size wc w' ∧ w'.cell? ⟨b8, 0, none⟩ = some (.int .i64 2097152) ∧ w'.cell? ⟨b8, 1, none⟩ = some (.int .u64 (uv r.m.vh)) ∧ w'.cell? ⟨b8, 2, none⟩ = some (.int .u64 (uv r.m.vl)) ∧ w'.cell? ⟨b8, 3, none⟩ = some (.int .u64 (uv r.m.ch)) ∧ w'.cell? ⟨b8, 4, none⟩ = some (.int .u64 (uv r.m.cl)) ∧ w'.cell? ⟨b8, 5, none⟩ = some (.int .i64 r.kind) ∧ w'.cell? ⟨b8, 6, none⟩ = some (.int .i64 r.port) ∧ w'.cell? ⟨b8, 7, none⟩ = some (.int .i64 r.tab) ∧ w'.cell? ⟨b8, 8, none⟩ = some (.int .u64 (uv r.s.vh)) ∧ w'.cell? ⟨b8, 9, none⟩ = some (.int .u64 (uv r.s.vl)) ∧ w'.cell? ⟨b8, 10, none⟩ = some (.int .u64 (uv r.s.ch)) ∧ w'.cell? ⟨b8, 11, none⟩ = some (.int .u64 (uv r.s.cl)) ∧ w'.cell? ⟨w.heap.size + 1, 0, none⟩ = some (.int .u64 (uv hh)) ∧ w'.cell? ⟨w.heap.size + 1, 1, none⟩ = some (.int .u64 (uv hl))) (by kernel_rfl) (HKP.out _ (Below.refl _ wc).drew) (fun hHeld => ?_)
            generalize wc.drew = u0 at hHeld ⊢
            refine wpAnyH_take (i := 1) (oi := ⟨some 66, _, _, _, _, _⟩) (v := ?vp13x1) rfl (by kernel_rfl) (by kernel_rfl) (by kernel_rfl) (fun _ _ _ h => h) (Or.inl ⟨by rfl, ?yp13x1⟩) hHeld ?rp13x1
            case yp13x1 => (intro w' hSw; (try dsimp only at hSw); go_simp; try (with_reducible rfl))
            simp only [Act.put, List.setIfInBounds_toArray, List.set_cons_zero, List.set_cons_succ]
            refine wpAnyH_take (i := 3) (oi := ⟨some 68, _, _, _, _, _⟩) (v := ?vp13x2) rfl (by kernel_rfl) (by kernel_rfl) (by kernel_rfl) (fun _ _ _ h => h) (Or.inl ⟨by rfl, ?yp13x2⟩) hHeld ?rp13x2
            case yp13x2 => (intro w' hSw; (try dsimp only at hSw); go_simp; try (with_reducible rfl))
            simp only [Act.put, List.setIfInBounds_toArray, List.set_cons_zero, List.set_cons_succ]
            refine wpAnyH_take (i := 6) (oi := ⟨some 71, _, _, _, _, _⟩) (v := ?vp13x3) rfl (by kernel_rfl) (by kernel_rfl) (by kernel_rfl) (fun _ _ _ h => h) (Or.inl ⟨by rfl, ?yp13x3⟩) hHeld ?rp13x3
            case yp13x3 => (intro w' hSw; (try dsimp only at hSw); go_simp; try (with_reducible rfl))
            simp only [Act.put, List.setIfInBounds_toArray, List.set_cons_zero, List.set_cons_succ]
            refine wpAnyH_ready (rs := [0, 4]) (by kernel_rfl) (by simp) ?_
            refine AllReadyH.cons (o := ⟨some 65, _, _, _, _, _⟩) rfl (fun K hK => ?_) ?_
            · go_simp
              have hb := below1 u0 (.cells #[] 55)
              refine hK.out _ _ (HKP.out _ (hHeld.1.trans (hb.mono hHeld.1.size))) (fun hNext => ?_)
              have O0 : (u0.alloc (.cells #[] 55)).ownsRow wc.heap.size 55 12 (.slice (some ⟨u0.heap.size, 0, none⟩) 0 0) ([] : List Rl).length (flatR []) := World.ownsRow_made u0 #[] 0 hHeld.1.size (Nat.zero_le _) rfl
              have G0 : u0.heap.size < (u0.alloc (.cells #[] 55)).heap.size := by simp
              clear hK K hHeld
              have hHeld := hNext
              clear hNext
              clear hb
              generalize hgen : (u0.alloc (.cells #[] 55)) = u1 at hHeld O0 G0 ⊢
              clear hgen
              generalize hgen : u0.heap.size = g0 at O0 G0 ⊢
              clear hgen
              try simp only [Act.put, List.setIfInBounds_toArray, List.set_cons_zero, List.set_cons_succ]
              refine wpAnyH_ready (rs := [2, 4]) (by kernel_rfl) (by simp) ?_
              refine AllReadyH.cons (o := ⟨some 67, _, _, _, _, _⟩) rfl (fun K hK => ?_) ?_
              · have SR := (HV.out.on hHeld.1).src
                refine step_app _ rfl (.tmp 65) (.tmp 66) 22 rfl wc.heap.size 55 i1 _ 12 96 Try.underlying22 hi1 hz0 hz1 hz2 rfl (by decide) (.slice (some ⟨g0, 0, none⟩) 0 0) 0 (flatR []) rfl O0 _ M.length (flatR M) rfl SR (by unfold maxLen; omega) (by omega) hHeld.1.size ?_
                intro v2 u2 O2 hg2
                have B2 := hHeld.1.grown hg2 hHeld.1.size (fun j hj => (O0.lt j hj).1)
                refine hK.out _ _ (HKP.out _ B2) (fun hNext => ?_)
                clear hK K hHeld
                have hHeld := hNext
                clear hNext
                clear O0 G0 hg2 B2 SR
                rw [Nat.zero_add] at O2
                simp only [flatR_nil, List.nil_append] at O2
                try simp only [Act.put, List.setIfInBounds_toArray, List.set_cons_zero, List.set_cons_succ]
                refine wpAnyH_ready (rs := [4]) (by kernel_rfl) (by simp) ?_
                refine AllReadyH.cons (o := ⟨some 69, _, _, _, _, _⟩) rfl (fun K hK => ?_) AllReadyH.nil
                go_simp
                have hb := below1 u2 (.cells #[.int .i64 2097152, .int .u64 (uv r.m.vh), .int .u64 (uv r.m.vl), .int .u64 (uv r.m.ch), .int .u64 (uv r.m.cl), .int .i64 r.kind, .int .i64 r.port, .int .i64 r.tab, .int .u64 (uv r.s.vh), .int .u64 (uv r.s.vl), .int .u64 (uv r.s.ch), .int .u64 (uv r.s.cl)] 55)
                refine hK.out _ _ (HKP.out _ (hHeld.1.trans (hb.mono hHeld.1.size))) (fun hNext => ?_)
                have N4 : Blk (u2.alloc (.cells #[.int .i64 2097152, .int .u64 (uv r.m.vh), .int .u64 (uv r.m.vl), .int .u64 (uv r.m.ch), .int .u64 (uv r.m.cl), .int .i64 r.kind, .int .i64 r.port, .int .i64 r.tab, .int .u64 (uv r.s.vh), .int .u64 (uv r.s.vl), .int .u64 (uv r.s.ch), .int .u64 (uv r.s.cl)] 55)) u2.heap.size 55 #[.int .i64 2097152, .int .u64 (uv r.m.vh), .int .u64 (uv r.m.vl), .int .u64 (uv r.m.ch), .int .u64 (uv r.m.cl), .int .i64 r.kind, .int .i64 r.port, .int .i64 r.tab, .int .u64 (uv r.s.vh), .int .u64 (uv r.s.vl), .int .u64 (uv r.s.ch), .int .u64 (uv r.s.cl)] := Blk.new u2 _ _
                replace O2 := own_on O2 hb
                clear hK K hHeld
                have hHeld := hNext
                clear hNext
                clear hb
                generalize hgen : (u2.alloc (.cells #[.int .i64 2097152, .int .u64 (uv r.m.vh), .int .u64 (uv r.m.vl), .int .u64 (uv r.m.ch), .int .u64 (uv r.m.cl), .int .i64 r.kind, .int .i64 r.port, .int .i64 r.tab, .int .u64 (uv r.s.vh), .int .u64 (uv r.s.vl), .int .u64 (uv r.s.ch), .int .u64 (uv r.s.cl)] 55)) = u3 at hHeld N4 O2 ⊢
                clear hgen
                generalize hgen : u2.heap.size = g4 at N4 ⊢
                clear hgen
                try simp only [Act.put, List.setIfInBounds_toArray, List.set_cons_zero, List.set_cons_succ]
                refine wpAnyH_ready (rs := [5]) (by kernel_rfl) (by simp) ?_
                refine AllReadyH.cons (o := ⟨some 70, _, _, _, _, _⟩) rfl (fun K hK => ?_) AllReadyH.nil
                refine step_app _ rfl (.tmp 67) (.tmp 69) 22 rfl wc.heap.size 55 i1 _ 12 96 Try.underlying22 hi1 hz0 hz1 hz2 rfl (by decide) _ M.length (flatR M) rfl O2 (.slice (some ⟨g4, 0, none⟩) 1 1) 1 [.int .i64 2097152, .int .u64 (uv r.m.vh), .int .u64 (uv r.m.vl), .int .u64 (uv r.m.ch), .int .u64 (uv r.m.cl), .int .i64 r.kind, .int .i64 r.port, .int .i64 r.tab, .int .u64 (uv r.s.vh), .int .u64 (uv r.s.vl), .int .u64 (uv r.s.ch), .int .u64 (uv r.s.cl)] rfl (src_one (r := r.wp 2097152) N4) (by unfold maxLen; omega) (by omega) hHeld.1.size ?_
                intro v5 u4 O5 hg5
                have B5 := hHeld.1.grown hg5 hHeld.1.size (fun j hj => (O2.lt j hj).1)
                have R5 : Ru u4 v5 (M ++ [r.wp 2097152]) := own_Ru (base := wc.heap.size) (t := 55) (by rw [List.length_append, flatR_append]; exact O5)
                refine hK.out _ _ (HKP.out _ B5) (fun hNext => ?_)
                clear hK K hHeld
                have hHeld := hNext
                clear hNext
                clear O2 O5 hg5 B5 N4
                try simp only [Act.put, List.setIfInBounds_toArray, List.set_cons_zero, List.set_cons_succ]
                refine wpAnyH_ready (rs := [7]) (by kernel_rfl) (by simp) ?_
                refine AllReadyH.cons (o := ⟨some 72, _, _, _, _, _⟩) rfl (fun K hK => ?_) AllReadyH.nil
                go_simp
                (with_reducible refine (FC.out _ _ R5).mono ?_)
                rintro e u5 ⟨rfl, hb⟩
                (try dsimp only)
                refine hK.out _ _ (HKP.out _ (hHeld.1.trans (hb.mono hHeld.1.size))) (fun hNext => ?_)
                clear hK K hHeld
                have hHeld := hNext
                clear hNext
                clear hb R5
                try simp only [Act.put, List.setIfInBounds_toArray, List.set_cons_zero, List.set_cons_succ]
                refine wpAnyH_take (i := 8) (oi := ⟨some 64, _, _, _, _, _⟩) (v := ?vp13x4) rfl (by kernel_rfl) (by kernel_rfl) (by kernel_rfl) (fun _ _ _ h => h) (Or.inl ⟨by rfl, ?yp13x4⟩) hHeld ?rp13x4
                case yp13x4 => (intro w' hSw; (try dsimp only at hSw); go_simp; try (with_reducible rfl))
                simp only [Act.put, List.setIfInBounds_toArray, List.set_cons_zero, List.set_cons_succ]
                refine wpAnyH_take (i := 9) (oi := ⟨some 73, _, _, _, _, _⟩) (v := ?vp13x5) rfl (by kernel_rfl) (by kernel_rfl) (by kernel_rfl) (fun _ _ _ h => h) (Or.inl ⟨by rfl, ?yp13x5⟩) hHeld ?rp13x5
                case yp13x5 => (intro w' hSw; (try dsimp only at hSw); go_simp; try (with_reducible rfl))
                simp only [Act.put, List.setIfInBounds_toArray, List.set_cons_zero, List.set_cons_succ]
                refine wpAnyH_take (i := 10) (oi := ⟨some 74, _, _, _, _, _⟩) (v := ?vp13x6) rfl (by kernel_rfl) (by kernel_rfl) (by kernel_rfl) (fun _ _ _ h => h) (Or.inl ⟨by rfl, ?yp13x6⟩) hHeld ?rp13x6
                case yp13x6 => (intro w' hSw; (try dsimp only at hSw); go_simp; try (with_reducible rfl))
                simp only [Act.put, List.setIfInBounds_toArray, List.set_cons_zero, List.set_cons_succ]
                refine wpAnyH_take (i := 11) (oi := ⟨some 14, _, _, _, _, _⟩) (v := ?vp13x7) rfl (by kernel_rfl) (by kernel_rfl) (by kernel_rfl) (fun _ _ _ h => h) (Or.inl ⟨by rfl, ?yp13x7⟩) hHeld ?rp13x7
                case yp13x7 => (intro w' hSw; (try dsimp only at hSw); go_simp; try (with_reducible rfl))
                simp only [Act.put, List.setIfInBounds_toArray, List.set_cons_zero, List.set_cons_succ]
                refine wpAnyH_take (i := 12) (oi := ⟨some 15, _, _, _, _, _⟩) (v := ?vp13x8) rfl (by kernel_rfl) (by kernel_rfl) (by kernel_rfl) (fun _ _ _ h => h) (Or.inl ⟨by rfl, ?yp13x8⟩) hHeld ?rp13x8
                case yp13x8 => (intro w' hSw; (try dsimp only at hSw); go_simp; try (with_reducible rfl))
                simp only [Act.put, List.setIfInBounds_toArray, List.set_cons_zero, List.set_cons_succ]
                refine wpAnyH_done (by kernel_rfl) ?_ _
                go_wp2_with fail
                go_meet
                exact ⟨rfl, rfl, hHeld.1⟩
              refine AllReadyH.cons (o := ⟨some 69, _, _, _, _, _⟩) rfl (fun K hK => ?_) AllReadyH.nil
              go_simp
              have hb := below1 u1 (.cells #[.int .i64 2097152, .int .u64 (uv r.m.vh), .int .u64 (uv r.m.vl), .int .u64 (uv r.m.ch), .int .u64 (uv r.m.cl), .int .i64 r.kind, .int .i64 r.port, .int .i64 r.tab, .int .u64 (uv r.s.vh), .int .u64 (uv r.s.vl), .int .u64 (uv r.s.ch), .int .u64 (uv r.s.cl)] 55)
              refine hK.out _ _ (HKP.out _ (hHeld.1.trans (hb.mono hHeld.1.size))) (fun hNext => ?_)
              have N4 : Blk (u1.alloc (.cells #[.int .i64 2097152, .int .u64 (uv r.m.vh), .int .u64 (uv r.m.vl), .int .u64 (uv r.m.ch), .int .u64 (uv r.m.cl), .int .i64 r.kind, .int .i64 r.port, .int .i64 r.tab, .int .u64 (uv r.s.vh), .int .u64 (uv r.s.vl), .int .u64 (uv r.s.ch), .int .u64 (uv r.s.cl)] 55)) u1.heap.size 55 #[.int .i64 2097152, .int .u64 (uv r.m.vh), .int .u64 (uv r.m.vl), .int .u64 (uv r.m.ch), .int .u64 (uv r.m.cl), .int .i64 r.kind, .int .i64 r.port, .int .i64 r.tab, .int .u64 (uv r.s.vh), .int .u64 (uv r.s.vl), .int .u64 (uv r.s.ch), .int .u64 (uv r.s.cl)] := Blk.new u1 _ _
              have hne : u1.heap.size ≠ g0 := Nat.ne_of_gt G0
              replace G0 := Nat.lt_of_lt_of_le G0 hb.size
              replace O0 := own_on O0 hb
              clear hK K hHeld
              have hHeld := hNext
              clear hNext
              clear hb
              generalize hgen : (u1.alloc (.cells #[.int .i64 2097152, .int .u64 (uv r.m.vh), .int .u64 (uv r.m.vl), .int .u64 (uv r.m.ch), .int .u64 (uv r.m.cl), .int .i64 r.kind, .int .i64 r.port, .int .i64 r.tab, .int .u64 (uv r.s.vh), .int .u64 (uv r.s.vl), .int .u64 (uv r.s.ch), .int .u64 (uv r.s.cl)] 55)) = u6 at hHeld N4 O0 G0 ⊢
              clear hgen
              generalize hgen : u1.heap.size = g4 at N4 hne ⊢
              clear hgen
              try simp only [Act.put, List.setIfInBounds_toArray, List.set_cons_zero, List.set_cons_succ]
              refine wpAnyH_ready (rs := [2]) (by kernel_rfl) (by simp) ?_
              refine AllReadyH.cons (o := ⟨some 67, _, _, _, _, _⟩) rfl (fun K hK => ?_) AllReadyH.nil
              have SR := (HV.out.on hHeld.1).src
              refine step_app _ rfl (.tmp 65) (.tmp 66) 22 rfl wc.heap.size 55 i1 _ 12 96 Try.underlying22 hi1 hz0 hz1 hz2 rfl (by decide) (.slice (some ⟨g0, 0, none⟩) 0 0) 0 (flatR []) rfl O0 _ M.length (flatR M) rfl SR (by unfold maxLen; omega) (by omega) hHeld.1.size ?_
              intro v2 u7 O2 hg2
              have B2 := hHeld.1.grown hg2 hHeld.1.size (fun j hj => (O0.lt j hj).1)
              replace N4 := N4.grown hg2 (by intro e; simp [Value.ownBlock] at e; exact hne e)
              refine hK.out _ _ (HKP.out _ B2) (fun hNext => ?_)
              clear hK K hHeld
              have hHeld := hNext
              clear hNext
              clear O0 G0 hg2 B2 SR hne
              rw [Nat.zero_add] at O2
              simp only [flatR_nil, List.nil_append] at O2
              try simp only [Act.put, List.setIfInBounds_toArray, List.set_cons_zero, List.set_cons_succ]
              refine wpAnyH_ready (rs := [5]) (by kernel_rfl) (by simp) ?_
              refine AllReadyH.cons (o := ⟨some 70, _, _, _, _, _⟩) rfl (fun K hK => ?_) AllReadyH.nil
              refine step_app _ rfl (.tmp 67) (.tmp 69) 22 rfl wc.heap.size 55 i1 _ 12 96 Try.underlying22 hi1 hz0 hz1 hz2 rfl (by decide) _ M.length (flatR M) rfl O2 (.slice (some ⟨g4, 0, none⟩) 1 1) 1 [.int .i64 2097152, .int .u64 (uv r.m.vh), .int .u64 (uv r.m.vl), .int .u64 (uv r.m.ch), .int .u64 (uv r.m.cl), .int .i64 r.kind, .int .i64 r.port, .int .i64 r.tab, .int .u64 (uv r.s.vh), .int .u64 (uv r.s.vl), .int .u64 (uv r.s.ch), .int .u64 (uv r.s.cl)] rfl (src_one (r := r.wp 2097152) N4) (by unfold maxLen; omega) (by omega) hHeld.1.size ?_
              intro v5 u8 O5 hg5
              have B5 := hHeld.1.grown hg5 hHeld.1.size (fun j hj => (O2.lt j hj).1)
              have R5 : Ru u8 v5 (M ++ [r.wp 2097152]) := own_Ru (base := wc.heap.size) (t := 55) (by rw [List.length_append, flatR_append]; exact O5)
              refine hK.out _ _ (HKP.out _ B5) (fun hNext => ?_)
              clear hK K hHeld
              have hHeld := hNext
              clear hNext
              clear O2 O5 hg5 B5 N4
              try simp only [Act.put, List.setIfInBounds_toArray, List.set_cons_zero, List.set_cons_succ]
              refine wpAnyH_ready (rs := [7]) (by kernel_rfl) (by simp) ?_
              refine AllReadyH.cons (o := ⟨some 72, _, _, _, _, _⟩) rfl (fun K hK => ?_) AllReadyH.nil
              go_simp
              (with_reducible refine (FC.out _ _ R5).mono ?_)
              rintro e u9 ⟨rfl, hb⟩
              (try dsimp only)
              refine hK.out _ _ (HKP.out _ (hHeld.1.trans (hb.mono hHeld.1.size))) (fun hNext => ?_)
              clear hK K hHeld
              have hHeld := hNext
              clear hNext
              clear hb R5
              try simp only [Act.put, List.setIfInBounds_toArray, List.set_cons_zero, List.set_cons_succ]
              refine wpAnyH_take (i := 8) (oi := ⟨some 64, _, _, _, _, _⟩) (v := ?vp13x9) rfl (by kernel_rfl) (by kernel_rfl) (by kernel_rfl) (fun _ _ _ h => h) (Or.inl ⟨by rfl, ?yp13x9⟩) hHeld ?rp13x9
              case yp13x9 => (intro w' hSw; (try dsimp only at hSw); go_simp; try (with_reducible rfl))
              simp only [Act.put, List.setIfInBounds_toArray, List.set_cons_zero, List.set_cons_succ]
              refine wpAnyH_take (i := 9) (oi := ⟨some 73, _, _, _, _, _⟩) (v := ?vp13x10) rfl (by kernel_rfl) (by kernel_rfl) (by kernel_rfl) (fun _ _ _ h => h) (Or.inl ⟨by rfl, ?yp13x10⟩) hHeld ?rp13x10
              case yp13x10 => (intro w' hSw; (try dsimp only at hSw); go_simp; try (with_reducible rfl))
              simp only [Act.put, List.setIfInBounds_toArray, List.set_cons_zero, List.set_cons_succ]
              refine wpAnyH_take (i := 10) (oi := ⟨some 74, _, _, _, _, _⟩) (v := ?vp13x11) rfl (by kernel_rfl) (by kernel_rfl) (by kernel_rfl) (fun _ _ _ h => h) (Or.inl ⟨by rfl, ?yp13x11⟩) hHeld ?rp13x11
              case yp13x11 => (intro w' hSw; (try dsimp only at hSw); go_simp; try (with_reducible rfl))
              simp only [Act.put, List.setIfInBounds_toArray, List.set_cons_zero, List.set_cons_succ]
              refine wpAnyH_take (i := 11) (oi := ⟨some 14, _, _, _, _, _⟩) (v := ?vp13x12) rfl (by kernel_rfl) (by kernel_rfl) (by kernel_rfl) (fun _ _ _ h => h) (Or.inl ⟨by rfl, ?yp13x12⟩) hHeld ?rp13x12
              case yp13x12 => (intro w' hSw; (try dsimp only at hSw); go_simp; try (with_reducible rfl))
              simp only [Act.put, List.setIfInBounds_toArray, List.set_cons_zero, List.set_cons_succ]
              refine wpAnyH_take (i := 12) (oi := ⟨some 15, _, _, _, _, _⟩) (v := ?vp13x13) rfl (by kernel_rfl) (by kernel_rfl) (by kernel_rfl) (fun _ _ _ h => h) (Or.inl ⟨by rfl, ?yp13x13⟩) hHeld ?rp13x13
              case yp13x13 => (intro w' hSw; (try dsimp only at hSw); go_simp; try (with_reducible rfl))
              simp only [Act.put, List.setIfInBounds_toArray, List.set_cons_zero, List.set_cons_succ]
              refine wpAnyH_done (by kernel_rfl) ?_ _
              go_wp2_with fail
              go_meet
              exact ⟨rfl, rfl, hHeld.1⟩
            refine AllReadyH.cons (o := ⟨some 69, _, _, _, _, _⟩) rfl (fun K hK => ?_) AllReadyH.nil
            go_simp
            have hb := below1 u0 (.cells #[.int .i64 2097152, .int .u64 (uv r.m.vh), .int .u64 (uv r.m.vl), .int .u64 (uv r.m.ch), .int .u64 (uv r.m.cl), .int .i64 r.kind, .int .i64 r.port, .int .i64 r.tab, .int .u64 (uv r.s.vh), .int .u64 (uv r.s.vl), .int .u64 (uv r.s.ch), .int .u64 (uv r.s.cl)] 55)
            refine hK.out _ _ (HKP.out _ (hHeld.1.trans (hb.mono hHeld.1.size))) (fun hNext => ?_)
            have N4 : Blk (u0.alloc (.cells #[.int .i64 2097152, .int .u64 (uv r.m.vh), .int .u64 (uv r.m.vl), .int .u64 (uv r.m.ch), .int .u64 (uv r.m.cl), .int .i64 r.kind, .int .i64 r.port, .int .i64 r.tab, .int .u64 (uv r.s.vh), .int .u64 (uv r.s.vl), .int .u64 (uv r.s.ch), .int .u64 (uv r.s.cl)] 55)) u0.heap.size 55 #[.int .i64 2097152, .int .u64 (uv r.m.vh), .int .u64 (uv r.m.vl), .int .u64 (uv r.m.ch), .int .u64 (uv r.m.cl), .int .i64 r.kind, .int .i64 r.port, .int .i64 r.tab, .int .u64 (uv r.s.vh), .int .u64 (uv r.s.vl), .int .u64 (uv r.s.ch), .int .u64 (uv r.s.cl)] := Blk.new u0 _ _
            clear hK K hHeld
            have hHeld := hNext
            clear hNext
            clear hb
            generalize hgen : (u0.alloc (.cells #[.int .i64 2097152, .int .u64 (uv r.m.vh), .int .u64 (uv r.m.vl), .int .u64 (uv r.m.ch), .int .u64 (uv r.m.cl), .int .i64 r.kind, .int .i64 r.port, .int .i64 r.tab, .int .u64 (uv r.s.vh), .int .u64 (uv r.s.vl), .int .u64 (uv r.s.ch), .int .u64 (uv r.s.cl)] 55)) = u10 at hHeld N4 ⊢
            clear hgen
            generalize hgen : u0.heap.size = g4 at N4 ⊢
            clear hgen
            try simp only [Act.put, List.setIfInBounds_toArray, List.set_cons_zero, List.set_cons_succ]
            refine wpAnyH_ready (rs := [0]) (by kernel_rfl) (by simp) ?_
            refine AllReadyH.cons (o := ⟨some 65, _, _, _, _, _⟩) rfl (fun K hK => ?_) AllReadyH.nil
            go_simp
            have hb := below1 u10 (.cells #[] 55)
            refine hK.out _ _ (HKP.out _ (hHeld.1.trans (hb.mono hHeld.1.size))) (fun hNext => ?_)
            have O0 : (u10.alloc (.cells #[] 55)).ownsRow wc.heap.size 55 12 (.slice (some ⟨u10.heap.size, 0, none⟩) 0 0) ([] : List Rl).length (flatR []) := World.ownsRow_made u10 #[] 0 hHeld.1.size (Nat.zero_le _) rfl
            have G0 : u10.heap.size < (u10.alloc (.cells #[] 55)).heap.size := by simp
            have hne : g4 ≠ u10.heap.size := Nat.ne_of_lt N4.lt
            replace N4 := N4.on hb
            clear hK K hHeld
            have hHeld := hNext
            clear hNext
            clear hb
            generalize hgen : (u10.alloc (.cells #[] 55)) = u11 at hHeld O0 G0 N4 ⊢
            clear hgen
            generalize hgen : u10.heap.size = g0 at O0 G0 hne ⊢
            clear hgen
            try simp only [Act.put, List.setIfInBounds_toArray, List.set_cons_zero, List.set_cons_succ]
            refine wpAnyH_ready (rs := [2]) (by kernel_rfl) (by simp) ?_
            refine AllReadyH.cons (o := ⟨some 67, _, _, _, _, _⟩) rfl (fun K hK => ?_) AllReadyH.nil
            have SR := (HV.out.on hHeld.1).src
            refine step_app _ rfl (.tmp 65) (.tmp 66) 22 rfl wc.heap.size 55 i1 _ 12 96 Try.underlying22 hi1 hz0 hz1 hz2 rfl (by decide) (.slice (some ⟨g0, 0, none⟩) 0 0) 0 (flatR []) rfl O0 _ M.length (flatR M) rfl SR (by unfold maxLen; omega) (by omega) hHeld.1.size ?_
            intro v2 u12 O2 hg2
            have B2 := hHeld.1.grown hg2 hHeld.1.size (fun j hj => (O0.lt j hj).1)
            replace N4 := N4.grown hg2 (by intro e; simp [Value.ownBlock] at e; exact hne e)
            refine hK.out _ _ (HKP.out _ B2) (fun hNext => ?_)
            clear hK K hHeld
            have hHeld := hNext
            clear hNext
            clear O0 G0 hg2 B2 SR hne
            rw [Nat.zero_add] at O2
            simp only [flatR_nil, List.nil_append] at O2
            try simp only [Act.put, List.setIfInBounds_toArray, List.set_cons_zero, List.set_cons_succ]
            refine wpAnyH_ready (rs := [5]) (by kernel_rfl) (by simp) ?_
            refine AllReadyH.cons (o := ⟨some 70, _, _, _, _, _⟩) rfl (fun K hK => ?_) AllReadyH.nil
            refine step_app _ rfl (.tmp 67) (.tmp 69) 22 rfl wc.heap.size 55 i1 _ 12 96 Try.underlying22 hi1 hz0 hz1 hz2 rfl (by decide) _ M.length (flatR M) rfl O2 (.slice (some ⟨g4, 0, none⟩) 1 1) 1 [.int .i64 2097152, .int .u64 (uv r.m.vh), .int .u64 (uv r.m.vl), .int .u64 (uv r.m.ch), .int .u64 (uv r.m.cl), .int .i64 r.kind, .int .i64 r.port, .int .i64 r.tab, .int .u64 (uv r.s.vh), .int .u64 (uv r.s.vl), .int .u64 (uv r.s.ch), .int .u64 (uv r.s.cl)] rfl (src_one (r := r.wp 2097152) N4) (by unfold maxLen; omega) (by omega) hHeld.1.size ?_
            intro v5 u13 O5 hg5
            have B5 := hHeld.1.grown hg5 hHeld.1.size (fun j hj => (O2.lt j hj).1)
            have R5 : Ru u13 v5 (M ++ [r.wp 2097152]) := own_Ru (base := wc.heap.size) (t := 55) (by rw [List.length_append, flatR_append]; exact O5)
            refine hK.out _ _ (HKP.out _ B5) (fun hNext => ?_)
            clear hK K hHeld
            have hHeld := hNext
            clear hNext
            clear O2 O5 hg5 B5 N4
            try simp only [Act.put, List.setIfInBounds_toArray, List.set_cons_zero, List.set_cons_succ]
            refine wpAnyH_ready (rs := [7]) (by kernel_rfl) (by simp) ?_
            refine AllReadyH.cons (o := ⟨some 72, _, _, _, _, _⟩) rfl (fun K hK => ?_) AllReadyH.nil
            go_simp
            (with_reducible refine (FC.out _ _ R5).mono ?_)
            rintro e u14 ⟨rfl, hb⟩
            (try dsimp only)
            refine hK.out _ _ (HKP.out _ (hHeld.1.trans (hb.mono hHeld.1.size))) (fun hNext => ?_)
            clear hK K hHeld
            have hHeld := hNext
            clear hNext
            clear hb R5
            try simp only [Act.put, List.setIfInBounds_toArray, List.set_cons_zero, List.set_cons_succ]
            refine wpAnyH_take (i := 8) (oi := ⟨some 64, _, _, _, _, _⟩) (v := ?vp13x14) rfl (by kernel_rfl) (by kernel_rfl) (by kernel_rfl) (fun _ _ _ h => h) (Or.inl ⟨by rfl, ?yp13x14⟩) hHeld ?rp13x14
            case yp13x14 => (intro w' hSw; (try dsimp only at hSw); go_simp; try (with_reducible rfl))
            simp only [Act.put, List.setIfInBounds_toArray, List.set_cons_zero, List.set_cons_succ]
            refine wpAnyH_take (i := 9) (oi := ⟨some 73, _, _, _, _, _⟩) (v := ?vp13x15) rfl (by kernel_rfl) (by kernel_rfl) (by kernel_rfl) (fun _ _ _ h => h) (Or.inl ⟨by rfl, ?yp13x15⟩) hHeld ?rp13x15
            case yp13x15 => (intro w' hSw; (try dsimp only at hSw); go_simp; try (with_reducible rfl))
            simp only [Act.put, List.setIfInBounds_toArray, List.set_cons_zero, List.set_cons_succ]
            refine wpAnyH_take (i := 10) (oi := ⟨some 74, _, _, _, _, _⟩) (v := ?vp13x16) rfl (by kernel_rfl) (by kernel_rfl) (by kernel_rfl) (fun _ _ _ h => h) (Or.inl ⟨by rfl, ?yp13x16⟩) hHeld ?rp13x16
            case yp13x16 => (intro w' hSw; (try dsimp only at hSw); go_simp; try (with_reducible rfl))
            simp only [Act.put, List.setIfInBounds_toArray, List.set_cons_zero, List.set_cons_succ]
            refine wpAnyH_take (i := 11) (oi := ⟨some 14, _, _, _, _, _⟩) (v := ?vp13x17) rfl (by kernel_rfl) (by kernel_rfl) (by kernel_rfl) (fun _ _ _ h => h) (Or.inl ⟨by rfl, ?yp13x17⟩) hHeld ?rp13x17
            case yp13x17 => (intro w' hSw; (try dsimp only at hSw); go_simp; try (with_reducible rfl))
            simp only [Act.put, List.setIfInBounds_toArray, List.set_cons_zero, List.set_cons_succ]
            refine wpAnyH_take (i := 12) (oi := ⟨some 15, _, _, _, _, _⟩) (v := ?vp13x18) rfl (by kernel_rfl) (by kernel_rfl) (by kernel_rfl) (fun _ _ _ h => h) (Or.inl ⟨by rfl, ?yp13x18⟩) hHeld ?rp13x18
            case yp13x18 => (intro w' hSw; (try dsimp only at hSw); go_simp; try (with_reducible rfl))
            simp only [Act.put, List.setIfInBounds_toArray, List.set_cons_zero, List.set_cons_succ]
            refine wpAnyH_done (by kernel_rfl) ?_ _
            go_wp2_with fail
            go_meet
            exact ⟨rfl, rfl, hHeld.1⟩
          case rest =>
            obtain ⟨rfl, rfl, B6⟩ := hcut
            have HB6 := Lib.hid (HB5.out.trans (B6.mono HB5.out.size))
            have HH6 := Lib.hid (HH.out.on B6)
            have HR6 := HR.out.on B6
            have c1 := HR6.cell 1
            have c2 := HR6.cell 2
            have c3 := HR6.cell 3
            have c4 := HR6.cell 4
            clear B6 HB5 HV HH HR HR6 E8 FC
            cases hs : r.m.snd with
            | false =>
              have hq := has_none hh hl hs
              cases z with
              | none =>
                obtain rfl : na = 0 := HNA.out.symm
                obtain rfl : xa = false := HXA.out.symm
                obtain rfl : zb = none := by rw [HZB.out]; show (if r.m.has hh hl = true then _ else _) = _; rw [hq]; rfl
                obtain rfl : zc = none := by rw [HZC.out]; show (if r.m.has hh hl = true then _ else _) = _; rw [hq]; rfl
                obtain rfl : nb = 0 := HNB.out.symm
                obtain rfl : xb = false := HXB.out.symm
                obtain rfl : nc = 0 := HNC.out.symm
                obtain rfl : xc = false := HXC.out.symm
                clear HNA HXA HNB HXB HNC HXC HZB HZC
                go_wp2_with fail
                (with_reducible refine (text_no r.m _ hs).mono ?_)
                rintro e w7 ⟨rfl, hb⟩
                have HB7 := Lib.hid (HB6.out.trans (hb.mono HB6.out.size))
                have x0 := (HH6.out.on hb).cell 0
                have x1 := (HH6.out.on hb).cell 1
                clear hb HB6 HH6 c1 c2 c3 c4
                have B8 := HB7.out
                clear HB7
                go_wp2
                go_ret
                exact ⟨rfl, B8⟩
              | some a =>
                obtain rfl : na = (a : Int) := HNA.out.symm
                obtain rfl : xa = true := HXA.out.symm
                obtain rfl : zb = some a := HZB.out
                obtain rfl : zc = some a := by rw [HZC.out]; show (if r.m.has hh hl = true then _ else _) = _; rw [hq]; rfl
                obtain rfl : nb = (a : Int) := HNB.out.symm
                obtain rfl : xb = true := HXB.out.symm
                obtain rfl : nc = (a : Int) := HNC.out.symm
                obtain rfl : xc = true := HXC.out.symm
                clear HNA HXA HNB HXB HNC HXC HZB HZC
                go_wp2_with fail
                (with_reducible refine (text_no r.m _ hs).mono ?_)
                rintro e w7 ⟨rfl, hb⟩
                have HB7 := Lib.hid (HB6.out.trans (hb.mono HB6.out.size))
                have x0 := (HH6.out.on hb).cell 0
                have x1 := (HH6.out.on hb).cell 1
                clear hb HB6 HH6 c1 c2 c3 c4
                have B8 := HB7.out
                clear HB7
                go_wp2
                go_ret
                exact ⟨rfl, B8⟩
            | true =>
              obtain ⟨s, HT⟩ : ∃ s, Hid (txt r.m = s) := ⟨_, rfl⟩
              cases hq : r.m.has hh hl with
              | false =>
                cases z with
                | none =>
                  obtain rfl : na = 0 := HNA.out.symm
                  obtain rfl : xa = false := HXA.out.symm
                  obtain rfl : zb = none := by rw [HZB.out]; show (if r.m.has hh hl = true then _ else _) = _; rw [hq]; rfl
                  obtain rfl : zc = none := by rw [HZC.out]; show (if r.m.has hh hl = true then _ else _) = _; rw [hq]; rfl
                  obtain rfl : nb = 0 := HNB.out.symm
                  obtain rfl : xb = false := HXB.out.symm
                  obtain rfl : nc = 0 := HNC.out.symm
                  obtain rfl : xc = false := HXC.out.symm
                  clear HNA HXA HNB HXB HNC HXC HZB HZC
                  go_wp2_with fail
                  (with_reducible refine (text_s s r.m _ hs HT.out).mono ?_)
                  rintro e w7 ⟨rfl, hb⟩
                  have HB7 := Lib.hid (HB6.out.trans (hb.mono HB6.out.size))
                  have x0 := (HH6.out.on hb).cell 0
                  have x1 := (HH6.out.on hb).cell 1
                  clear hb HB6 HH6 c1 c2 c3 c4
                  go_wp2_with fail
                  (with_reducible refine (rhas_is false s r.m hh hl _ hs HT.out hq).mono ?_)
                  rintro e w8 ⟨rfl, hb⟩
                  have B8 := HB7.out.trans (hb.mono HB7.out.size)
                  clear hb HB7 x0 x1
                  go_wp2
                  go_ret
                  exact ⟨rfl, B8⟩
                | some a =>
                  obtain rfl : na = (a : Int) := HNA.out.symm
                  obtain rfl : xa = true := HXA.out.symm
                  obtain rfl : zb = some a := HZB.out
                  obtain rfl : zc = some a := by rw [HZC.out]; show (if r.m.has hh hl = true then _ else _) = _; rw [hq]; rfl
                  obtain rfl : nb = (a : Int) := HNB.out.symm
                  obtain rfl : xb = true := HXB.out.symm
                  obtain rfl : nc = (a : Int) := HNC.out.symm
                  obtain rfl : xc = true := HXC.out.symm
                  clear HNA HXA HNB HXB HNC HXC HZB HZC
                  go_wp2_with fail
                  (with_reducible refine (text_s s r.m _ hs HT.out).mono ?_)
                  rintro e w7 ⟨rfl, hb⟩
                  have HB7 := Lib.hid (HB6.out.trans (hb.mono HB6.out.size))
                  have x0 := (HH6.out.on hb).cell 0
                  have x1 := (HH6.out.on hb).cell 1
                  clear hb HB6 HH6 c1 c2 c3 c4
                  go_wp2_with fail
                  (with_reducible refine (rhas_is false s r.m hh hl _ hs HT.out hq).mono ?_)
                  rintro e w8 ⟨rfl, hb⟩
                  have B8 := HB7.out.trans (hb.mono HB7.out.size)
                  clear hb HB7 x0 x1
                  go_wp2
                  go_ret
                  exact ⟨rfl, B8⟩
              | true =>
                cases z with
                | none =>
                  obtain rfl : na = 0 := HNA.out.symm
                  obtain rfl : xa = false := HXA.out.symm
                  obtain rfl : zb = some M.length := by rw [HZB.out]; show (if r.m.has hh hl = true then _ else _) = _; rw [hq]; rfl
                  obtain rfl : zc = some M.length := by rw [HZC.out]; show (if r.m.has hh hl = true then _ else _) = _; rw [hq]; rfl
                  obtain rfl : nb = (M.length : Int) := HNB.out.symm
                  obtain rfl : xb = true := HXB.out.symm
                  obtain rfl : nc = (M.length : Int) := HNC.out.symm
                  obtain rfl : xc = true := HXC.out.symm
                  clear HNA HXA HNB HXB HNC HXC HZB HZC
                  go_wp2_with fail
                  (with_reducible refine (text_s s r.m _ hs HT.out).mono ?_)
                  rintro e w7 ⟨rfl, hb⟩
                  have HB7 := Lib.hid (HB6.out.trans (hb.mono HB6.out.size))
                  have x0 := (HH6.out.on hb).cell 0
                  have x1 := (HH6.out.on hb).cell 1
                  clear hb HB6 HH6 c1 c2 c3 c4
                  go_wp2_with fail
                  (with_reducible refine (rhas_is true s r.m hh hl _ hs HT.out hq).mono ?_)
                  rintro e w8 ⟨rfl, hb⟩
                  have B8 := HB7.out.trans (hb.mono HB7.out.size)
                  clear hb HB7 x0 x1
                  go_wp2
                  go_ret
                  exact ⟨rfl, B8⟩
                | some a =>
                  obtain rfl : na = (a : Int) := HNA.out.symm
                  obtain rfl : xa = true := HXA.out.symm
                  obtain rfl : zb = some a := HZB.out
                  obtain rfl : zc = some M.length := by rw [HZC.out]; show (if r.m.has hh hl = true then _ else _) = _; rw [hq]; rfl
                  obtain rfl : nb = (a : Int) := HNB.out.symm
                  obtain rfl : xb = true := HXB.out.symm
                  obtain rfl : nc = (M.length : Int) := HNC.out.symm
                  obtain rfl : xc = true := HXC.out.symm
                  clear HNA HXA HNB HXB HNC HXC HZB HZC
                  go_wp2_with fail
                  (with_reducible refine (text_s s r.m _ hs HT.out).mono ?_)
                  rintro e w7 ⟨rfl, hb⟩
                  have HB7 := Lib.hid (HB6.out.trans (hb.mono HB6.out.size))
                  have x0 := (HH6.out.on hb).cell 0
                  have x1 := (HH6.out.on hb).cell 1
                  clear hb HB6 HH6 c1 c2 c3 c4
                  go_wp2_with fail
                  (with_reducible refine (rhas_is true s r.m hh hl _ hs HT.out hq).mono ?_)
                  rintro e w8 ⟨rfl, hb⟩
                  have B8 := HB7.out.trans (hb.mono HB7.out.size)
                  clear hb HB7 x0 x1
                  go_wp2
                  go_ret
                  exact ⟨rfl, B8⟩
theorem tal_c (A : Option Addr) (cap : Nat) (L : List Rl) (r : Rl) (hh hl : BitVec 64) (w : World) (hn : L.length ≤ 4611686018427387904) (hc : L.length ≤ cap) (hv : Ru w (.slice A L.length cap) L) : Calls Try.prog 8 #[.slice A L.length cap, .agg #[.int .i64 r.pri, .int .u64 (uv r.m.vh), .int .u64 (uv r.m.vl), .int .u64 (uv r.m.ch), .int .u64 (uv r.m.cl), .int .i64 r.kind, .int .i64 r.port, .int .i64 r.tab, .int .u64 (uv r.s.vh), .int .u64 (uv r.s.vl), .int .u64 (uv r.s.ch), .int .u64 (uv r.s.cl)], .agg #[.int .u64 (uv hh), .int .u64 (uv hl)]] w fun e w' => e = .returned (.bool true) ∧ Below w.heap.size w w' :=
  tal_m A _ cap (L.take 8) r hh hl w (by rw [List.length_take]; omega) (fun W hb => few_c A cap L W hn hc (hv.on hb)) (hv.take 8)
end Go.Proofs
