/-
  Contract: Has of the reference of layer 2 tells whether a header is in the cube of a text. Conditions: the text is that of a sound cube.
  Plain facts on rows of bytes in memory and on the signs of two cubes' intersection. No program in sight. No conditions.
  Contracts: Meet and Within of the reference of layer 2, on the texts of two sound cubes. Conditions: both texts are those of sound cubes.
-/
import Derived.Test.YtgoieipchhamgaaJ9Triewithin
import Derived.Deep.QuietTactic
import Derived.BigQuiet
namespace Go.Proofs
open Go.RowKit Go.Proofs.Hd
attribute [local go_sem] uv_nonneg
theorem has_match (c : Cb) (h l : BitVec 64) (hs : c.snd = true) : c.has h l = true ↔ ∀ j, j < 128 → c.K j = true → hbit h l j = c.V j := by
  rw [Cb.has_iff]
  rw [Cb.snd_iff] at hs
  constructor
  · intro H j hj hk
    have := H j hj
    rw [hk, Bool.and_true] at this
    exact this
  · intro H j hj
    cases hk : c.K j with
    | true => rw [H j hj hk, Bool.and_true]
    | false =>
      cases hv : c.V j with
      | false => simp
      | true => rw [hs j hj hv] at hk; cases hk
/-- Sign k of a text. -/
theorem sign_x {c : Cb} {s : ByteArray} (hs : txt c = s) (k m : Nat) (hm : m + k = 127) (hk : k < s.size) (h : c.K m = false) : ((s[k]'hk).toNat : Int) = 120 := by
  subst hs; rw [txt_get, show 127 - k = m by omega]; unfold sgn; rw [h]; rfl
theorem sign_1 {c : Cb} {s : ByteArray} (hs : txt c = s) (k m : Nat) (hm : m + k = 127) (hk : k < s.size) (h : c.K m = true) (hv : c.V m = true) : ((s[k]'hk).toNat : Int) = 49 := by
  subst hs; rw [txt_get, show 127 - k = m by omega]; unfold sgn; rw [h, hv]; rfl
theorem sign_0 {c : Cb} {s : ByteArray} (hs : txt c = s) (k m : Nat) (hm : m + k = 127) (hk : k < s.size) (h : c.K m = true) (hv : c.V m = false) : ((s[k]'hk).toNat : Int) = 48 := by
  subst hs; rw [txt_get, show 127 - k = m by omega]; unfold sgn; rw [h, hv]; rfl
theorem has_fails {c : Cb} {h l : BitVec 64} {j : Nat} (hs : c.snd = true) (hj : j < 128) (hk : c.K j = true) (hne : ¬ hbit h l j = c.V j) : c.has h l = false := by
  cases e : c.has h l with
  | false => rfl
  | true => exact absurd ((has_match c h l hs).1 e j hj hk) hne
theorem step_ok {P : Nat → Prop} {k m : Nat} (hm : m + k = 127) (h : ∀ j, j < 128 → 128 ≤ j + k → P j) (hp : P m) : ∀ j, j < 128 → 128 ≤ j + (k + 1) → P j := fun j hj hk => by
  by_cases e : j = m
  · subst e; exact hp
  · exact h j hj (by omega)
theorem text_len {c : Cb} {s : ByteArray} (hs : txt c = s) : s.size = 128 := by subst hs; exact txt_size c

set_option maxRecDepth 100000 in
set_option maxHeartbeats 4000000 in
set_option maxRecDepth 100000 in
theorem rhas_s (s : ByteArray) (c : Cb) (hh hl : BitVec 64) (w : World) (hc : c.snd = true) (hs : txt c = s) :
    Calls Try.prog 17 #[.string s, .agg #[.int .u64 (uv hh), .int .u64 (uv hl)]] w fun e w' => e = .returned (.bool (c.has hh hl)) ∧ Below w.heap.size w w' := by
  have hz := zero25
  have l1 : s.size ≤ 128 := by rw [text_len hs]; omega
  have l2 : 128 ≤ s.size := by rw [text_len hs]; omega
  have HS := Lib.hid hs
  have HC := Lib.hid hc
  clear hs hc
  obtain ⟨x, hx⟩ : ∃ x, c.has hh hl = x := ⟨_, rfl⟩
  rw [hx]
  have HX := Lib.hid hx
  clear hx
  have b0 := below1 w (.cells #[.int .u64 (uv hh), .int .u64 (uv hl)] 25)
  go_enter Try.func17, Try.ntmps17
  go_wp2_with fail
  (with_reducible refine (bits_c _ _ _).mono ?_)
  rintro e w1 ⟨rfl, hb1⟩
  have B1 := b0.trans (hb1.mono b0.size)
  clear hb1 b0
  go_wp2_with (refine put_new rfl _ _ rfl (fun _ => false) (hbit hh hl) _ (by simp) rfl rfl ?_)
  go_loopg [6] 128 (fun g i wr => ∃ k : Nat, k ≤ 128 ∧ g = 128 - k ∧ i = .int .i64 k ∧ (∀ j, j < 128 → 128 ≤ j + k → c.K j = true → hbit hh hl j = c.V j) ∧ wr = w1.alloc (.cells (bl (hbit hh hl)).toArray 58))
  case atStart => exact ⟨0, by omega, rfl, rfl, fun j hj h => by omega, rfl⟩
  case round =>
    obtain ⟨k, hk, rfl, rfl, hok, rfl⟩ := hrel
    have HOK := Lib.hid hok
    clear hok
    by_cases hlt : k < 128
    · have hlt' : (k : Int) < 128 := by omega
      have hks : k < s.size := by omega
      have hks' : (k : Int) < (s.size : Int) := by omega
      obtain ⟨m, hm⟩ : ∃ m, m + k = 127 := ⟨127 - k, by omega⟩
      have hi : (127 : Int) - (k : Int) = (m : Int) := by omega
      have hm1 : m < 128 := by omega
      have hm2 : (m : Int) < 128 := by omega
      have hg := bl_get (hbit hh hl) m hm1
      have HM := Lib.hid hm
      clear hm
      cases hK : c.K m
      · have sg := sign_x HS.out k m HM.out hks hK
        have HK := Lib.hid hK
        clear hK hg
        go_wp2
        go_roundg (128 - (k + 1))
        case measure => omega
        case rel => exact ⟨k + 1, by omega, rfl, by go_num, step_ok HM.out HOK.out (fun h => by rw [HK.out] at h; cases h), rfl⟩
      · cases hV : c.V m <;> cases hB : hbit hh hl m
        · have sg := sign_0 HS.out k m HM.out hks hK hV
          rw [hB] at hg
          have HV := Lib.hid (hB.trans hV.symm)
          clear hK hV hB
          go_wp2
          go_roundg (128 - (k + 1))
          case measure => omega
          case rel => exact ⟨k + 1, by omega, rfl, by go_num, step_ok HM.out HOK.out (fun _ => HV.out), rfl⟩
        · have sg := sign_0 HS.out k m HM.out hks hK hV
          rw [hB] at hg
          have HF : c.has hh hl = false := has_fails HC.out hm1 hK (by rw [hB, hV]; simp)
          have e := HX.out
          rw [HF] at e
          subst e
          clear hK hV hB HF
          go_wp2
          go_ret
          exact ⟨rfl, B1.alloc B1.size _⟩
        · have sg := sign_1 HS.out k m HM.out hks hK hV
          rw [hB] at hg
          have HF : c.has hh hl = false := has_fails HC.out hm1 hK (by rw [hB, hV]; simp)
          have e := HX.out
          rw [HF] at e
          subst e
          clear hK hV hB HF
          go_wp2
          go_ret
          exact ⟨rfl, B1.alloc B1.size _⟩
        · have sg := sign_1 HS.out k m HM.out hks hK hV
          rw [hB] at hg
          have HV := Lib.hid (hB.trans hV.symm)
          clear hK hV hB
          go_wp2
          go_roundg (128 - (k + 1))
          case measure => omega
          case rel => exact ⟨k + 1, by omega, rfl, by go_num, step_ok HM.out HOK.out (fun _ => HV.out), rfl⟩
    · obtain rfl : k = 128 := by omega
      have HT : c.has hh hl = true := (has_match c hh hl HC.out).2 (fun j hj => HOK.out j hj (by omega))
      have e := HX.out
      rw [HT] at e
      subst e
      clear HT
      go_wp2
      go_ret
      exact ⟨rfl, B1.alloc B1.size _⟩
end Go.Proofs

namespace Go.Proofs.Hd
open Go.RowKit
/-- Block b begins with the 128 bytes f, which may be written. -/
def ByRow (w : World) (b : Nat) (f : Nat → UInt8) : Prop := ∀ i, i < 128 → w.cell? ⟨b, i, none⟩ = some (.int .u8 (f i).toNat) ∧ w.frozen? ⟨b, i, none⟩ = false
theorem ByRow.start (w : World) (s : ByteArray) (cap : Nat) (t : TypeId) (hs : s.size = 128) (f : Nat → UInt8) (hf : ∀ i (h : i < s.size), s[i] = f i) :
    ByRow (w.drew.alloc (.cells (bytesRow s cap) t ((bytesRow s cap).size, (bytesRow s cap).size + 1))) w.heap.size f := by
  intro i hi
  have hh : (w.drew.alloc (.cells (bytesRow s cap) t ((bytesRow s cap).size, (bytesRow s cap).size + 1))).heap[w.heap.size]? = some (.cells (bytesRow s cap) t ((bytesRow s cap).size, (bytesRow s cap).size + 1)) := heap_alloc_new w.drew _
  have hn : 128 ≤ (bytesRow s cap).size := by
    unfold bytesRow
    rw [Array.size_append, Array.size_map]
    have : s.data.size = 128 := hs
    omega
  constructor
  · rw [cell_of_row _ _ _ _ _ _ hh]
    unfold bytesRow
    have hd : i < s.data.size := by have : s.data.size = 128 := hs; omega
    rw [Array.getElem?_append_left (by rw [Array.size_map]; exact hd), Array.getElem?_map, Array.getElem?_eq_getElem hd]
    have := hf i (by omega)
    rw [← this]; rfl
  · simp only [World.frozen?, hh]
    simp; omega
theorem ByRow.set {w : World} {b : Nat} {f : Nat → UInt8} (h : ByRow w b f) (k : Nat) (hk : k < 128) (g : Nat → UInt8) (v : Int) (hv : v = ((g k).toNat : Int)) (hg : ∀ i, i < 128 → i ≠ k → g i = f i) : ByRow (w.setCell ⟨b, k, none⟩ (.int .u8 v)) b g := by
  intro i hi
  subst hv
  refine ⟨?_, by rw [World.frozen?_setCell]; exact (h i hi).2⟩
  by_cases e : i = k
  · subst e; exact World.cell?_setCell_same _ _ _ (h i hi).1
  · rw [World.cell?_setCell_other (h := by intro c; injection c with _ c; exact e c.symm), (h i hi).1, hg i hi e]
theorem ByRow.congr {w : World} {b : Nat} {f g : Nat → UInt8} (h : ByRow w b f) (hg : ∀ i, i < 128 → g i = f i) : ByRow w b g := fun i hi => by rw [hg i hi]; exact h i hi
theorem ByRow.on {w w' : World} {b : Nat} {f : Nat → UInt8} (h : ByRow w b f) (hb : Below w.heap.size w w') : ByRow w' b f := fun i hi =>
  have hl := World.block_lt_of_cell? w ⟨b, i, none⟩ (h i hi).1
  ⟨(hb.cell hl).trans (h i hi).1, (hb.frozen hl).trans (h i hi).2⟩
theorem join_sign {a b : Cb} (ha : a.snd = true) (hb : b.snd = true) {j : Nat} (hj : j < 128) :
    (a.K j = false → sgn (a.join b) j = sgn b j) ∧ (a.K j = true → (b.K j = true → a.V j = b.V j) → sgn (a.join b) j = sgn a j) := by
  have jv : (a.join b).V j = (a.V j || b.V j) := by unfold Cb.V Cb.join; rw [hbit_or]
  have jk : (a.join b).K j = (a.K j || b.K j) := by unfold Cb.K Cb.join; rw [hbit_or]
  have h3 := (Cb.snd_iff a).1 ha j hj
  have h4 := (Cb.snd_iff b).1 hb j hj
  unfold sgn
  rw [jv, jk]
  revert h3 h4
  generalize a.K j = k1
  generalize b.K j = k2
  generalize a.V j = v1
  generalize b.V j = v2
  cases k1 <;> cases k2 <;> cases v1 <;> cases v2 <;> simp
/-- The first k signs are those of the intersection, the others those of the first. -/
def mixT (a b : Cb) (k : Nat) : Nat → UInt8 := fun i => if i < k then sgn (a.join b) (127 - i) else sgn a (127 - i)
theorem mixT_zero (a b : Cb) (i : Nat) : mixT a b 0 i = sgn a (127 - i) := by simp [mixT]
theorem mixT_far (a b : Cb) (k : Nat) : ∀ i, i < 128 → i ≠ k → mixT a b (k + 1) i = mixT a b k i := fun i _ h => by
  unfold mixT
  by_cases c : i < k
  · rw [if_pos c, if_pos (by omega)]
  · rw [if_neg c, if_neg (by omega)]
theorem mixT_at (a b : Cb) (k : Nat) : mixT a b (k + 1) k = sgn (a.join b) (127 - k) := by unfold mixT; rw [if_pos (by omega)]
theorem mixT_same (a b : Cb) (k m : Nat) (hm : m + k = 127) (h : sgn (a.join b) m = sgn a m) : ∀ i, i < 128 → mixT a b (k + 1) i = mixT a b k i := fun i hi => by
  by_cases e : i = k
  · subst e
    rw [mixT_at, show 127 - i = m by omega, h]
    unfold mixT; rw [if_neg (by omega), show 127 - i = m by omega]
  · exact mixT_far a b k i hi e
theorem mixT_all (a b : Cb) (i : Nat) (hi : i < 128) : mixT a b 128 i = sgn (a.join b) (127 - i) := by unfold mixT; rw [if_pos hi]
theorem txtL_get (c : Cb) (j : Nat) (hj : j < (txtL c).length) : (txtL c)[j] = sgn c (127 - j) := by simp [txtL]
theorem agr_fails {a b : Cb} {j : Nat} (hj : j < 128) (h1 : a.K j = true) (h2 : b.K j = true) (hne : ¬ a.V j = b.V j) : a.agr b = false := by
  cases e : a.agr b with
  | false => rfl
  | true => exact absurd ((Cb.agr_iff a b).1 e j hj h1 h2) hne
theorem wit_match {a b : Cb} (ha : a.snd = true) (hb : b.snd = true) : a.wit b = true ↔ ∀ j, j < 128 → b.K j = true → a.K j = true ∧ a.V j = b.V j := by
  rw [Cb.wit_iff]
  constructor
  · rintro ⟨_, _, h3, h4⟩ j hj hk; exact ⟨h3 j hj hk, h4 j hj (h3 j hj hk) hk⟩
  · intro H; exact ⟨ha, hb, fun j hj hk => (H j hj hk).1, fun j hj _ hk => (H j hj hk).2⟩
theorem wit_fails {a b : Cb} (ha : a.snd = true) (hb : b.snd = true) {j : Nat} (hj : j < 128) (h2 : b.K j = true) (hne : ¬ (a.K j = true ∧ a.V j = b.V j)) : a.wit b = false := by
  cases e : a.wit b with
  | false => rfl
  | true => exact absurd ((wit_match ha hb).1 e j hj h2) hne
end Go.Proofs.Hd

namespace Go.Proofs
open Go.RowKit Go.Proofs.Hd
attribute [local go_sem] uv_nonneg
theorem bel_drewN {B : Nat} {w w' : World} (n : Nat) (h : Below B w w') : Below B w (w'.drewN n) := ⟨h.os, h.tape, h.output, h.size, h.block⟩
theorem sgnat {c : Cb} {s : ByteArray} (hs : txt c = s) (k m : Nat) (hm : m + k = 127) (hk : k < s.size) : s[k]'hk = sgn c m := by
  subst hs; rw [txt_get, show 127 - k = m by omega]
theorem toBytes (u : World) (s : ByteArray) : (convert 9 60 (.string s)).run Try.prog u = .ok (.slice (some ⟨u.heap.size, 0, none⟩) s.size (grownCap u s.size 0 5))
      (u.drew.alloc (.cells (bytesRow s (grownCap u s.size 0 5)) 5 ((bytesRow s (grownCap u s.size 0 5)).size, (bytesRow s (grownCap u s.size 0 5)).size + 1))) :=
  run_bytes_of_string u 9 60 5 s Try.underlying9 Try.underlying60 Try.underlying5
theorem fromBytes (u : World) (c : Cb) (b n cap : Nat) (hn : n = 128) (h : ByRow u b (fun i => sgn c (127 - i))) : (convert 60 9 (.slice (some ⟨b, 0, none⟩) n cap)).run Try.prog u = .ok (.string (txt c)) u := by
  subst hn
  have k := run_convert_bytes_back (P := Try.prog) u 60 9 5 ⟨b, 0, none⟩ cap (txtL c) Try.underlying60 Try.underlying5 Try.underlying9 (fun j hj => by
    have ha : (⟨b, 0, none⟩ : Addr).add j = ⟨b, j, none⟩ := by unfold Addr.add; split <;> simp_all
    rw [ha, (h j (by rw [txtL_len] at hj; exact hj)).1, txtL_get])
  rw [txtL_len] at k
  exact k

set_option maxHeartbeats 4000000 in
set_option maxRecDepth 100000 in
theorem rwithin_s (s t : ByteArray) (a b : Cb) (w : World) (ha : a.snd = true) (hb : b.snd = true) (hs : txt a = s) (ht : txt b = t) :
    Calls Try.prog 19 #[.string s, .string t] w fun e w' => e = .returned (.bool (a.wit b)) ∧ Below w.heap.size w w' := by
  have l1 : s.size ≤ 128 := by rw [text_len hs]; omega
  have l2 : 128 ≤ s.size := by rw [text_len hs]; omega
  have l3 : t.size ≤ 128 := by rw [text_len ht]; omega
  have l4 : 128 ≤ t.size := by rw [text_len ht]; omega
  have HS := Lib.hid hs
  have HT := Lib.hid ht
  have HA := Lib.hid ha
  have HB := Lib.hid hb
  clear hs ht ha hb
  obtain ⟨x, hx⟩ : ∃ x, a.wit b = x := ⟨_, rfl⟩
  rw [hx]
  have HX := Lib.hid hx
  clear hx
  go_enter Try.func19, Try.ntmps19
  go_wp2_with fail
  go_loopg [5] 128 (fun g i wr => ∃ k : Nat, k ≤ 128 ∧ g = 128 - k ∧ i = .int .i64 k ∧ (∀ j, j < 128 → 128 ≤ j + k → b.K j = true → a.K j = true ∧ a.V j = b.V j) ∧ Below w.heap.size w wr)
  case atStart => exact ⟨0, by omega, rfl, rfl, fun j hj h => by omega, Below.refl _ _⟩
  case round =>
    obtain ⟨k, hk, rfl, rfl, hok, BW⟩ := hrel
    have HOK := Lib.hid hok
    clear hok
    by_cases hlt : k < 128
    · skip
      have hlt' : (k : Int) < 128 := by omega
      have hks : k < s.size := by omega
      have hks' : (k : Int) < (s.size : Int) := by omega
      have hkt : k < t.size := by omega
      have hkt' : (k : Int) < (t.size : Int) := by omega
      obtain ⟨m, hm⟩ : ∃ m, m + k = 127 := ⟨127 - k, by omega⟩
      have hm1 : m < 128 := by omega
      have HM := Lib.hid hm
      clear hm
      cases hKb : b.K m
      · have sgt := sign_x HT.out k m HM.out hkt hKb
        have HK := Lib.hid hKb
        clear hKb
        go_wp2
        go_quiet (fail)
        go_wp2
        go_roundg (128 - (k + 1))
        case measure => omega
        case rel => exact ⟨k + 1, by omega, rfl, by go_num, step_ok HM.out HOK.out (fun h => by rw [HK.out] at h; cases h), bel_drewN _ BW⟩
      · cases hVb : b.V m <;> cases hKa : a.K m <;> cases hVa : a.V m
        · have sgt := sign_0 HT.out k m HM.out hkt hKb hVb
          have sgs := sign_x HS.out k m HM.out hks hKa
          have e := HX.out
          rw [wit_fails HA.out HB.out hm1 hKb (fun h => by have h1 := h.1; rw [hKa] at h1; cases h1)] at e
          subst e
          clear hKb hVb hKa hVa
          go_wp2
          go_quiet (fail)
          go_wp2
          go_ret
          exact ⟨rfl, bel_drewN _ BW⟩
        · have sgt := sign_0 HT.out k m HM.out hkt hKb hVb
          have sgs := sign_x HS.out k m HM.out hks hKa
          have e := HX.out
          rw [wit_fails HA.out HB.out hm1 hKb (fun h => by have h1 := h.1; rw [hKa] at h1; cases h1)] at e
          subst e
          clear hKb hVb hKa hVa
          go_wp2
          go_quiet (fail)
          go_wp2
          go_ret
          exact ⟨rfl, bel_drewN _ BW⟩
        · have sgt := sign_0 HT.out k m HM.out hkt hKb hVb
          have sgs := sign_0 HS.out k m HM.out hks hKa hVa
          have HV := Lib.hid (And.intro hKa (hVa.trans hVb.symm))
          clear hKb hVb hKa hVa
          go_wp2
          go_quiet (fail)
          go_wp2
          go_roundg (128 - (k + 1))
          case measure => omega
          case rel => exact ⟨k + 1, by omega, rfl, by go_num, step_ok HM.out HOK.out (fun _ => HV.out), bel_drewN _ BW⟩
        · have sgt := sign_0 HT.out k m HM.out hkt hKb hVb
          have sgs := sign_1 HS.out k m HM.out hks hKa hVa
          have e := HX.out
          rw [wit_fails HA.out HB.out hm1 hKb (fun h => by have h1 := h.2; rw [hVa, hVb] at h1; cases h1)] at e
          subst e
          clear hKb hVb hKa hVa
          go_wp2
          go_quiet (fail)
          go_wp2
          go_ret
          exact ⟨rfl, bel_drewN _ BW⟩
        · have sgt := sign_1 HT.out k m HM.out hkt hKb hVb
          have sgs := sign_x HS.out k m HM.out hks hKa
          have e := HX.out
          rw [wit_fails HA.out HB.out hm1 hKb (fun h => by have h1 := h.1; rw [hKa] at h1; cases h1)] at e
          subst e
          clear hKb hVb hKa hVa
          go_wp2
          go_quiet (fail)
          go_wp2
          go_ret
          exact ⟨rfl, bel_drewN _ BW⟩
        · have sgt := sign_1 HT.out k m HM.out hkt hKb hVb
          have sgs := sign_x HS.out k m HM.out hks hKa
          have e := HX.out
          rw [wit_fails HA.out HB.out hm1 hKb (fun h => by have h1 := h.1; rw [hKa] at h1; cases h1)] at e
          subst e
          clear hKb hVb hKa hVa
          go_wp2
          go_quiet (fail)
          go_wp2
          go_ret
          exact ⟨rfl, bel_drewN _ BW⟩
        · have sgt := sign_1 HT.out k m HM.out hkt hKb hVb
          have sgs := sign_0 HS.out k m HM.out hks hKa hVa
          have e := HX.out
          rw [wit_fails HA.out HB.out hm1 hKb (fun h => by have h1 := h.2; rw [hVa, hVb] at h1; cases h1)] at e
          subst e
          clear hKb hVb hKa hVa
          go_wp2
          go_quiet (fail)
          go_wp2
          go_ret
          exact ⟨rfl, bel_drewN _ BW⟩
        · have sgt := sign_1 HT.out k m HM.out hkt hKb hVb
          have sgs := sign_1 HS.out k m HM.out hks hKa hVa
          have HV := Lib.hid (And.intro hKa (hVa.trans hVb.symm))
          clear hKb hVb hKa hVa
          go_wp2
          go_quiet (fail)
          go_wp2
          go_roundg (128 - (k + 1))
          case measure => omega
          case rel => exact ⟨k + 1, by omega, rfl, by go_num, step_ok HM.out HOK.out (fun _ => HV.out), bel_drewN _ BW⟩
    · obtain rfl : k = 128 := by omega
      have e := HX.out
      rw [(wit_match HA.out HB.out).2 (fun j hj => HOK.out j hj (by omega))] at e
      subst e
      go_wp2
      go_ret
      exact ⟨rfl, BW⟩

set_option maxHeartbeats 4000000 in
set_option maxRecDepth 100000 in
theorem rmeet_s (s t : ByteArray) (a b : Cb) (w : World) (ha : a.snd = true) (hb : b.snd = true) (hs : txt a = s) (ht : txt b = t) (x : Bool) (r : ByteArray) (hx : a.agr b = x) (HR : Hid (x = true → r = txt (a.join b))) (HN : Hid (x = false → r = ⟨#[]⟩)) :
    Calls Try.prog 24 #[.string s, .string t] w fun e w' => e = .returned (.tuple #[.string r, .bool x]) ∧ Below w.heap.size w w' := by
  have l1 : s.size ≤ 128 := by rw [text_len hs]; omega
  have l2 : 128 ≤ s.size := by rw [text_len hs]; omega
  have l3 : t.size ≤ 128 := by rw [text_len ht]; omega
  have l4 : 128 ≤ t.size := by rw [text_len ht]; omega
  have HS := Lib.hid hs
  have HT := Lib.hid ht
  have HA := Lib.hid ha
  have HB := Lib.hid hb
  have R0 := ByRow.start w s (grownCap w s.size 0 5) 5 (text_len hs) (mixT a b 0) (fun i h => by subst hs; rw [txt_get, mixT_zero])
  have HR0 := Lib.hid R0
  have hcv := toBytes w s
  clear hs ht ha hb R0
  have HX := Lib.hid hx
  clear hx
  go_enter Try.func24, Try.ntmps24
  go_wp2_with fail
  generalize grownCap w s.size 0 5 = cap at *
  clear hcv
  go_loopg [7] 128 (fun g i wr => ∃ k : Nat, k ≤ 128 ∧ g = 128 - k ∧ i = .int .i64 k ∧ (∀ j, j < 128 → 128 ≤ j + k → a.K j = true → b.K j = true → a.V j = b.V j) ∧ Below w.heap.size w wr ∧ ByRow wr w.heap.size (mixT a b k))
  case atStart => exact ⟨0, by omega, rfl, rfl, fun j hj h => by omega, ((Below.refl _ w).drew).alloc (Nat.le_refl _) _, HR0.out⟩
  case round =>
    clear HR0
    obtain ⟨k, hk, rfl, rfl, hok, BW, RW⟩ := hrel
    have HOK := Lib.hid hok
    clear hok
    by_cases hlt : k < 128
    · skip
      have hlt' : (k : Int) < 128 := by omega
      have hks : k < s.size := by omega
      have hks' : (k : Int) < (s.size : Int) := by omega
      have hkt : k < t.size := by omega
      have hkt' : (k : Int) < (t.size : Int) := by omega
      obtain ⟨m, hm⟩ : ∃ m, m + k = 127 := ⟨127 - k, by omega⟩
      have hm1 : m < 128 := by omega
      have HM := Lib.hid hm
      clear hm
      have f1 := (RW k hlt).1
      have f2 := (RW k hlt).2
      have J := Lib.hid (join_sign HA.out HB.out hm1)
      cases hKa : a.K m
      · have sgs := sign_x HS.out k m HM.out hks hKa
        have HSB := Lib.hid (sgnat HT.out k m HM.out hkt)
        have HKA := Lib.hid hKa
        clear hKa
        go_wp2
        go_roundg (128 - (k + 1))
        case measure => omega
        case rel => exact ⟨k + 1, by omega, rfl, by go_num, step_ok HM.out HOK.out (fun h => by rw [HKA.out] at h; cases h), BW.setCell (Nat.le_refl _) _, RW.set k hlt _ _ (by rw [mixT_at, show 127 - k = m by have := HM.out; omega, J.out.1 HKA.out, HSB.out]) (mixT_far a b k)⟩
      · cases hVa : a.V m <;> cases hKb : b.K m <;> cases hVb : b.V m
        · have sgs := sign_0 HS.out k m HM.out hks hKa hVa
          have sgt := sign_x HT.out k m HM.out hkt hKb
          have HOK2 := Lib.hid (step_ok (P := fun j => a.K j = true → b.K j = true → a.V j = b.V j) HM.out HOK.out (fun _ => fun h => by rw [hKb] at h; cases h))
          have HSM := Lib.hid (mixT_same a b k m HM.out (J.out.2 hKa (fun h => by rw [hKb] at h; cases h)))
          clear hKb hVb hKa hVa
          go_wp2
          go_quiet (fail)
          go_wp2
          go_roundg (128 - (k + 1))
          case measure => omega
          case rel => exact ⟨k + 1, by omega, rfl, by go_num, HOK2.out, bel_drewN _ BW, RW.congr HSM.out⟩
        · have sgs := sign_0 HS.out k m HM.out hks hKa hVa
          have sgt := sign_x HT.out k m HM.out hkt hKb
          have HOK2 := Lib.hid (step_ok (P := fun j => a.K j = true → b.K j = true → a.V j = b.V j) HM.out HOK.out (fun _ => fun h => by rw [hKb] at h; cases h))
          have HSM := Lib.hid (mixT_same a b k m HM.out (J.out.2 hKa (fun h => by rw [hKb] at h; cases h)))
          clear hKb hVb hKa hVa
          go_wp2
          go_quiet (fail)
          go_wp2
          go_roundg (128 - (k + 1))
          case measure => omega
          case rel => exact ⟨k + 1, by omega, rfl, by go_num, HOK2.out, bel_drewN _ BW, RW.congr HSM.out⟩
        · have sgs := sign_0 HS.out k m HM.out hks hKa hVa
          have sgt := sign_0 HT.out k m HM.out hkt hKb hVb
          have HOK2 := Lib.hid (step_ok (P := fun j => a.K j = true → b.K j = true → a.V j = b.V j) HM.out HOK.out (fun _ => fun _ => hVa.trans hVb.symm))
          have HSM := Lib.hid (mixT_same a b k m HM.out (J.out.2 hKa (fun _ => hVa.trans hVb.symm)))
          clear hKb hVb hKa hVa
          go_wp2
          go_quiet (fail)
          go_wp2
          go_roundg (128 - (k + 1))
          case measure => omega
          case rel => exact ⟨k + 1, by omega, rfl, by go_num, HOK2.out, bel_drewN _ BW, RW.congr HSM.out⟩
        · have sgs := sign_0 HS.out k m HM.out hks hKa hVa
          have sgt := sign_1 HT.out k m HM.out hkt hKb hVb
          have e := HX.out
          rw [agr_fails hm1 hKa hKb (fun h => by rw [hVa, hVb] at h; cases h)] at e
          subst e
          have er := HN.out rfl
          subst er
          clear HR HN hKb hVb hKa hVa
          go_wp2
          go_quiet (fail)
          go_wp2
          go_ret2
          exact ⟨rfl, bel_drewN _ BW⟩
        · have sgs := sign_1 HS.out k m HM.out hks hKa hVa
          have sgt := sign_x HT.out k m HM.out hkt hKb
          have HOK2 := Lib.hid (step_ok (P := fun j => a.K j = true → b.K j = true → a.V j = b.V j) HM.out HOK.out (fun _ => fun h => by rw [hKb] at h; cases h))
          have HSM := Lib.hid (mixT_same a b k m HM.out (J.out.2 hKa (fun h => by rw [hKb] at h; cases h)))
          clear hKb hVb hKa hVa
          go_wp2
          go_quiet (fail)
          go_wp2
          go_roundg (128 - (k + 1))
          case measure => omega
          case rel => exact ⟨k + 1, by omega, rfl, by go_num, HOK2.out, bel_drewN _ BW, RW.congr HSM.out⟩
        · have sgs := sign_1 HS.out k m HM.out hks hKa hVa
          have sgt := sign_x HT.out k m HM.out hkt hKb
          have HOK2 := Lib.hid (step_ok (P := fun j => a.K j = true → b.K j = true → a.V j = b.V j) HM.out HOK.out (fun _ => fun h => by rw [hKb] at h; cases h))
          have HSM := Lib.hid (mixT_same a b k m HM.out (J.out.2 hKa (fun h => by rw [hKb] at h; cases h)))
          clear hKb hVb hKa hVa
          go_wp2
          go_quiet (fail)
          go_wp2
          go_roundg (128 - (k + 1))
          case measure => omega
          case rel => exact ⟨k + 1, by omega, rfl, by go_num, HOK2.out, bel_drewN _ BW, RW.congr HSM.out⟩
        · have sgs := sign_1 HS.out k m HM.out hks hKa hVa
          have sgt := sign_0 HT.out k m HM.out hkt hKb hVb
          have e := HX.out
          rw [agr_fails hm1 hKa hKb (fun h => by rw [hVa, hVb] at h; cases h)] at e
          subst e
          have er := HN.out rfl
          subst er
          clear HR HN hKb hVb hKa hVa
          go_wp2
          go_quiet (fail)
          go_wp2
          go_ret2
          exact ⟨rfl, bel_drewN _ BW⟩
        · have sgs := sign_1 HS.out k m HM.out hks hKa hVa
          have sgt := sign_1 HT.out k m HM.out hkt hKb hVb
          have HOK2 := Lib.hid (step_ok (P := fun j => a.K j = true → b.K j = true → a.V j = b.V j) HM.out HOK.out (fun _ => fun _ => hVa.trans hVb.symm))
          have HSM := Lib.hid (mixT_same a b k m HM.out (J.out.2 hKa (fun _ => hVa.trans hVb.symm)))
          clear hKb hVb hKa hVa
          go_wp2
          go_quiet (fail)
          go_wp2
          go_roundg (128 - (k + 1))
          case measure => omega
          case rel => exact ⟨k + 1, by omega, rfl, by go_num, HOK2.out, bel_drewN _ BW, RW.congr HSM.out⟩
    · obtain rfl : k = 128 := by omega
      have e := HX.out
      rw [(Cb.agr_iff a b).2 (fun j hj => HOK.out j hj (by omega))] at e
      subst e
      have er := HR.out rfl
      have hcv := fromBytes wr (a.join b) w.heap.size s.size cap (by omega) (RW.congr (fun i hi => (mixT_all a b i hi).symm))
      rw [← er] at hcv
      clear er HR HN
      go_wp2
      go_ret2
      exact ⟨rfl, BW⟩
end Go.Proofs
