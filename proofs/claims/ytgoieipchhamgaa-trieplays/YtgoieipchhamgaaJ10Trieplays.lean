/-
  Contract: Has of the reference of layer 2 tells whether a header is in the cube of a text. Conditions: the text is that of a sound cube.
  Plain facts on rows of bytes in memory and on the signs of two cubes' intersection. No program in sight. No conditions.
  Contracts: Meet and Within of the reference of layer 2, on the texts of two sound cubes. Conditions: both texts are those of sound cubes.
  Items of the law in memory; contract of the law's meets. Conditions as each theorem lists them.
  The law's list of items in a row of its own, beside a trie. Conditions as each theorem lists them.
-/
import Derived.Test.YtgoieipchhamgaaJ9Trieplays
import Derived.Deep.QuietTactic
import Derived.BigQuiet
namespace Go.Proofs
open Go.RowKit Go.Proofs.Hd
attribute [local go_sem] uv_nonneg
theorem has_match (c : Cb) (h l : BitVec 64) (hs : c.snd = true) : c.has h l = true ↔ ∀ j, j < 128 → c.K j = true → hbit h l j = c.V j := by
  rw [Cb.has_iff]
  rw [Cb.snd_iff] at hs
  constructor
  · intro H j hj hk
    have := H j hj
    rw [hk, Bool.and_true] at this
    exact this
  · intro H j hj
    cases hk : c.K j with
    | true => rw [H j hj hk, Bool.and_true]
    | false =>
      cases hv : c.V j with
      | false => simp
      | true => rw [hs j hj hv] at hk; cases hk
/-- Sign k of a text. -/
theorem sign_x {c : Cb} {s : ByteArray} (hs : txt c = s) (k m : Nat) (hm : m + k = 127) (hk : k < s.size) (h : c.K m = false) : ((s[k]'hk).toNat : Int) = 120 := by
  subst hs; rw [txt_get, show 127 - k = m by omega]; unfold sgn; rw [h]; rfl
theorem sign_1 {c : Cb} {s : ByteArray} (hs : txt c = s) (k m : Nat) (hm : m + k = 127) (hk : k < s.size) (h : c.K m = true) (hv : c.V m = true) : ((s[k]'hk).toNat : Int) = 49 := by
  subst hs; rw [txt_get, show 127 - k = m by omega]; unfold sgn; rw [h, hv]; rfl
theorem sign_0 {c : Cb} {s : ByteArray} (hs : txt c = s) (k m : Nat) (hm : m + k = 127) (hk : k < s.size) (h : c.K m = true) (hv : c.V m = false) : ((s[k]'hk).toNat : Int) = 48 := by
  subst hs; rw [txt_get, show 127 - k = m by omega]; unfold sgn; rw [h, hv]; rfl
theorem has_fails {c : Cb} {h l : BitVec 64} {j : Nat} (hs : c.snd = true) (hj : j < 128) (hk : c.K j = true) (hne : ¬ hbit h l j = c.V j) : c.has h l = false := by
  cases e : c.has h l with
  | false => rfl
  | true => exact absurd ((has_match c h l hs).1 e j hj hk) hne
theorem step_ok {P : Nat → Prop} {k m : Nat} (hm : m + k = 127) (h : ∀ j, j < 128 → 128 ≤ j + k → P j) (hp : P m) : ∀ j, j < 128 → 128 ≤ j + (k + 1) → P j := fun j hj hk => by
  by_cases e : j = m
  · subst e; exact hp
  · exact h j hj (by omega)
theorem text_len {c : Cb} {s : ByteArray} (hs : txt c = s) : s.size = 128 := by subst hs; exact txt_size c

set_option maxRecDepth 100000 in
set_option maxHeartbeats 4000000 in
set_option maxRecDepth 100000 in
theorem rhas_s (s : ByteArray) (c : Cb) (hh hl : BitVec 64) (w : World) (hc : c.snd = true) (hs : txt c = s) :
    Calls Try.prog 17 #[.string s, .agg #[.int .u64 (uv hh), .int .u64 (uv hl)]] w fun e w' => e = .returned (.bool (c.has hh hl)) ∧ Below w.heap.size w w' := by
  have hz := zero25
  have l1 : s.size ≤ 128 := by rw [text_len hs]; omega
  have l2 : 128 ≤ s.size := by rw [text_len hs]; omega
  have HS := Lib.hid hs
  have HC := Lib.hid hc
  clear hs hc
  obtain ⟨x, hx⟩ : ∃ x, c.has hh hl = x := ⟨_, rfl⟩
  rw [hx]
  have HX := Lib.hid hx
  clear hx
  have b0 := below1 w (.cells #[.int .u64 (uv hh), .int .u64 (uv hl)] 25)
  go_enter Try.func17, Try.ntmps17
  go_wp2_with fail
  (with_reducible refine (bits_c _ _ _).mono ?_)
  rintro e w1 ⟨rfl, hb1⟩
  have B1 := b0.trans (hb1.mono b0.size)
  clear hb1 b0
  go_wp2_with (refine put_new rfl _ _ rfl (fun _ => false) (hbit hh hl) _ (by simp) rfl rfl ?_)
  go_loopg [6] 128 (fun g i wr => ∃ k : Nat, k ≤ 128 ∧ g = 128 - k ∧ i = .int .i64 k ∧ (∀ j, j < 128 → 128 ≤ j + k → c.K j = true → hbit hh hl j = c.V j) ∧ wr = w1.alloc (.cells (bl (hbit hh hl)).toArray 58))
  case atStart => exact ⟨0, by omega, rfl, rfl, fun j hj h => by omega, rfl⟩
  case round =>
    obtain ⟨k, hk, rfl, rfl, hok, rfl⟩ := hrel
    have HOK := Lib.hid hok
    clear hok
    by_cases hlt : k < 128
    · have hlt' : (k : Int) < 128 := by omega
      have hks : k < s.size := by omega
      have hks' : (k : Int) < (s.size : Int) := by omega
      obtain ⟨m, hm⟩ : ∃ m, m + k = 127 := ⟨127 - k, by omega⟩
      have hi : (127 : Int) - (k : Int) = (m : Int) := by omega
      have hm1 : m < 128 := by omega
      have hm2 : (m : Int) < 128 := by omega
      have hg := bl_get (hbit hh hl) m hm1
      have HM := Lib.hid hm
      clear hm
      cases hK : c.K m
      · have sg := sign_x HS.out k m HM.out hks hK
        have HK := Lib.hid hK
        clear hK hg
        go_wp2
        go_roundg (128 - (k + 1))
        case measure => omega
        case rel => exact ⟨k + 1, by omega, rfl, by go_num, step_ok HM.out HOK.out (fun h => by rw [HK.out] at h; cases h), rfl⟩
      · cases hV : c.V m <;> cases hB : hbit hh hl m
        · have sg := sign_0 HS.out k m HM.out hks hK hV
          rw [hB] at hg
          have HV := Lib.hid (hB.trans hV.symm)
          clear hK hV hB
          go_wp2
          go_roundg (128 - (k + 1))
          case measure => omega
          case rel => exact ⟨k + 1, by omega, rfl, by go_num, step_ok HM.out HOK.out (fun _ => HV.out), rfl⟩
        · have sg := sign_0 HS.out k m HM.out hks hK hV
          rw [hB] at hg
          have HF : c.has hh hl = false := has_fails HC.out hm1 hK (by rw [hB, hV]; simp)
          have e := HX.out
          rw [HF] at e
          subst e
          clear hK hV hB HF
          go_wp2
          go_ret
          exact ⟨rfl, B1.alloc B1.size _⟩
        · have sg := sign_1 HS.out k m HM.out hks hK hV
          rw [hB] at hg
          have HF : c.has hh hl = false := has_fails HC.out hm1 hK (by rw [hB, hV]; simp)
          have e := HX.out
          rw [HF] at e
          subst e
          clear hK hV hB HF
          go_wp2
          go_ret
          exact ⟨rfl, B1.alloc B1.size _⟩
        · have sg := sign_1 HS.out k m HM.out hks hK hV
          rw [hB] at hg
          have HV := Lib.hid (hB.trans hV.symm)
          clear hK hV hB
          go_wp2
          go_roundg (128 - (k + 1))
          case measure => omega
          case rel => exact ⟨k + 1, by omega, rfl, by go_num, step_ok HM.out HOK.out (fun _ => HV.out), rfl⟩
    · obtain rfl : k = 128 := by omega
      have HT : c.has hh hl = true := (has_match c hh hl HC.out).2 (fun j hj => HOK.out j hj (by omega))
      have e := HX.out
      rw [HT] at e
      subst e
      clear HT
      go_wp2
      go_ret
      exact ⟨rfl, B1.alloc B1.size _⟩
end Go.Proofs

namespace Go.Proofs.Hd
open Go.RowKit
/-- Block b begins with the 128 bytes f, which may be written. -/
def ByRow (w : World) (b : Nat) (f : Nat → UInt8) : Prop := ∀ i, i < 128 → w.cell? ⟨b, i, none⟩ = some (.int .u8 (f i).toNat) ∧ w.frozen? ⟨b, i, none⟩ = false
theorem ByRow.start (w : World) (s : ByteArray) (cap : Nat) (t : TypeId) (hs : s.size = 128) (f : Nat → UInt8) (hf : ∀ i (h : i < s.size), s[i] = f i) :
    ByRow (w.drew.alloc (.cells (bytesRow s cap) t ((bytesRow s cap).size, (bytesRow s cap).size + 1))) w.heap.size f := by
  intro i hi
  have hh : (w.drew.alloc (.cells (bytesRow s cap) t ((bytesRow s cap).size, (bytesRow s cap).size + 1))).heap[w.heap.size]? = some (.cells (bytesRow s cap) t ((bytesRow s cap).size, (bytesRow s cap).size + 1)) := heap_alloc_new w.drew _
  have hn : 128 ≤ (bytesRow s cap).size := by
    unfold bytesRow
    rw [Array.size_append, Array.size_map]
    have : s.data.size = 128 := hs
    omega
  constructor
  · rw [cell_of_row _ _ _ _ _ _ hh]
    unfold bytesRow
    have hd : i < s.data.size := by have : s.data.size = 128 := hs; omega
    rw [Array.getElem?_append_left (by rw [Array.size_map]; exact hd), Array.getElem?_map, Array.getElem?_eq_getElem hd]
    have := hf i (by omega)
    rw [← this]; rfl
  · simp only [World.frozen?, hh]
    simp; omega
theorem ByRow.set {w : World} {b : Nat} {f : Nat → UInt8} (h : ByRow w b f) (k : Nat) (hk : k < 128) (g : Nat → UInt8) (v : Int) (hv : v = ((g k).toNat : Int)) (hg : ∀ i, i < 128 → i ≠ k → g i = f i) : ByRow (w.setCell ⟨b, k, none⟩ (.int .u8 v)) b g := by
  intro i hi
  subst hv
  refine ⟨?_, by rw [World.frozen?_setCell]; exact (h i hi).2⟩
  by_cases e : i = k
  · subst e; exact World.cell?_setCell_same _ _ _ (h i hi).1
  · rw [World.cell?_setCell_other (h := by intro c; injection c with _ c; exact e c.symm), (h i hi).1, hg i hi e]
theorem ByRow.congr {w : World} {b : Nat} {f g : Nat → UInt8} (h : ByRow w b f) (hg : ∀ i, i < 128 → g i = f i) : ByRow w b g := fun i hi => by rw [hg i hi]; exact h i hi
theorem ByRow.on {w w' : World} {b : Nat} {f : Nat → UInt8} (h : ByRow w b f) (hb : Below w.heap.size w w') : ByRow w' b f := fun i hi =>
  have hl := World.block_lt_of_cell? w ⟨b, i, none⟩ (h i hi).1
  ⟨(hb.cell hl).trans (h i hi).1, (hb.frozen hl).trans (h i hi).2⟩
theorem join_sign {a b : Cb} (ha : a.snd = true) (hb : b.snd = true) {j : Nat} (hj : j < 128) :
    (a.K j = false → sgn (a.join b) j = sgn b j) ∧ (a.K j = true → (b.K j = true → a.V j = b.V j) → sgn (a.join b) j = sgn a j) := by
  have jv : (a.join b).V j = (a.V j || b.V j) := by unfold Cb.V Cb.join; rw [hbit_or]
  have jk : (a.join b).K j = (a.K j || b.K j) := by unfold Cb.K Cb.join; rw [hbit_or]
  have h3 := (Cb.snd_iff a).1 ha j hj
  have h4 := (Cb.snd_iff b).1 hb j hj
  unfold sgn
  rw [jv, jk]
  revert h3 h4
  generalize a.K j = k1
  generalize b.K j = k2
  generalize a.V j = v1
  generalize b.V j = v2
  cases k1 <;> cases k2 <;> cases v1 <;> cases v2 <;> simp
/-- The first k signs are those of the intersection, the others those of the first. -/
def mixT (a b : Cb) (k : Nat) : Nat → UInt8 := fun i => if i < k then sgn (a.join b) (127 - i) else sgn a (127 - i)
theorem mixT_zero (a b : Cb) (i : Nat) : mixT a b 0 i = sgn a (127 - i) := by simp [mixT]
theorem mixT_far (a b : Cb) (k : Nat) : ∀ i, i < 128 → i ≠ k → mixT a b (k + 1) i = mixT a b k i := fun i _ h => by
  unfold mixT
  by_cases c : i < k
  · rw [if_pos c, if_pos (by omega)]
  · rw [if_neg c, if_neg (by omega)]
theorem mixT_at (a b : Cb) (k : Nat) : mixT a b (k + 1) k = sgn (a.join b) (127 - k) := by unfold mixT; rw [if_pos (by omega)]
theorem mixT_same (a b : Cb) (k m : Nat) (hm : m + k = 127) (h : sgn (a.join b) m = sgn a m) : ∀ i, i < 128 → mixT a b (k + 1) i = mixT a b k i := fun i hi => by
  by_cases e : i = k
  · subst e
    rw [mixT_at, show 127 - i = m by omega, h]
    unfold mixT; rw [if_neg (by omega), show 127 - i = m by omega]
  · exact mixT_far a b k i hi e
theorem mixT_all (a b : Cb) (i : Nat) (hi : i < 128) : mixT a b 128 i = sgn (a.join b) (127 - i) := by unfold mixT; rw [if_pos hi]
theorem txtL_get (c : Cb) (j : Nat) (hj : j < (txtL c).length) : (txtL c)[j] = sgn c (127 - j) := by simp [txtL]
theorem agr_fails {a b : Cb} {j : Nat} (hj : j < 128) (h1 : a.K j = true) (h2 : b.K j = true) (hne : ¬ a.V j = b.V j) : a.agr b = false := by
  cases e : a.agr b with
  | false => rfl
  | true => exact absurd ((Cb.agr_iff a b).1 e j hj h1 h2) hne
theorem wit_match {a b : Cb} (ha : a.snd = true) (hb : b.snd = true) : a.wit b = true ↔ ∀ j, j < 128 → b.K j = true → a.K j = true ∧ a.V j = b.V j := by
  rw [Cb.wit_iff]
  constructor
  · rintro ⟨_, _, h3, h4⟩ j hj hk; exact ⟨h3 j hj hk, h4 j hj (h3 j hj hk) hk⟩
  · intro H; exact ⟨ha, hb, fun j hj hk => (H j hj hk).1, fun j hj _ hk => (H j hj hk).2⟩
theorem wit_fails {a b : Cb} (ha : a.snd = true) (hb : b.snd = true) {j : Nat} (hj : j < 128) (h2 : b.K j = true) (hne : ¬ (a.K j = true ∧ a.V j = b.V j)) : a.wit b = false := by
  cases e : a.wit b with
  | false => rfl
  | true => exact absurd ((wit_match ha hb).1 e j hj h2) hne
end Go.Proofs.Hd

namespace Go.Proofs
open Go.RowKit Go.Proofs.Hd
attribute [local go_sem] uv_nonneg
theorem bel_drewN {B : Nat} {w w' : World} (n : Nat) (h : Below B w w') : Below B w (w'.drewN n) := ⟨h.os, h.tape, h.output, h.size, h.block⟩
theorem sgnat {c : Cb} {s : ByteArray} (hs : txt c = s) (k m : Nat) (hm : m + k = 127) (hk : k < s.size) : s[k]'hk = sgn c m := by
  subst hs; rw [txt_get, show 127 - k = m by omega]
theorem toBytes (u : World) (s : ByteArray) : (convert 9 60 (.string s)).run Try.prog u = .ok (.slice (some ⟨u.heap.size, 0, none⟩) s.size (grownCap u s.size 0 5))
      (u.drew.alloc (.cells (bytesRow s (grownCap u s.size 0 5)) 5 ((bytesRow s (grownCap u s.size 0 5)).size, (bytesRow s (grownCap u s.size 0 5)).size + 1))) :=
  run_bytes_of_string u 9 60 5 s Try.underlying9 Try.underlying60 Try.underlying5
theorem fromBytes (u : World) (c : Cb) (b n cap : Nat) (hn : n = 128) (h : ByRow u b (fun i => sgn c (127 - i))) : (convert 60 9 (.slice (some ⟨b, 0, none⟩) n cap)).run Try.prog u = .ok (.string (txt c)) u := by
  subst hn
  have k := run_convert_bytes_back (P := Try.prog) u 60 9 5 ⟨b, 0, none⟩ cap (txtL c) Try.underlying60 Try.underlying5 Try.underlying9 (fun j hj => by
    have ha : (⟨b, 0, none⟩ : Addr).add j = ⟨b, j, none⟩ := by unfold Addr.add; split <;> simp_all
    rw [ha, (h j (by rw [txtL_len] at hj; exact hj)).1, txtL_get])
  rw [txtL_len] at k
  exact k

set_option maxHeartbeats 4000000 in
set_option maxRecDepth 100000 in
theorem rwithin_s (s t : ByteArray) (a b : Cb) (w : World) (ha : a.snd = true) (hb : b.snd = true) (hs : txt a = s) (ht : txt b = t) :
    Calls Try.prog 19 #[.string s, .string t] w fun e w' => e = .returned (.bool (a.wit b)) ∧ Below w.heap.size w w' := by
  have l1 : s.size ≤ 128 := by rw [text_len hs]; omega
  have l2 : 128 ≤ s.size := by rw [text_len hs]; omega
  have l3 : t.size ≤ 128 := by rw [text_len ht]; omega
  have l4 : 128 ≤ t.size := by rw [text_len ht]; omega
  have HS := Lib.hid hs
  have HT := Lib.hid ht
  have HA := Lib.hid ha
  have HB := Lib.hid hb
  clear hs ht ha hb
  obtain ⟨x, hx⟩ : ∃ x, a.wit b = x := ⟨_, rfl⟩
  rw [hx]
  have HX := Lib.hid hx
  clear hx
  go_enter Try.func19, Try.ntmps19
  go_wp2_with fail
  go_loopg [5] 128 (fun g i wr => ∃ k : Nat, k ≤ 128 ∧ g = 128 - k ∧ i = .int .i64 k ∧ (∀ j, j < 128 → 128 ≤ j + k → b.K j = true → a.K j = true ∧ a.V j = b.V j) ∧ Below w.heap.size w wr)
  case atStart => exact ⟨0, by omega, rfl, rfl, fun j hj h => by omega, Below.refl _ _⟩
  case round =>
    obtain ⟨k, hk, rfl, rfl, hok, BW⟩ := hrel
    have HOK := Lib.hid hok
    clear hok
    by_cases hlt : k < 128
    · skip
      have hlt' : (k : Int) < 128 := by omega
      have hks : k < s.size := by omega
      have hks' : (k : Int) < (s.size : Int) := by omega
      have hkt : k < t.size := by omega
      have hkt' : (k : Int) < (t.size : Int) := by omega
      obtain ⟨m, hm⟩ : ∃ m, m + k = 127 := ⟨127 - k, by omega⟩
      have hm1 : m < 128 := by omega
      have HM := Lib.hid hm
      clear hm
      cases hKb : b.K m
      · have sgt := sign_x HT.out k m HM.out hkt hKb
        have HK := Lib.hid hKb
        clear hKb
        go_wp2
        go_quiet (fail)
        go_wp2
        go_roundg (128 - (k + 1))
        case measure => omega
        case rel => exact ⟨k + 1, by omega, rfl, by go_num, step_ok HM.out HOK.out (fun h => by rw [HK.out] at h; cases h), bel_drewN _ BW⟩
      · cases hVb : b.V m <;> cases hKa : a.K m <;> cases hVa : a.V m
        · have sgt := sign_0 HT.out k m HM.out hkt hKb hVb
          have sgs := sign_x HS.out k m HM.out hks hKa
          have e := HX.out
          rw [wit_fails HA.out HB.out hm1 hKb (fun h => by have h1 := h.1; rw [hKa] at h1; cases h1)] at e
          subst e
          clear hKb hVb hKa hVa
          go_wp2
          go_quiet (fail)
          go_wp2
          go_ret
          exact ⟨rfl, bel_drewN _ BW⟩
        · have sgt := sign_0 HT.out k m HM.out hkt hKb hVb
          have sgs := sign_x HS.out k m HM.out hks hKa
          have e := HX.out
          rw [wit_fails HA.out HB.out hm1 hKb (fun h => by have h1 := h.1; rw [hKa] at h1; cases h1)] at e
          subst e
          clear hKb hVb hKa hVa
          go_wp2
          go_quiet (fail)
          go_wp2
          go_ret
          exact ⟨rfl, bel_drewN _ BW⟩
        · have sgt := sign_0 HT.out k m HM.out hkt hKb hVb
          have sgs := sign_0 HS.out k m HM.out hks hKa hVa
          have HV := Lib.hid (And.intro hKa (hVa.trans hVb.symm))
          clear hKb hVb hKa hVa
          go_wp2
          go_quiet (fail)
          go_wp2
          go_roundg (128 - (k + 1))
          case measure => omega
          case rel => exact ⟨k + 1, by omega, rfl, by go_num, step_ok HM.out HOK.out (fun _ => HV.out), bel_drewN _ BW⟩
        · have sgt := sign_0 HT.out k m HM.out hkt hKb hVb
          have sgs := sign_1 HS.out k m HM.out hks hKa hVa
          have e := HX.out
          rw [wit_fails HA.out HB.out hm1 hKb (fun h => by have h1 := h.2; rw [hVa, hVb] at h1; cases h1)] at e
          subst e
          clear hKb hVb hKa hVa
          go_wp2
          go_quiet (fail)
          go_wp2
          go_ret
          exact ⟨rfl, bel_drewN _ BW⟩
        · have sgt := sign_1 HT.out k m HM.out hkt hKb hVb
          have sgs := sign_x HS.out k m HM.out hks hKa
          have e := HX.out
          rw [wit_fails HA.out HB.out hm1 hKb (fun h => by have h1 := h.1; rw [hKa] at h1; cases h1)] at e
          subst e
          clear hKb hVb hKa hVa
          go_wp2
          go_quiet (fail)
          go_wp2
          go_ret
          exact ⟨rfl, bel_drewN _ BW⟩
        · have sgt := sign_1 HT.out k m HM.out hkt hKb hVb
          have sgs := sign_x HS.out k m HM.out hks hKa
          have e := HX.out
          rw [wit_fails HA.out HB.out hm1 hKb (fun h => by have h1 := h.1; rw [hKa] at h1; cases h1)] at e
          subst e
          clear hKb hVb hKa hVa
          go_wp2
          go_quiet (fail)
          go_wp2
          go_ret
          exact ⟨rfl, bel_drewN _ BW⟩
        · have sgt := sign_1 HT.out k m HM.out hkt hKb hVb
          have sgs := sign_0 HS.out k m HM.out hks hKa hVa
          have e := HX.out
          rw [wit_fails HA.out HB.out hm1 hKb (fun h => by have h1 := h.2; rw [hVa, hVb] at h1; cases h1)] at e
          subst e
          clear hKb hVb hKa hVa
          go_wp2
          go_quiet (fail)
          go_wp2
          go_ret
          exact ⟨rfl, bel_drewN _ BW⟩
        · have sgt := sign_1 HT.out k m HM.out hkt hKb hVb
          have sgs := sign_1 HS.out k m HM.out hks hKa hVa
          have HV := Lib.hid (And.intro hKa (hVa.trans hVb.symm))
          clear hKb hVb hKa hVa
          go_wp2
          go_quiet (fail)
          go_wp2
          go_roundg (128 - (k + 1))
          case measure => omega
          case rel => exact ⟨k + 1, by omega, rfl, by go_num, step_ok HM.out HOK.out (fun _ => HV.out), bel_drewN _ BW⟩
    · obtain rfl : k = 128 := by omega
      have e := HX.out
      rw [(wit_match HA.out HB.out).2 (fun j hj => HOK.out j hj (by omega))] at e
      subst e
      go_wp2
      go_ret
      exact ⟨rfl, BW⟩

set_option maxHeartbeats 4000000 in
set_option maxRecDepth 100000 in
theorem rmeet_s (s t : ByteArray) (a b : Cb) (w : World) (ha : a.snd = true) (hb : b.snd = true) (hs : txt a = s) (ht : txt b = t) (x : Bool) (r : ByteArray) (hx : a.agr b = x) (HR : Hid (x = true → r = txt (a.join b))) (HN : Hid (x = false → r = ⟨#[]⟩)) :
    Calls Try.prog 24 #[.string s, .string t] w fun e w' => e = .returned (.tuple #[.string r, .bool x]) ∧ Below w.heap.size w w' := by
  have l1 : s.size ≤ 128 := by rw [text_len hs]; omega
  have l2 : 128 ≤ s.size := by rw [text_len hs]; omega
  have l3 : t.size ≤ 128 := by rw [text_len ht]; omega
  have l4 : 128 ≤ t.size := by rw [text_len ht]; omega
  have HS := Lib.hid hs
  have HT := Lib.hid ht
  have HA := Lib.hid ha
  have HB := Lib.hid hb
  have R0 := ByRow.start w s (grownCap w s.size 0 5) 5 (text_len hs) (mixT a b 0) (fun i h => by subst hs; rw [txt_get, mixT_zero])
  have HR0 := Lib.hid R0
  have hcv := toBytes w s
  clear hs ht ha hb R0
  have HX := Lib.hid hx
  clear hx
  go_enter Try.func24, Try.ntmps24
  go_wp2_with fail
  generalize grownCap w s.size 0 5 = cap at *
  clear hcv
  go_loopg [7] 128 (fun g i wr => ∃ k : Nat, k ≤ 128 ∧ g = 128 - k ∧ i = .int .i64 k ∧ (∀ j, j < 128 → 128 ≤ j + k → a.K j = true → b.K j = true → a.V j = b.V j) ∧ Below w.heap.size w wr ∧ ByRow wr w.heap.size (mixT a b k))
  case atStart => exact ⟨0, by omega, rfl, rfl, fun j hj h => by omega, ((Below.refl _ w).drew).alloc (Nat.le_refl _) _, HR0.out⟩
  case round =>
    clear HR0
    obtain ⟨k, hk, rfl, rfl, hok, BW, RW⟩ := hrel
    have HOK := Lib.hid hok
    clear hok
    by_cases hlt : k < 128
    · skip
      have hlt' : (k : Int) < 128 := by omega
      have hks : k < s.size := by omega
      have hks' : (k : Int) < (s.size : Int) := by omega
      have hkt : k < t.size := by omega
      have hkt' : (k : Int) < (t.size : Int) := by omega
      obtain ⟨m, hm⟩ : ∃ m, m + k = 127 := ⟨127 - k, by omega⟩
      have hm1 : m < 128 := by omega
      have HM := Lib.hid hm
      clear hm
      have f1 := (RW k hlt).1
      have f2 := (RW k hlt).2
      have J := Lib.hid (join_sign HA.out HB.out hm1)
      cases hKa : a.K m
      · have sgs := sign_x HS.out k m HM.out hks hKa
        have HSB := Lib.hid (sgnat HT.out k m HM.out hkt)
        have HKA := Lib.hid hKa
        clear hKa
        go_wp2
        go_roundg (128 - (k + 1))
        case measure => omega
        case rel => exact ⟨k + 1, by omega, rfl, by go_num, step_ok HM.out HOK.out (fun h => by rw [HKA.out] at h; cases h), BW.setCell (Nat.le_refl _) _, RW.set k hlt _ _ (by rw [mixT_at, show 127 - k = m by have := HM.out; omega, J.out.1 HKA.out, HSB.out]) (mixT_far a b k)⟩
      · cases hVa : a.V m <;> cases hKb : b.K m <;> cases hVb : b.V m
        · have sgs := sign_0 HS.out k m HM.out hks hKa hVa
          have sgt := sign_x HT.out k m HM.out hkt hKb
          have HOK2 := Lib.hid (step_ok (P := fun j => a.K j = true → b.K j = true → a.V j = b.V j) HM.out HOK.out (fun _ => fun h => by rw [hKb] at h; cases h))
          have HSM := Lib.hid (mixT_same a b k m HM.out (J.out.2 hKa (fun h => by rw [hKb] at h; cases h)))
          clear hKb hVb hKa hVa
          go_wp2
          go_quiet (fail)
          go_wp2
          go_roundg (128 - (k + 1))
          case measure => omega
          case rel => exact ⟨k + 1, by omega, rfl, by go_num, HOK2.out, bel_drewN _ BW, RW.congr HSM.out⟩
        · have sgs := sign_0 HS.out k m HM.out hks hKa hVa
          have sgt := sign_x HT.out k m HM.out hkt hKb
          have HOK2 := Lib.hid (step_ok (P := fun j => a.K j = true → b.K j = true → a.V j = b.V j) HM.out HOK.out (fun _ => fun h => by rw [hKb] at h; cases h))
          have HSM := Lib.hid (mixT_same a b k m HM.out (J.out.2 hKa (fun h => by rw [hKb] at h; cases h)))
          clear hKb hVb hKa hVa
          go_wp2
          go_quiet (fail)
          go_wp2
          go_roundg (128 - (k + 1))
          case measure => omega
          case rel => exact ⟨k + 1, by omega, rfl, by go_num, HOK2.out, bel_drewN _ BW, RW.congr HSM.out⟩
        · have sgs := sign_0 HS.out k m HM.out hks hKa hVa
          have sgt := sign_0 HT.out k m HM.out hkt hKb hVb
          have HOK2 := Lib.hid (step_ok (P := fun j => a.K j = true → b.K j = true → a.V j = b.V j) HM.out HOK.out (fun _ => fun _ => hVa.trans hVb.symm))
          have HSM := Lib.hid (mixT_same a b k m HM.out (J.out.2 hKa (fun _ => hVa.trans hVb.symm)))
          clear hKb hVb hKa hVa
          go_wp2
          go_quiet (fail)
          go_wp2
          go_roundg (128 - (k + 1))
          case measure => omega
          case rel => exact ⟨k + 1, by omega, rfl, by go_num, HOK2.out, bel_drewN _ BW, RW.congr HSM.out⟩
        · have sgs := sign_0 HS.out k m HM.out hks hKa hVa
          have sgt := sign_1 HT.out k m HM.out hkt hKb hVb
          have e := HX.out
          rw [agr_fails hm1 hKa hKb (fun h => by rw [hVa, hVb] at h; cases h)] at e
          subst e
          have er := HN.out rfl
          subst er
          clear HR HN hKb hVb hKa hVa
          go_wp2
          go_quiet (fail)
          go_wp2
          go_ret2
          exact ⟨rfl, bel_drewN _ BW⟩
        · have sgs := sign_1 HS.out k m HM.out hks hKa hVa
          have sgt := sign_x HT.out k m HM.out hkt hKb
          have HOK2 := Lib.hid (step_ok (P := fun j => a.K j = true → b.K j = true → a.V j = b.V j) HM.out HOK.out (fun _ => fun h => by rw [hKb] at h; cases h))
          have HSM := Lib.hid (mixT_same a b k m HM.out (J.out.2 hKa (fun h => by rw [hKb] at h; cases h)))
          clear hKb hVb hKa hVa
          go_wp2
          go_quiet (fail)
          go_wp2
          go_roundg (128 - (k + 1))
          case measure => omega
          case rel => exact ⟨k + 1, by omega, rfl, by go_num, HOK2.out, bel_drewN _ BW, RW.congr HSM.out⟩
        · have sgs := sign_1 HS.out k m HM.out hks hKa hVa
          have sgt := sign_x HT.out k m HM.out hkt hKb
          have HOK2 := Lib.hid (step_ok (P := fun j => a.K j = true → b.K j = true → a.V j = b.V j) HM.out HOK.out (fun _ => fun h => by rw [hKb] at h; cases h))
          have HSM := Lib.hid (mixT_same a b k m HM.out (J.out.2 hKa (fun h => by rw [hKb] at h; cases h)))
          clear hKb hVb hKa hVa
          go_wp2
          go_quiet (fail)
          go_wp2
          go_roundg (128 - (k + 1))
          case measure => omega
          case rel => exact ⟨k + 1, by omega, rfl, by go_num, HOK2.out, bel_drewN _ BW, RW.congr HSM.out⟩
        · have sgs := sign_1 HS.out k m HM.out hks hKa hVa
          have sgt := sign_0 HT.out k m HM.out hkt hKb hVb
          have e := HX.out
          rw [agr_fails hm1 hKa hKb (fun h => by rw [hVa, hVb] at h; cases h)] at e
          subst e
          have er := HN.out rfl
          subst er
          clear HR HN hKb hVb hKa hVa
          go_wp2
          go_quiet (fail)
          go_wp2
          go_ret2
          exact ⟨rfl, bel_drewN _ BW⟩
        · have sgs := sign_1 HS.out k m HM.out hks hKa hVa
          have sgt := sign_1 HT.out k m HM.out hkt hKb hVb
          have HOK2 := Lib.hid (step_ok (P := fun j => a.K j = true → b.K j = true → a.V j = b.V j) HM.out HOK.out (fun _ => fun _ => hVa.trans hVb.symm))
          have HSM := Lib.hid (mixT_same a b k m HM.out (J.out.2 hKa (fun _ => hVa.trans hVb.symm)))
          clear hKb hVb hKa hVa
          go_wp2
          go_quiet (fail)
          go_wp2
          go_roundg (128 - (k + 1))
          case measure => omega
          case rel => exact ⟨k + 1, by omega, rfl, by go_num, HOK2.out, bel_drewN _ BW, RW.congr HSM.out⟩
    · obtain rfl : k = 128 := by omega
      have e := HX.out
      rw [(Cb.agr_iff a b).2 (fun j hj => HOK.out j hj (by omega))] at e
      subst e
      have er := HR.out rfl
      have hcv := fromBytes wr (a.join b) w.heap.size s.size cap (by omega) (RW.congr (fun i hi => (mixT_all a b i hi).symm))
      rw [← er] at hcv
      clear er HR HN
      go_wp2
      go_ret2
      exact ⟨rfl, BW⟩
end Go.Proofs

namespace Go.Proofs.Hd
open Go.RowKit Go.Lib
/-- v is a slice of items that reads as the list: numbers, and the texts of cubes. -/
def It (w : World) (v : Value) (l : List (Int × Cb)) : Prop := ∃ A cap, v = .slice A l.length cap ∧ l.length ≤ cap ∧ cap ≤ maxLen ∧ (l = [] ∨ ∃ b o, A = some ⟨b, o, none⟩ ∧ b < w.heap.size ∧ ∀ (i : Nat) (x : Int) (c : Cb), l[i]? = some (x, c) → w.cell? ⟨b, o + i * 2, none⟩ = some (.int .i64 x) ∧ w.cell? ⟨b, o + i * 2 + 1, none⟩ = some (.string (txt c)))
theorem It.on {w w' : World} {v : Value} {l : List (Int × Cb)} (h : It w v l) (hb : Below w.heap.size w w') : It w' v l := by
  obtain ⟨A, c, e, h1, h2, h3⟩ := h
  refine ⟨A, c, e, h1, h2, h3.imp id ?_⟩
  rintro ⟨b, o, e, hlt, h⟩
  exact ⟨b, o, e, Nat.lt_of_lt_of_le hlt hb.size, fun i x c hi => ⟨on_some hb (h i x c hi).1, on_some hb (h i x c hi).2⟩⟩
theorem nm_cells {w : World} {g n c : Nat} {F : List Int} (h : Nm w (.slice (some ⟨g, 0, none⟩) n c) F) : n = F.length ∧ n ≤ c ∧ c ≤ maxLen ∧ ∀ (k : Nat) (x : Int), F[k]? = some x → w.cell? ⟨g, k, none⟩ = some (.int .i64 x) := by
  obtain ⟨A, c', e, h1, h2, h3⟩ := h
  injection e with e1 e2 e3
  subst e1 e3
  refine ⟨e2, by omega, h2, fun k x hk => ?_⟩
  rcases h3 with rfl | ⟨b, o, e, _, hc⟩
  · simp at hk
  · injection e with e
    injection e with e4 e5
    subst e4 e5
    have := hc k x hk
    rwa [Nat.zero_add] at this
theorem nm_rest {w : World} {g n c a c' : Nat} {F : List Int} (h : Nm w (.slice (some ⟨g, 0, none⟩) n c) F) : Src w 1 (.slice (some ⟨g, a, none⟩) (F.length - a) c') (F.drop a).length (iv (F.drop a)) := by
  refine ⟨by simp [iv], ?_, .inr ⟨_, _, by rw [List.length_drop], fun j u hj => ?_⟩⟩
  · intro u hu
    simp only [iv, List.mem_map] at hu
    obtain ⟨x, _, rfl⟩ := hu
    rfl
  · simp only [iv, List.getElem?_map, Option.map_eq_some_iff] at hj
    obtain ⟨x, hx, rfl⟩ := hj
    rw [List.getElem?_drop] at hx
    rw [add_plainN]
    exact (nm_cells h).2.2.2 _ x hx
theorem own_sm {w : World} {base : Nat} {t : TypeId} {size n : Nat} {v : Value} {xs : List Value} (h : w.ownsRow base t size v n xs) (h0 : 0 < n) : ∃ g c, v = .slice (some ⟨g, 0, none⟩) n c := by
  rcases h.2 with ⟨rfl, rfl⟩ | ⟨g, cap, cur, rfl, _⟩
  · omega
  · exact ⟨g, cap, rfl⟩
end Go.Proofs.Hd
namespace Go.Proofs
open Go.RowKit Go.Proofs.Hd Go.Lib Go.Sort
attribute [local go_sem] uv_nonneg
set_option maxHeartbeats 8000000 in
set_option maxRecDepth 100000 in
/-- The law's meets: the numbers of the items that have something in common with a cube, rising. -/
theorem meets_l (v : Value) (s : ByteArray) (l : List (Int × Cb)) (c : Cb) (w : World) (hl : l.length ≤ 1000) (ht : Tok l) (hc : c.snd = true) (hs : txt c = s) (hv : It w v l) : Calls Try.prog 12 #[v, .string s] w (GotN w (ovT l c)) := by
  obtain ⟨ic, hic, hcz0, hcz1, hcz2⟩ := info_parts info_intT
  obtain ⟨A, c0, rfl, _, _, h3⟩ := hv
  have hlz : (l.length : Int) ≤ 1000 := by omega
  have B0 := below1 w (.cells #[] 3)
  rcases h3 with rfl | ⟨b, o, rfl, hb, hcc⟩
  · go_enter Try.func12, Try.ntmps12
    go_wp2
    refine wp_loop_rounds 1 ?_
    rw [rounds_succ]
    go_wp2
    go_ret
    exact ⟨_, rfl, ⟨_, _, rfl, Nat.le_refl _, Nat.zero_le _, .inl rfl⟩, B0⟩
  · have HC := Lib.hid hcc
    have HB0 := Lib.hid B0
    have HL := Lib.hid hl
    have HTK := Lib.hid ht
    have HSC := Lib.hid (And.intro hc hs)
    clear hcc B0 ht hc hs
    go_enter Try.func12, Try.ntmps12
    go_wp2
    go_loopg [5, 6, 7, 8, 9, 10] l.length (fun gk s5 s6 s7 s8 s9 s10 wr => ∃ i g n cp : Nat, i ≤ l.length ∧ gk = l.length - i ∧ s5 = .slice (some ⟨g, 0, none⟩) n cp ∧ s6 = .int .i64 i ∧ (∃ x, s7 = x) ∧ (∃ x, s8 = x) ∧ (∃ x, s9 = x) ∧ (∃ x, s10 = x) ∧ Hid (Below w.heap.size w wr) ∧ Hid (Nm wr (.slice (some ⟨g, 0, none⟩) n cp) (ovT (l.take i) c)))
    case atStart => exact ⟨0, w.heap.size, 0, 0, Nat.zero_le _, rfl, rfl, rfl, ⟨_, rfl⟩, ⟨_, rfl⟩, ⟨_, rfl⟩, ⟨_, rfl⟩, HB0.out, ⟨some ⟨w.heap.size, 0, none⟩, 0, by simp [ovT_nil], by simp [ovT_nil], Nat.zero_le _, .inl (by simp [ovT_nil])⟩⟩
    case round =>
      obtain ⟨i, g, n, cp, hi, rfl, rfl, rfl, ⟨y7, rfl⟩, ⟨y8, rfl⟩, ⟨y9, rfl⟩, ⟨y10, rfl⟩, HB, HN⟩ := hrel
      by_cases hlt : i < l.length
      · have hltz : (i : Int) < (l.length : Int) := by omega
        obtain ⟨⟨x, d⟩, hx⟩ : ∃ p, l[i]? = some p := ⟨_, List.getElem?_eq_getElem hlt⟩
        have hds := HTK.out.snd _ (List.mem_of_getElem? hx)
        have hbf := Lib.hid (HTK.out.before hx)
        have htk : l.take (i + 1) = l.take i ++ [(x, d)] := by rw [List.take_add_one, hx]; rfl
        have d1 := on_some HB.out (HC.out i x d hx).1
        have d2 := on_some HB.out (HC.out i x d hx).2
        have hsl := ovT_len (l.take i) c
        have htl : (l.take i).length ≤ l.length := by rw [List.length_take]; omega
        obtain ⟨t, htt⟩ : ∃ t, txt d = t := ⟨_, rfl⟩
        rw [htt] at d2
        have HTT := Lib.hid htt
        clear hx htt
        cases hag : d.agr c with
        | false =>
          have hst : Hid (ovT (l.take (i + 1)) c = ovT (l.take i) c) := by show _ = _; rw [htk]; exact ovT_no hag
          have hcon := rmeet_s t s d c wr hds HSC.out.1 HTT.out HSC.out.2 false ⟨#[]⟩ hag (show Hid _ from fun h => by cases h) (show Hid _ from fun _ => rfl)
          clear hag htk hsl htl
          go_wp2_with fail
          (with_reducible refine hcon.mono ?_)
          rintro e w2 ⟨rfl, hb2⟩
          have HB2 := Lib.hid (HB.out.trans (hb2.mono HB.out.size))
          have HN2 : Hid (Nm w2 (.slice (some ⟨g, 0, none⟩) n cp) (ovT (l.take (i + 1)) c)) := by
            show Nm _ _ _
            rw [hst.out]
            exact HN.out.on hb2
          clear hcon hb2 HB HN d1 d2 hst
          go_wp2
          go_roundg (l.length - (i + 1))
          case measure => omega
          case rel => exact ⟨i + 1, g, n, cp, by omega, rfl, rfl, by go_num, ⟨_, rfl⟩, ⟨_, rfl⟩, ⟨_, rfl⟩, ⟨_, rfl⟩, HB2, HN2⟩
        | true =>
          have hst : Hid (ovT (l.take (i + 1)) c = insI x (ovT (l.take i) c)) := by show _ = _; rw [htk]; exact ovT_yes hag
          have hin : Hid (Inc (ovT (l.take i) c)) := inc_ovT _ _
          have hmem : Hid (x ∉ ovT (l.take i) c) := ovT_out hbf.out
          have hcon := rmeet_s t s d c wr hds HSC.out.1 HTT.out HSC.out.2 true (txt (d.join c)) hag (show Hid _ from fun _ => rfl) (show Hid _ from fun h => by cases h)
          clear hag htk
          generalize hFF : ovT (l.take i) c = F at HN hsl hst hin hmem
          clear hFF
          obtain ⟨rfl, hnc, hcm, hcells⟩ := nm_cells HN.out
          clear hcells
          have hF : F.length ≤ 1000 := by omega
          have hFz : (F.length : Int) ≤ 1000 := by omega
          have hncz : (F.length : Int) ≤ (cp : Int) := by omega
          have hcz : (cp : Int) ≤ 9223372036854775807 := by unfold maxLen at hcm; omega
          clear hsl htl
          go_wp2_with fail
          (with_reducible refine hcon.mono ?_)
          rintro e w2 ⟨rfl, hb2⟩
          have HB2 := Lib.hid (HB.out.trans (hb2.mono HB.out.size))
          have HN2 := Lib.hid (HN.out.on hb2)
          have HD2 := Lib.hid (on_some hb2 d1)
          clear hcon hb2 HB HN d1 d2
          go_wp2
          go_loopg [9, 10] F.length (fun gk s9 s10 wr => ∃ k a : Nat, k ≤ F.length ∧ gk = F.length - k ∧ s9 = .int .i64 a ∧ s10 = .int .i64 k ∧ Hid (Below w2.heap.size w2 wr) ∧ Hid (AtIs F x k a))
          case atStart => exact ⟨0, 0, Nat.zero_le _, rfl, rfl, rfl, Below.refl _ _, AtIs.zero F x⟩
          case round =>
            obtain ⟨k, a, hk, rfl, rfl, rfl, HBi, HA⟩ := hrel
            by_cases hkl : k < F.length
            · have hklz : (k : Int) < (F.length : Int) := by omega
              obtain ⟨y, hy⟩ : ∃ y, F[k]? = some y := ⟨_, List.getElem?_eq_getElem hkl⟩
              have HY := Lib.hid hy
              have d1 := on_some HBi.out HD2.out
              have d2 := on_some HBi.out ((nm_cells HN2.out).2.2.2 k y hy)
              clear hy
              by_cases hyx : y < x
              · have HA2 := Lib.hid (AtIs.yes hin.out HY.out hyx)
                have HYX := Lib.hid hyx
                have hd : decide (y < x) = true := decide_eq_true hyx
                clear hyx
                go_wp2_with fail
                go_quiet (fail)
                have HB3 := Lib.hid (bdn HBi.out nq)
                clear d1 d2 HBi HA
                generalize wr.drewN nq = w3 at HB3 ⊢
                go_wp2
                go_roundg (F.length - (k + 1))
                case measure => omega
                case rel => exact ⟨k + 1, k + 1, by omega, rfl, by go_num, by go_num, HB3, HA2⟩
              · have HA2 := Lib.hid (HA.out.no HY.out hyx)
                have HYX := Lib.hid hyx
                have hd : decide (y < x) = false := decide_eq_false hyx
                clear hyx
                go_wp2_with fail
                go_quiet (fail)
                have HB3 := Lib.hid (bdn HBi.out nq)
                clear d1 d2 HBi HA
                generalize wr.drewN nq = w3 at HB3 ⊢
                go_wp2
                go_roundg (F.length - (k + 1))
                case measure => omega
                case rel => exact ⟨k + 1, a, by omega, rfl, rfl, by go_num, HB3, HA2⟩
            · have hklz : ¬ (k : Int) < (F.length : Int) := by omega
              obtain rfl : k = F.length := by omega
              have hal : a ≤ F.length := HA.out.1
              have haz : (a : Int) ≤ (F.length : Int) := by omega
              have hacz : (a : Int) ≤ (cp : Int) := by omega
              have hins : Hid (ovT (l.take (i + 1)) c = F.take a ++ x :: F.drop a) := by
                show _ = _
                rw [hst.out]
                exact HA.out.done hin.out hmem.out
              have HNb := Lib.hid (HN2.out.on HBi.out)
              have HDb := Lib.hid (on_some HBi.out HD2.out)
              have HBb := Lib.hid (HB2.out.trans (HBi.out.mono HB2.out.size))
              clear HN2 HD2 HB2 HBi HA
              generalize wr = wb at HNb HDb HBb ⊢
              have hlen3 : ((F.take a ++ x :: F.drop a)).length = a + 1 + (F.drop a).length := by
                rw [List.length_append, List.length_take, List.length_cons]; omega
              have hcel3 : iv (F.take a ++ x :: F.drop a) = iv (F.take a) ++ [.int .i64 x] ++ iv (F.drop a) := by simp [iv]
              have hdl : (F.drop a).length ≤ 1000 := by rw [List.length_drop]; omega
              have HKP : Hid (∀ W, Below wb.heap.size wb W → Below wb.heap.size wb W ∧ W.cell? ⟨b, o + i * 2, none⟩ = some (.int .i64 x)) := fun W h => ⟨h, on_some h HDb.out⟩
              have HS1 : Hid (∀ W, Below wb.heap.size wb W → Src W 1 (.slice (some ⟨g, 0, none⟩) a cp) a (iv (F.take a))) := fun W h => by
                have := ((HNb.out.on h).take hal).src
                rwa [show (F.take a).length = a by rw [List.length_take]; omega] at this
              go_upto_region 13 with (fail)
              by_cases hca : a = cp
              · have HS2 : Hid (∀ W, Below wb.heap.size wb W → Src W 1 (.slice (some ⟨g, 0, none⟩) 0 0) (F.drop a).length (iv (F.drop a))) := fun W _ => by
                  rw [show F.drop a = [] from List.drop_eq_nil_of_le (by omega)]
                  exact (show Nm W (.slice (some ⟨g, 0, none⟩) 0 0) [] from ⟨_, _, rfl, Nat.le_refl _, Nat.zero_le _, .inl rfl⟩).src
                have hfa : F.length = a := by omega
                have hfd : (F.length : Int) - (a : Int) = 0 := by omega
                subst hca
                refine wp_region_held_drew (S := fun w' => Below wb.heap.size wb w' ∧ w'.cell? ⟨b, o + i * 2, none⟩ = some (.int .i64 x)) (by kernel_rfl) (HKP.out _ (Below.refl _ wb).drew) (fun hHeld => ?_)
                have hB : Below wb.heap.size wb wb.drew := (Below.refl _ wb).drew
                generalize wb.drew = u0 at hHeld hB ⊢
                refine wpAnyH_take (i := 1) (oi := ⟨some 49, _, _, _, _, _⟩) (v := ?vra1_1) rfl (by kernel_rfl) (by kernel_rfl) (by kernel_rfl) (fun _ _ _ h => h) (Or.inl ⟨by rfl, ?yra1_1⟩) hHeld ?rra1_1
                case yra1_1 => (intro w' hSw; (try dsimp only at hSw); go_simp; try (with_reducible rfl))
                simp only [Act.put, List.setIfInBounds_toArray, List.set_cons_zero, List.set_cons_succ]
                refine wpAnyH_take (i := 2) (oi := ⟨some 50, _, _, _, _, _⟩) (v := ?vra2_2) rfl (by kernel_rfl) (by kernel_rfl) (by kernel_rfl) (fun _ _ _ h => h) (Or.inl ⟨by rfl, ?yra2_2⟩) hHeld ?rra2_2
                case yra2_2 => (intro w' hSw; (try dsimp only at hSw); go_simp; try (with_reducible rfl))
                simp only [Act.put, List.setIfInBounds_toArray, List.set_cons_zero, List.set_cons_succ]
                refine wpAnyH_take (i := 3) (oi := ⟨some 51, _, _, _, _, _⟩) (v := ?vra3_3) rfl (by kernel_rfl) (by kernel_rfl) (by kernel_rfl) (fun _ _ _ h => h) (Or.inl ⟨by rfl, ?yra3_3⟩) hHeld ?rra3_3
                case yra3_3 => (intro w' hSw; (try dsimp only at hSw); go_simp; try (with_reducible rfl))
                simp only [Act.put, List.setIfInBounds_toArray, List.set_cons_zero, List.set_cons_succ]
                refine wpAnyH_take (i := 5) (oi := ⟨some 53, _, _, _, _, _⟩) (v := ?vra5_4) rfl (by kernel_rfl) (by kernel_rfl) (by kernel_rfl) (fun _ _ _ h => h) (Or.inl ⟨by rfl, ?yra5_4⟩) hHeld ?rra5_4
                case yra5_4 => (intro w' hSw; (try dsimp only at hSw); go_simp; try (with_reducible rfl))
                simp only [Act.put, List.setIfInBounds_toArray, List.set_cons_zero, List.set_cons_succ]
                refine wpAnyH_take (i := 6) (oi := ⟨some 54, _, _, _, _, _⟩) (v := ?vra6_5) rfl (by kernel_rfl) (by kernel_rfl) (by kernel_rfl) (fun _ _ _ h => h) (Or.inl ⟨by rfl, ?yra6_5⟩) hHeld ?rra6_5
                case yra6_5 => (intro w' hSw; (try dsimp only at hSw); go_simp; try (with_reducible rfl))
                simp only [Act.put, List.setIfInBounds_toArray, List.set_cons_zero, List.set_cons_succ]
                refine wpAnyH_take (i := 7) (oi := ⟨some 55, _, _, _, _, _⟩) (v := ?vra7_6) rfl (by kernel_rfl) (by kernel_rfl) (by kernel_rfl) (fun _ _ _ h => h) (Or.inl ⟨by rfl, ?yra7_6⟩) hHeld ?rra7_6
                case yra7_6 => (intro w' hSw; (try dsimp only at hSw); go_simp; try (with_reducible rfl))
                simp only [Act.put, List.setIfInBounds_toArray, List.set_cons_zero, List.set_cons_succ]
                refine wpAnyH_take (i := 8) (oi := ⟨some 56, _, _, _, _, _⟩) (v := ?vra8_7) rfl (by kernel_rfl) (by kernel_rfl) (by kernel_rfl) (fun _ _ _ h => h) (Or.inl ⟨by rfl, ?yra8_7⟩) hHeld ?rra8_7
                case yra8_7 => (intro w' hSw; (try dsimp only at hSw); go_simp; try (with_reducible rfl))
                simp only [Act.put, List.setIfInBounds_toArray, List.set_cons_zero, List.set_cons_succ]
                refine wpAnyH_take (i := 9) (oi := ⟨some 57, _, _, _, _, _⟩) (v := ?vra9_8) rfl (by kernel_rfl) (by kernel_rfl) (by kernel_rfl) (fun _ _ _ h => h) (Or.inl ⟨by rfl, ?yra9_8⟩) hHeld ?rra9_8
                case yra9_8 => (intro w' hSw; (try dsimp only at hSw); go_simp; try (with_reducible rfl))
                simp only [Act.put, List.setIfInBounds_toArray, List.set_cons_zero, List.set_cons_succ]
                refine wpAnyH_take (i := 12) (oi := ⟨some 60, _, _, _, _, _⟩) (v := ?vra12_9) rfl (by kernel_rfl) (by kernel_rfl) (by kernel_rfl) (fun _ _ _ h => h) (Or.inl ⟨by rfl, ?yra12_9⟩) hHeld ?rra12_9
                case yra12_9 => (intro w' hSw; (try dsimp only at hSw); go_simp; try (with_reducible rfl))
                simp only [Act.put, List.setIfInBounds_toArray, List.set_cons_zero, List.set_cons_succ]
                refine wpAnyH_take (i := 13) (oi := ⟨some 61, _, _, _, _, _⟩) (v := ?vra13_10) rfl (by kernel_rfl) (by kernel_rfl) (by kernel_rfl) (fun _ _ _ h => h) (Or.inl ⟨by rfl, ?yra13_10⟩) hHeld ?rra13_10
                case yra13_10 => (intro w' hSw; (try dsimp only at hSw); go_simp; try (with_reducible rfl))
                simp only [Act.put, List.setIfInBounds_toArray, List.set_cons_zero, List.set_cons_succ]
                refine wpAnyH_take (i := 14) (oi := ⟨some 62, _, _, _, _, _⟩) (v := ?vra14_11) rfl (by kernel_rfl) (by kernel_rfl) (by kernel_rfl) (fun _ _ _ h => h) (Or.inl ⟨by rfl, ?yra14_11⟩) hHeld ?rra14_11
                case yra14_11 => (intro w' hSw; (try dsimp only at hSw); go_simp; try (with_reducible rfl))
                simp only [Act.put, List.setIfInBounds_toArray, List.set_cons_zero, List.set_cons_succ]
                refine wpAnyH_ready (rs := [0, 10]) (by kernel_rfl) (by simp) ?_
                refine AllReadyH.cons (o := ⟨some 48, _, _, _, _, _⟩) rfl (fun K hK => ?_) ?_
                · go_simp
                  have hb := below1 u0 (.cells #[] 3)
                  have hB2 := hB.trans (hb.mono hB.size)
                  refine hK.out _ _ (HKP.out _ hB2) (fun hNext => ?_)
                  have kO : (u0.alloc (.cells #[] 3)).ownsRow wb.heap.size 3 1 (.slice (some ⟨u0.heap.size, 0, none⟩) 0 0) 0 [] := World.ownsRow_made u0 #[] 0 hB.size (Nat.zero_le _) rfl
                  clear hK K hHeld
                  have hHeld := hNext
                  clear hNext
                  clear hB
                  have hB := hB2
                  clear hB2 hb
                  generalize hgen : (u0.alloc (.cells #[] 3)) = u1 at hHeld hB kO  ⊢
                  clear hgen
                  generalize hgen : u0.heap.size = bO at kO  ⊢
                  clear hgen
                  try simp only [Act.put, List.setIfInBounds_toArray, List.set_cons_zero, List.set_cons_succ]
                  refine wpAnyH_ready (rs := [4, 10]) (by kernel_rfl) (by simp) ?_
                  refine AllReadyH.cons (o := ⟨some 52, _, _, _, _, _⟩) rfl (fun K hK => ?_) ?_
                  · refine step_app _ rfl (.tmp 48) (.tmp 51) 41 rfl wb.heap.size 3 ic _ 1 8 Try.underlying41 hic hcz0 hcz1 hcz2 rfl (by decide) (.slice (some ⟨bO, 0, none⟩) 0 0) 0 [] rfl kO (.slice (some ⟨g, 0, none⟩) a a) a (iv (F.take a)) rfl (HS1.out _ hB) (by unfold maxLen; omega) (by omega) hB.size ?_
                    intro v2 u2 kO2 hgr
                    have hB2 := hB.grown hgr hB.size (fun j hj => (kO.lt j hj).1)
                    refine hK.out _ _ (HKP.out _ hB2) (fun hNext => ?_)
                    clear hK K hHeld
                    have hHeld := hNext
                    clear hNext
                    rw [Nat.zero_add, List.nil_append] at kO2
                    clear hB kO hgr
                    have hB := hB2
                    clear hB2
                    have kO := kO2
                    clear kO2
                    try simp only [Act.put, List.setIfInBounds_toArray, List.set_cons_zero, List.set_cons_succ]
                    refine wpAnyH_ready (rs := [10]) (by kernel_rfl) (by simp) ?_
                    refine AllReadyH.cons (o := ⟨some 58, _, _, _, _, _⟩) rfl (fun K hK => ?_) AllReadyH.nil
                    go_simp
                    have hb := below1 u2 (.cells #[.int .i64 x] 3)
                    have hB2 := hB.trans (hb.mono hB.size)
                    refine hK.out _ _ (HKP.out _ hB2) (fun hNext => ?_)
                    have kN : Blk (u2.alloc (.cells #[.int .i64 x] 3)) u2.heap.size 3 #[.int .i64 x] := Blk.new u2 _ _
                    replace kO := own_on kO hb
                    clear hK K hHeld
                    have hHeld := hNext
                    clear hNext
                    clear hB
                    have hB := hB2
                    clear hB2 hb
                    generalize hgen : (u2.alloc (.cells #[.int .i64 x] 3)) = u3 at hHeld hB kN kO ⊢
                    clear hgen
                    generalize hgen : u2.heap.size = bN at kN  ⊢
                    clear hgen
                    try simp only [Act.put, List.setIfInBounds_toArray, List.set_cons_zero, List.set_cons_succ]
                    refine wpAnyH_ready (rs := [11]) (by kernel_rfl) (by simp) ?_
                    refine AllReadyH.cons (o := ⟨some 59, _, _, _, _, _⟩) rfl (fun K hK => ?_) AllReadyH.nil
                    have SR : Src u3 1 (.slice (some ⟨bN, 0, none⟩) 1 1) 1 [.int .i64 x] := src_oneT kN rfl
                    refine step_app _ rfl (.tmp 52) (.tmp 58) 41 rfl wb.heap.size 3 ic _ 1 8 Try.underlying41 hic hcz0 hcz1 hcz2 rfl (by decide) (v2) a (iv (F.take a)) rfl kO (.slice (some ⟨bN, 0, none⟩) 1 1) 1 [.int .i64 x] rfl (SR) (by unfold maxLen; omega) (by omega) hB.size ?_
                    intro v3 u4 kO2 hgr
                    have hB2 := hB.grown hgr hB.size (fun j hj => (kO.lt j hj).1)
                    refine hK.out _ _ (HKP.out _ hB2) (fun hNext => ?_)
                    clear hK K hHeld
                    have hHeld := hNext
                    clear hNext
                    clear hB kO hgr SR kN
                    have hB := hB2
                    clear hB2
                    have kO := kO2
                    clear kO2
                    try simp only [Act.put, List.setIfInBounds_toArray, List.set_cons_zero, List.set_cons_succ]
                    refine wpAnyH_ready (rs := [15]) (by kernel_rfl) (by simp) ?_
                    refine AllReadyH.cons (o := ⟨some 63, _, _, _, _, _⟩) rfl (fun K hK => ?_) AllReadyH.nil
                    refine step_app _ rfl (.tmp 59) (.tmp 62) 41 rfl wb.heap.size 3 ic _ 1 8 Try.underlying41 hic hcz0 hcz1 hcz2 rfl (by decide) (v3) (a + 1) (iv (F.take a) ++ [.int .i64 x]) rfl kO (.slice (some ⟨g, 0, none⟩) 0 0) (F.drop a).length (iv (F.drop a)) rfl (HS2.out _ hB) (by unfold maxLen; omega) (by omega) hB.size ?_
                    intro v4 u5 kO2 hgr
                    have hB2 := hB.grown hgr hB.size (fun j hj => (kO.lt j hj).1)
                    refine hK.out _ _ (HKP.out _ hB2) (fun hNext => ?_)
                    clear hK K hHeld
                    have hHeld := hNext
                    clear hNext
                    clear hB kO hgr
                    have hB := hB2
                    clear hB2
                    have kO := kO2
                    clear kO2
                    try simp only [Act.put, List.setIfInBounds_toArray, List.set_cons_zero, List.set_cons_succ]
                    refine wpAnyH_take (i := 16) (oi := ⟨some 5, _, _, _, _, _⟩) (v := ?vra16_12) rfl (by kernel_rfl) (by kernel_rfl) (by kernel_rfl) (fun _ _ _ h => h) (Or.inl ⟨by rfl, ?yra16_12⟩) hHeld ?rra16_12
                    case yra16_12 => (intro w' hSw; (try dsimp only at hSw); go_simp; try (with_reducible rfl))
                    simp only [Act.put, List.setIfInBounds_toArray, List.set_cons_zero, List.set_cons_succ]
                    refine wpAnyH_done (by kernel_rfl) ?_ _
                    rw [← hlen3, ← hcel3] at kO
                    obtain ⟨g2, c2, rfl⟩ := own_sm kO (by rw [hlen3]; omega)
                    have HB4 := Lib.hid (HBb.out.trans (hB.mono HBb.out.size))
                    have HN4 : Hid (Nm u5 (.slice (some ⟨g2, 0, none⟩) (F.take a ++ x :: F.drop a).length c2) (ovT (l.take (i + 1)) c)) := by
                      show Nm _ _ _
                      rw [hins.out]
                      exact own_Nm kO
                    clear hB kO hHeld HBb HNb HDb HKP HS1 HS2 hlen3 hcel3
                    generalize (F.take a ++ x :: F.drop a).length = n4 at HN4 ⊢
                    go_wp2
                    go_roundg (l.length - (i + 1))
                    case measure => omega
                    case rel => exact ⟨i + 1, g2, n4, c2, by omega, rfl, rfl, by go_num, ⟨_, rfl⟩, ⟨_, rfl⟩, ⟨_, rfl⟩, ⟨_, rfl⟩, HB4, HN4⟩
                  refine AllReadyH.cons (o := ⟨some 58, _, _, _, _, _⟩) rfl (fun K hK => ?_) AllReadyH.nil
                  go_simp
                  have hb := below1 u1 (.cells #[.int .i64 x] 3)
                  have hB2 := hB.trans (hb.mono hB.size)
                  refine hK.out _ _ (HKP.out _ hB2) (fun hNext => ?_)
                  have kN : Blk (u1.alloc (.cells #[.int .i64 x] 3)) u1.heap.size 3 #[.int .i64 x] := Blk.new u1 _ _
                  have hne : u1.heap.size ≠ bO := (Nat.ne_of_lt (kO.lt bO rfl).2).symm
                  replace kO := own_on kO hb
                  clear hK K hHeld
                  have hHeld := hNext
                  clear hNext
                  clear hB
                  have hB := hB2
                  clear hB2 hb
                  generalize hgen : (u1.alloc (.cells #[.int .i64 x] 3)) = u6 at hHeld hB kN kO ⊢
                  clear hgen
                  generalize hgen : u1.heap.size = bN at kN hne ⊢
                  clear hgen
                  try simp only [Act.put, List.setIfInBounds_toArray, List.set_cons_zero, List.set_cons_succ]
                  refine wpAnyH_ready (rs := [4]) (by kernel_rfl) (by simp) ?_
                  refine AllReadyH.cons (o := ⟨some 52, _, _, _, _, _⟩) rfl (fun K hK => ?_) AllReadyH.nil
                  refine step_app _ rfl (.tmp 48) (.tmp 51) 41 rfl wb.heap.size 3 ic _ 1 8 Try.underlying41 hic hcz0 hcz1 hcz2 rfl (by decide) (.slice (some ⟨bO, 0, none⟩) 0 0) 0 [] rfl kO (.slice (some ⟨g, 0, none⟩) a a) a (iv (F.take a)) rfl (HS1.out _ hB) (by unfold maxLen; omega) (by omega) hB.size ?_
                  intro v2 u7 kO2 hgr
                  have hB2 := hB.grown hgr hB.size (fun j hj => (kO.lt j hj).1)
                  refine hK.out _ _ (HKP.out _ hB2) (fun hNext => ?_)
                  clear hK K hHeld
                  have hHeld := hNext
                  clear hNext
                  replace kN := kN.grown hgr (by intro e; injection e with e; exact hne e)
                  rw [Nat.zero_add, List.nil_append] at kO2
                  clear hB kO hgr
                  have hB := hB2
                  clear hB2
                  have kO := kO2
                  clear kO2
                  try simp only [Act.put, List.setIfInBounds_toArray, List.set_cons_zero, List.set_cons_succ]
                  refine wpAnyH_ready (rs := [11]) (by kernel_rfl) (by simp) ?_
                  refine AllReadyH.cons (o := ⟨some 59, _, _, _, _, _⟩) rfl (fun K hK => ?_) AllReadyH.nil
                  have SR : Src u7 1 (.slice (some ⟨bN, 0, none⟩) 1 1) 1 [.int .i64 x] := src_oneT kN rfl
                  refine step_app _ rfl (.tmp 52) (.tmp 58) 41 rfl wb.heap.size 3 ic _ 1 8 Try.underlying41 hic hcz0 hcz1 hcz2 rfl (by decide) (v2) a (iv (F.take a)) rfl kO (.slice (some ⟨bN, 0, none⟩) 1 1) 1 [.int .i64 x] rfl (SR) (by unfold maxLen; omega) (by omega) hB.size ?_
                  intro v3 u8 kO2 hgr
                  have hB2 := hB.grown hgr hB.size (fun j hj => (kO.lt j hj).1)
                  refine hK.out _ _ (HKP.out _ hB2) (fun hNext => ?_)
                  clear hK K hHeld
                  have hHeld := hNext
                  clear hNext
                  clear hB kO hgr SR kN
                  have hB := hB2
                  clear hB2
                  have kO := kO2
                  clear kO2
                  try simp only [Act.put, List.setIfInBounds_toArray, List.set_cons_zero, List.set_cons_succ]
                  refine wpAnyH_ready (rs := [15]) (by kernel_rfl) (by simp) ?_
                  refine AllReadyH.cons (o := ⟨some 63, _, _, _, _, _⟩) rfl (fun K hK => ?_) AllReadyH.nil
                  refine step_app _ rfl (.tmp 59) (.tmp 62) 41 rfl wb.heap.size 3 ic _ 1 8 Try.underlying41 hic hcz0 hcz1 hcz2 rfl (by decide) (v3) (a + 1) (iv (F.take a) ++ [.int .i64 x]) rfl kO (.slice (some ⟨g, 0, none⟩) 0 0) (F.drop a).length (iv (F.drop a)) rfl (HS2.out _ hB) (by unfold maxLen; omega) (by omega) hB.size ?_
                  intro v4 u9 kO2 hgr
                  have hB2 := hB.grown hgr hB.size (fun j hj => (kO.lt j hj).1)
                  refine hK.out _ _ (HKP.out _ hB2) (fun hNext => ?_)
                  clear hK K hHeld
                  have hHeld := hNext
                  clear hNext
                  clear hB kO hgr
                  have hB := hB2
                  clear hB2
                  have kO := kO2
                  clear kO2
                  try simp only [Act.put, List.setIfInBounds_toArray, List.set_cons_zero, List.set_cons_succ]
                  refine wpAnyH_take (i := 16) (oi := ⟨some 5, _, _, _, _, _⟩) (v := ?vra16_13) rfl (by kernel_rfl) (by kernel_rfl) (by kernel_rfl) (fun _ _ _ h => h) (Or.inl ⟨by rfl, ?yra16_13⟩) hHeld ?rra16_13
                  case yra16_13 => (intro w' hSw; (try dsimp only at hSw); go_simp; try (with_reducible rfl))
                  simp only [Act.put, List.setIfInBounds_toArray, List.set_cons_zero, List.set_cons_succ]
                  refine wpAnyH_done (by kernel_rfl) ?_ _
                  rw [← hlen3, ← hcel3] at kO
                  obtain ⟨g2, c2, rfl⟩ := own_sm kO (by rw [hlen3]; omega)
                  have HB4 := Lib.hid (HBb.out.trans (hB.mono HBb.out.size))
                  have HN4 : Hid (Nm u9 (.slice (some ⟨g2, 0, none⟩) (F.take a ++ x :: F.drop a).length c2) (ovT (l.take (i + 1)) c)) := by
                    show Nm _ _ _
                    rw [hins.out]
                    exact own_Nm kO
                  clear hB kO hHeld HBb HNb HDb HKP HS1 HS2 hlen3 hcel3
                  generalize (F.take a ++ x :: F.drop a).length = n4 at HN4 ⊢
                  go_wp2
                  go_roundg (l.length - (i + 1))
                  case measure => omega
                  case rel => exact ⟨i + 1, g2, n4, c2, by omega, rfl, rfl, by go_num, ⟨_, rfl⟩, ⟨_, rfl⟩, ⟨_, rfl⟩, ⟨_, rfl⟩, HB4, HN4⟩
                refine AllReadyH.cons (o := ⟨some 58, _, _, _, _, _⟩) rfl (fun K hK => ?_) AllReadyH.nil
                go_simp
                have hb := below1 u0 (.cells #[.int .i64 x] 3)
                have hB2 := hB.trans (hb.mono hB.size)
                refine hK.out _ _ (HKP.out _ hB2) (fun hNext => ?_)
                have kN : Blk (u0.alloc (.cells #[.int .i64 x] 3)) u0.heap.size 3 #[.int .i64 x] := Blk.new u0 _ _
                clear hK K hHeld
                have hHeld := hNext
                clear hNext
                clear hB
                have hB := hB2
                clear hB2 hb
                generalize hgen : (u0.alloc (.cells #[.int .i64 x] 3)) = u10 at hHeld hB kN  ⊢
                clear hgen
                generalize hgen : u0.heap.size = bN at kN  ⊢
                clear hgen
                try simp only [Act.put, List.setIfInBounds_toArray, List.set_cons_zero, List.set_cons_succ]
                refine wpAnyH_ready (rs := [0]) (by kernel_rfl) (by simp) ?_
                refine AllReadyH.cons (o := ⟨some 48, _, _, _, _, _⟩) rfl (fun K hK => ?_) AllReadyH.nil
                go_simp
                have hb := below1 u10 (.cells #[] 3)
                have hB2 := hB.trans (hb.mono hB.size)
                refine hK.out _ _ (HKP.out _ hB2) (fun hNext => ?_)
                have kO : (u10.alloc (.cells #[] 3)).ownsRow wb.heap.size 3 1 (.slice (some ⟨u10.heap.size, 0, none⟩) 0 0) 0 [] := World.ownsRow_made u10 #[] 0 hB.size (Nat.zero_le _) rfl
                have hne : bN ≠ u10.heap.size := Nat.ne_of_lt kN.lt
                replace kN := kN.on hb
                clear hK K hHeld
                have hHeld := hNext
                clear hNext
                clear hB
                have hB := hB2
                clear hB2 hb
                generalize hgen : (u10.alloc (.cells #[] 3)) = u11 at hHeld hB kO kN ⊢
                clear hgen
                generalize hgen : u10.heap.size = bO at kO hne ⊢
                clear hgen
                try simp only [Act.put, List.setIfInBounds_toArray, List.set_cons_zero, List.set_cons_succ]
                refine wpAnyH_ready (rs := [4]) (by kernel_rfl) (by simp) ?_
                refine AllReadyH.cons (o := ⟨some 52, _, _, _, _, _⟩) rfl (fun K hK => ?_) AllReadyH.nil
                refine step_app _ rfl (.tmp 48) (.tmp 51) 41 rfl wb.heap.size 3 ic _ 1 8 Try.underlying41 hic hcz0 hcz1 hcz2 rfl (by decide) (.slice (some ⟨bO, 0, none⟩) 0 0) 0 [] rfl kO (.slice (some ⟨g, 0, none⟩) a a) a (iv (F.take a)) rfl (HS1.out _ hB) (by unfold maxLen; omega) (by omega) hB.size ?_
                intro v2 u12 kO2 hgr
                have hB2 := hB.grown hgr hB.size (fun j hj => (kO.lt j hj).1)
                refine hK.out _ _ (HKP.out _ hB2) (fun hNext => ?_)
                clear hK K hHeld
                have hHeld := hNext
                clear hNext
                replace kN := kN.grown hgr (by intro e; injection e with e; exact hne e)
                rw [Nat.zero_add, List.nil_append] at kO2
                clear hB kO hgr
                have hB := hB2
                clear hB2
                have kO := kO2
                clear kO2
                try simp only [Act.put, List.setIfInBounds_toArray, List.set_cons_zero, List.set_cons_succ]
                refine wpAnyH_ready (rs := [11]) (by kernel_rfl) (by simp) ?_
                refine AllReadyH.cons (o := ⟨some 59, _, _, _, _, _⟩) rfl (fun K hK => ?_) AllReadyH.nil
                have SR : Src u12 1 (.slice (some ⟨bN, 0, none⟩) 1 1) 1 [.int .i64 x] := src_oneT kN rfl
                refine step_app _ rfl (.tmp 52) (.tmp 58) 41 rfl wb.heap.size 3 ic _ 1 8 Try.underlying41 hic hcz0 hcz1 hcz2 rfl (by decide) (v2) a (iv (F.take a)) rfl kO (.slice (some ⟨bN, 0, none⟩) 1 1) 1 [.int .i64 x] rfl (SR) (by unfold maxLen; omega) (by omega) hB.size ?_
                intro v3 u13 kO2 hgr
                have hB2 := hB.grown hgr hB.size (fun j hj => (kO.lt j hj).1)
                refine hK.out _ _ (HKP.out _ hB2) (fun hNext => ?_)
                clear hK K hHeld
                have hHeld := hNext
                clear hNext
                clear hB kO hgr SR kN
                have hB := hB2
                clear hB2
                have kO := kO2
                clear kO2
                try simp only [Act.put, List.setIfInBounds_toArray, List.set_cons_zero, List.set_cons_succ]
                refine wpAnyH_ready (rs := [15]) (by kernel_rfl) (by simp) ?_
                refine AllReadyH.cons (o := ⟨some 63, _, _, _, _, _⟩) rfl (fun K hK => ?_) AllReadyH.nil
                refine step_app _ rfl (.tmp 59) (.tmp 62) 41 rfl wb.heap.size 3 ic _ 1 8 Try.underlying41 hic hcz0 hcz1 hcz2 rfl (by decide) (v3) (a + 1) (iv (F.take a) ++ [.int .i64 x]) rfl kO (.slice (some ⟨g, 0, none⟩) 0 0) (F.drop a).length (iv (F.drop a)) rfl (HS2.out _ hB) (by unfold maxLen; omega) (by omega) hB.size ?_
                intro v4 u14 kO2 hgr
                have hB2 := hB.grown hgr hB.size (fun j hj => (kO.lt j hj).1)
                refine hK.out _ _ (HKP.out _ hB2) (fun hNext => ?_)
                clear hK K hHeld
                have hHeld := hNext
                clear hNext
                clear hB kO hgr
                have hB := hB2
                clear hB2
                have kO := kO2
                clear kO2
                try simp only [Act.put, List.setIfInBounds_toArray, List.set_cons_zero, List.set_cons_succ]
                refine wpAnyH_take (i := 16) (oi := ⟨some 5, _, _, _, _, _⟩) (v := ?vra16_14) rfl (by kernel_rfl) (by kernel_rfl) (by kernel_rfl) (fun _ _ _ h => h) (Or.inl ⟨by rfl, ?yra16_14⟩) hHeld ?rra16_14
                case yra16_14 => (intro w' hSw; (try dsimp only at hSw); go_simp; try (with_reducible rfl))
                simp only [Act.put, List.setIfInBounds_toArray, List.set_cons_zero, List.set_cons_succ]
                refine wpAnyH_done (by kernel_rfl) ?_ _
                rw [← hlen3, ← hcel3] at kO
                obtain ⟨g2, c2, rfl⟩ := own_sm kO (by rw [hlen3]; omega)
                have HB4 := Lib.hid (HBb.out.trans (hB.mono HBb.out.size))
                have HN4 : Hid (Nm u14 (.slice (some ⟨g2, 0, none⟩) (F.take a ++ x :: F.drop a).length c2) (ovT (l.take (i + 1)) c)) := by
                  show Nm _ _ _
                  rw [hins.out]
                  exact own_Nm kO
                clear hB kO hHeld HBb HNb HDb HKP HS1 HS2 hlen3 hcel3
                generalize (F.take a ++ x :: F.drop a).length = n4 at HN4 ⊢
                go_wp2
                go_roundg (l.length - (i + 1))
                case measure => omega
                case rel => exact ⟨i + 1, g2, n4, c2, by omega, rfl, rfl, by go_num, ⟨_, rfl⟩, ⟨_, rfl⟩, ⟨_, rfl⟩, ⟨_, rfl⟩, HB4, HN4⟩
              · have hca2 : ¬ cp = a := fun e => hca e.symm
                have HS2 : Hid (∀ W, Below wb.heap.size wb W → Src W 1 (.slice (some ⟨g, a, none⟩) (F.length - a) (cp - a)) (F.drop a).length (iv (F.drop a))) := fun W h => nm_rest (HNb.out.on h)
                refine wp_region_held_drew (S := fun w' => Below wb.heap.size wb w' ∧ w'.cell? ⟨b, o + i * 2, none⟩ = some (.int .i64 x)) (by kernel_rfl) (HKP.out _ (Below.refl _ wb).drew) (fun hHeld => ?_)
                have hB : Below wb.heap.size wb wb.drew := (Below.refl _ wb).drew
                generalize wb.drew = u0 at hHeld hB ⊢
                refine wpAnyH_take (i := 1) (oi := ⟨some 49, _, _, _, _, _⟩) (v := ?vrb1_1) rfl (by kernel_rfl) (by kernel_rfl) (by kernel_rfl) (fun _ _ _ h => h) (Or.inl ⟨by rfl, ?yrb1_1⟩) hHeld ?rrb1_1
                case yrb1_1 => (intro w' hSw; (try dsimp only at hSw); go_simp; try (with_reducible rfl))
                simp only [Act.put, List.setIfInBounds_toArray, List.set_cons_zero, List.set_cons_succ]
                refine wpAnyH_take (i := 2) (oi := ⟨some 50, _, _, _, _, _⟩) (v := ?vrb2_2) rfl (by kernel_rfl) (by kernel_rfl) (by kernel_rfl) (fun _ _ _ h => h) (Or.inl ⟨by rfl, ?yrb2_2⟩) hHeld ?rrb2_2
                case yrb2_2 => (intro w' hSw; (try dsimp only at hSw); go_simp; try (with_reducible rfl))
                simp only [Act.put, List.setIfInBounds_toArray, List.set_cons_zero, List.set_cons_succ]
                refine wpAnyH_take (i := 3) (oi := ⟨some 51, _, _, _, _, _⟩) (v := ?vrb3_3) rfl (by kernel_rfl) (by kernel_rfl) (by kernel_rfl) (fun _ _ _ h => h) (Or.inl ⟨by rfl, ?yrb3_3⟩) hHeld ?rrb3_3
                case yrb3_3 => (intro w' hSw; (try dsimp only at hSw); go_simp; try (with_reducible rfl))
                simp only [Act.put, List.setIfInBounds_toArray, List.set_cons_zero, List.set_cons_succ]
                refine wpAnyH_take (i := 5) (oi := ⟨some 53, _, _, _, _, _⟩) (v := ?vrb5_4) rfl (by kernel_rfl) (by kernel_rfl) (by kernel_rfl) (fun _ _ _ h => h) (Or.inl ⟨by rfl, ?yrb5_4⟩) hHeld ?rrb5_4
                case yrb5_4 => (intro w' hSw; (try dsimp only at hSw); go_simp; try (with_reducible rfl))
                simp only [Act.put, List.setIfInBounds_toArray, List.set_cons_zero, List.set_cons_succ]
                refine wpAnyH_take (i := 6) (oi := ⟨some 54, _, _, _, _, _⟩) (v := ?vrb6_5) rfl (by kernel_rfl) (by kernel_rfl) (by kernel_rfl) (fun _ _ _ h => h) (Or.inl ⟨by rfl, ?yrb6_5⟩) hHeld ?rrb6_5
                case yrb6_5 => (intro w' hSw; (try dsimp only at hSw); go_simp; try (with_reducible rfl))
                simp only [Act.put, List.setIfInBounds_toArray, List.set_cons_zero, List.set_cons_succ]
                refine wpAnyH_take (i := 7) (oi := ⟨some 55, _, _, _, _, _⟩) (v := ?vrb7_6) rfl (by kernel_rfl) (by kernel_rfl) (by kernel_rfl) (fun _ _ _ h => h) (Or.inl ⟨by rfl, ?yrb7_6⟩) hHeld ?rrb7_6
                case yrb7_6 => (intro w' hSw; (try dsimp only at hSw); go_simp; try (with_reducible rfl))
                simp only [Act.put, List.setIfInBounds_toArray, List.set_cons_zero, List.set_cons_succ]
                refine wpAnyH_take (i := 8) (oi := ⟨some 56, _, _, _, _, _⟩) (v := ?vrb8_7) rfl (by kernel_rfl) (by kernel_rfl) (by kernel_rfl) (fun _ _ _ h => h) (Or.inl ⟨by rfl, ?yrb8_7⟩) hHeld ?rrb8_7
                case yrb8_7 => (intro w' hSw; (try dsimp only at hSw); go_simp; try (with_reducible rfl))
                simp only [Act.put, List.setIfInBounds_toArray, List.set_cons_zero, List.set_cons_succ]
                refine wpAnyH_take (i := 9) (oi := ⟨some 57, _, _, _, _, _⟩) (v := ?vrb9_8) rfl (by kernel_rfl) (by kernel_rfl) (by kernel_rfl) (fun _ _ _ h => h) (Or.inl ⟨by rfl, ?yrb9_8⟩) hHeld ?rrb9_8
                case yrb9_8 => (intro w' hSw; (try dsimp only at hSw); go_simp; try (with_reducible rfl))
                simp only [Act.put, List.setIfInBounds_toArray, List.set_cons_zero, List.set_cons_succ]
                refine wpAnyH_take (i := 12) (oi := ⟨some 60, _, _, _, _, _⟩) (v := ?vrb12_9) rfl (by kernel_rfl) (by kernel_rfl) (by kernel_rfl) (fun _ _ _ h => h) (Or.inl ⟨by rfl, ?yrb12_9⟩) hHeld ?rrb12_9
                case yrb12_9 => (intro w' hSw; (try dsimp only at hSw); go_simp; try (with_reducible rfl))
                simp only [Act.put, List.setIfInBounds_toArray, List.set_cons_zero, List.set_cons_succ]
                refine wpAnyH_take (i := 13) (oi := ⟨some 61, _, _, _, _, _⟩) (v := ?vrb13_10) rfl (by kernel_rfl) (by kernel_rfl) (by kernel_rfl) (fun _ _ _ h => h) (Or.inl ⟨by rfl, ?yrb13_10⟩) hHeld ?rrb13_10
                case yrb13_10 => (intro w' hSw; (try dsimp only at hSw); go_simp; try (with_reducible rfl))
                simp only [Act.put, List.setIfInBounds_toArray, List.set_cons_zero, List.set_cons_succ]
                refine wpAnyH_take (i := 14) (oi := ⟨some 62, _, _, _, _, _⟩) (v := ?vrb14_11) rfl (by kernel_rfl) (by kernel_rfl) (by kernel_rfl) (fun _ _ _ h => h) (Or.inl ⟨by rfl, ?yrb14_11⟩) hHeld ?rrb14_11
                case yrb14_11 => (intro w' hSw; (try dsimp only at hSw); go_simp; try (with_reducible rfl))
                simp only [Act.put, List.setIfInBounds_toArray, List.set_cons_zero, List.set_cons_succ]
                refine wpAnyH_ready (rs := [0, 10]) (by kernel_rfl) (by simp) ?_
                refine AllReadyH.cons (o := ⟨some 48, _, _, _, _, _⟩) rfl (fun K hK => ?_) ?_
                · go_simp
                  have hb := below1 u0 (.cells #[] 3)
                  have hB2 := hB.trans (hb.mono hB.size)
                  refine hK.out _ _ (HKP.out _ hB2) (fun hNext => ?_)
                  have kO : (u0.alloc (.cells #[] 3)).ownsRow wb.heap.size 3 1 (.slice (some ⟨u0.heap.size, 0, none⟩) 0 0) 0 [] := World.ownsRow_made u0 #[] 0 hB.size (Nat.zero_le _) rfl
                  clear hK K hHeld
                  have hHeld := hNext
                  clear hNext
                  clear hB
                  have hB := hB2
                  clear hB2 hb
                  generalize hgen : (u0.alloc (.cells #[] 3)) = u1 at hHeld hB kO  ⊢
                  clear hgen
                  generalize hgen : u0.heap.size = bO at kO  ⊢
                  clear hgen
                  try simp only [Act.put, List.setIfInBounds_toArray, List.set_cons_zero, List.set_cons_succ]
                  refine wpAnyH_ready (rs := [4, 10]) (by kernel_rfl) (by simp) ?_
                  refine AllReadyH.cons (o := ⟨some 52, _, _, _, _, _⟩) rfl (fun K hK => ?_) ?_
                  · refine step_app _ rfl (.tmp 48) (.tmp 51) 41 rfl wb.heap.size 3 ic _ 1 8 Try.underlying41 hic hcz0 hcz1 hcz2 rfl (by decide) (.slice (some ⟨bO, 0, none⟩) 0 0) 0 [] rfl kO (.slice (some ⟨g, 0, none⟩) a cp) a (iv (F.take a)) rfl (HS1.out _ hB) (by unfold maxLen; omega) (by omega) hB.size ?_
                    intro v2 u2 kO2 hgr
                    have hB2 := hB.grown hgr hB.size (fun j hj => (kO.lt j hj).1)
                    refine hK.out _ _ (HKP.out _ hB2) (fun hNext => ?_)
                    clear hK K hHeld
                    have hHeld := hNext
                    clear hNext
                    rw [Nat.zero_add, List.nil_append] at kO2
                    clear hB kO hgr
                    have hB := hB2
                    clear hB2
                    have kO := kO2
                    clear kO2
                    try simp only [Act.put, List.setIfInBounds_toArray, List.set_cons_zero, List.set_cons_succ]
                    refine wpAnyH_ready (rs := [10]) (by kernel_rfl) (by simp) ?_
                    refine AllReadyH.cons (o := ⟨some 58, _, _, _, _, _⟩) rfl (fun K hK => ?_) AllReadyH.nil
                    go_simp
                    have hb := below1 u2 (.cells #[.int .i64 x] 3)
                    have hB2 := hB.trans (hb.mono hB.size)
                    refine hK.out _ _ (HKP.out _ hB2) (fun hNext => ?_)
                    have kN : Blk (u2.alloc (.cells #[.int .i64 x] 3)) u2.heap.size 3 #[.int .i64 x] := Blk.new u2 _ _
                    replace kO := own_on kO hb
                    clear hK K hHeld
                    have hHeld := hNext
                    clear hNext
                    clear hB
                    have hB := hB2
                    clear hB2 hb
                    generalize hgen : (u2.alloc (.cells #[.int .i64 x] 3)) = u3 at hHeld hB kN kO ⊢
                    clear hgen
                    generalize hgen : u2.heap.size = bN at kN  ⊢
                    clear hgen
                    try simp only [Act.put, List.setIfInBounds_toArray, List.set_cons_zero, List.set_cons_succ]
                    refine wpAnyH_ready (rs := [11]) (by kernel_rfl) (by simp) ?_
                    refine AllReadyH.cons (o := ⟨some 59, _, _, _, _, _⟩) rfl (fun K hK => ?_) AllReadyH.nil
                    have SR : Src u3 1 (.slice (some ⟨bN, 0, none⟩) 1 1) 1 [.int .i64 x] := src_oneT kN rfl
                    refine step_app _ rfl (.tmp 52) (.tmp 58) 41 rfl wb.heap.size 3 ic _ 1 8 Try.underlying41 hic hcz0 hcz1 hcz2 rfl (by decide) (v2) a (iv (F.take a)) rfl kO (.slice (some ⟨bN, 0, none⟩) 1 1) 1 [.int .i64 x] rfl (SR) (by unfold maxLen; omega) (by omega) hB.size ?_
                    intro v3 u4 kO2 hgr
                    have hB2 := hB.grown hgr hB.size (fun j hj => (kO.lt j hj).1)
                    refine hK.out _ _ (HKP.out _ hB2) (fun hNext => ?_)
                    clear hK K hHeld
                    have hHeld := hNext
                    clear hNext
                    clear hB kO hgr SR kN
                    have hB := hB2
                    clear hB2
                    have kO := kO2
                    clear kO2
                    try simp only [Act.put, List.setIfInBounds_toArray, List.set_cons_zero, List.set_cons_succ]
                    refine wpAnyH_ready (rs := [15]) (by kernel_rfl) (by simp) ?_
                    refine AllReadyH.cons (o := ⟨some 63, _, _, _, _, _⟩) rfl (fun K hK => ?_) AllReadyH.nil
                    refine step_app _ rfl (.tmp 59) (.tmp 62) 41 rfl wb.heap.size 3 ic _ 1 8 Try.underlying41 hic hcz0 hcz1 hcz2 rfl (by decide) (v3) (a + 1) (iv (F.take a) ++ [.int .i64 x]) rfl kO (.slice (some ⟨g, a, none⟩) (F.length - a) (cp - a)) (F.drop a).length (iv (F.drop a)) rfl (HS2.out _ hB) (by unfold maxLen; omega) (by omega) hB.size ?_
                    intro v4 u5 kO2 hgr
                    have hB2 := hB.grown hgr hB.size (fun j hj => (kO.lt j hj).1)
                    refine hK.out _ _ (HKP.out _ hB2) (fun hNext => ?_)
                    clear hK K hHeld
                    have hHeld := hNext
                    clear hNext
                    clear hB kO hgr
                    have hB := hB2
                    clear hB2
                    have kO := kO2
                    clear kO2
                    try simp only [Act.put, List.setIfInBounds_toArray, List.set_cons_zero, List.set_cons_succ]
                    refine wpAnyH_take (i := 16) (oi := ⟨some 5, _, _, _, _, _⟩) (v := ?vrb16_12) rfl (by kernel_rfl) (by kernel_rfl) (by kernel_rfl) (fun _ _ _ h => h) (Or.inl ⟨by rfl, ?yrb16_12⟩) hHeld ?rrb16_12
                    case yrb16_12 => (intro w' hSw; (try dsimp only at hSw); go_simp; try (with_reducible rfl))
                    simp only [Act.put, List.setIfInBounds_toArray, List.set_cons_zero, List.set_cons_succ]
                    refine wpAnyH_done (by kernel_rfl) ?_ _
                    rw [← hlen3, ← hcel3] at kO
                    obtain ⟨g2, c2, rfl⟩ := own_sm kO (by rw [hlen3]; omega)
                    have HB4 := Lib.hid (HBb.out.trans (hB.mono HBb.out.size))
                    have HN4 : Hid (Nm u5 (.slice (some ⟨g2, 0, none⟩) (F.take a ++ x :: F.drop a).length c2) (ovT (l.take (i + 1)) c)) := by
                      show Nm _ _ _
                      rw [hins.out]
                      exact own_Nm kO
                    clear hB kO hHeld HBb HNb HDb HKP HS1 HS2 hlen3 hcel3
                    generalize (F.take a ++ x :: F.drop a).length = n4 at HN4 ⊢
                    go_wp2
                    go_roundg (l.length - (i + 1))
                    case measure => omega
                    case rel => exact ⟨i + 1, g2, n4, c2, by omega, rfl, rfl, by go_num, ⟨_, rfl⟩, ⟨_, rfl⟩, ⟨_, rfl⟩, ⟨_, rfl⟩, HB4, HN4⟩
                  refine AllReadyH.cons (o := ⟨some 58, _, _, _, _, _⟩) rfl (fun K hK => ?_) AllReadyH.nil
                  go_simp
                  have hb := below1 u1 (.cells #[.int .i64 x] 3)
                  have hB2 := hB.trans (hb.mono hB.size)
                  refine hK.out _ _ (HKP.out _ hB2) (fun hNext => ?_)
                  have kN : Blk (u1.alloc (.cells #[.int .i64 x] 3)) u1.heap.size 3 #[.int .i64 x] := Blk.new u1 _ _
                  have hne : u1.heap.size ≠ bO := (Nat.ne_of_lt (kO.lt bO rfl).2).symm
                  replace kO := own_on kO hb
                  clear hK K hHeld
                  have hHeld := hNext
                  clear hNext
                  clear hB
                  have hB := hB2
                  clear hB2 hb
                  generalize hgen : (u1.alloc (.cells #[.int .i64 x] 3)) = u6 at hHeld hB kN kO ⊢
                  clear hgen
                  generalize hgen : u1.heap.size = bN at kN hne ⊢
                  clear hgen
                  try simp only [Act.put, List.setIfInBounds_toArray, List.set_cons_zero, List.set_cons_succ]
                  refine wpAnyH_ready (rs := [4]) (by kernel_rfl) (by simp) ?_
                  refine AllReadyH.cons (o := ⟨some 52, _, _, _, _, _⟩) rfl (fun K hK => ?_) AllReadyH.nil
                  refine step_app _ rfl (.tmp 48) (.tmp 51) 41 rfl wb.heap.size 3 ic _ 1 8 Try.underlying41 hic hcz0 hcz1 hcz2 rfl (by decide) (.slice (some ⟨bO, 0, none⟩) 0 0) 0 [] rfl kO (.slice (some ⟨g, 0, none⟩) a cp) a (iv (F.take a)) rfl (HS1.out _ hB) (by unfold maxLen; omega) (by omega) hB.size ?_
                  intro v2 u7 kO2 hgr
                  have hB2 := hB.grown hgr hB.size (fun j hj => (kO.lt j hj).1)
                  refine hK.out _ _ (HKP.out _ hB2) (fun hNext => ?_)
                  clear hK K hHeld
                  have hHeld := hNext
                  clear hNext
                  replace kN := kN.grown hgr (by intro e; injection e with e; exact hne e)
                  rw [Nat.zero_add, List.nil_append] at kO2
                  clear hB kO hgr
                  have hB := hB2
                  clear hB2
                  have kO := kO2
                  clear kO2
                  try simp only [Act.put, List.setIfInBounds_toArray, List.set_cons_zero, List.set_cons_succ]
                  refine wpAnyH_ready (rs := [11]) (by kernel_rfl) (by simp) ?_
                  refine AllReadyH.cons (o := ⟨some 59, _, _, _, _, _⟩) rfl (fun K hK => ?_) AllReadyH.nil
                  have SR : Src u7 1 (.slice (some ⟨bN, 0, none⟩) 1 1) 1 [.int .i64 x] := src_oneT kN rfl
                  refine step_app _ rfl (.tmp 52) (.tmp 58) 41 rfl wb.heap.size 3 ic _ 1 8 Try.underlying41 hic hcz0 hcz1 hcz2 rfl (by decide) (v2) a (iv (F.take a)) rfl kO (.slice (some ⟨bN, 0, none⟩) 1 1) 1 [.int .i64 x] rfl (SR) (by unfold maxLen; omega) (by omega) hB.size ?_
                  intro v3 u8 kO2 hgr
                  have hB2 := hB.grown hgr hB.size (fun j hj => (kO.lt j hj).1)
                  refine hK.out _ _ (HKP.out _ hB2) (fun hNext => ?_)
                  clear hK K hHeld
                  have hHeld := hNext
                  clear hNext
                  clear hB kO hgr SR kN
                  have hB := hB2
                  clear hB2
                  have kO := kO2
                  clear kO2
                  try simp only [Act.put, List.setIfInBounds_toArray, List.set_cons_zero, List.set_cons_succ]
                  refine wpAnyH_ready (rs := [15]) (by kernel_rfl) (by simp) ?_
                  refine AllReadyH.cons (o := ⟨some 63, _, _, _, _, _⟩) rfl (fun K hK => ?_) AllReadyH.nil
                  refine step_app _ rfl (.tmp 59) (.tmp 62) 41 rfl wb.heap.size 3 ic _ 1 8 Try.underlying41 hic hcz0 hcz1 hcz2 rfl (by decide) (v3) (a + 1) (iv (F.take a) ++ [.int .i64 x]) rfl kO (.slice (some ⟨g, a, none⟩) (F.length - a) (cp - a)) (F.drop a).length (iv (F.drop a)) rfl (HS2.out _ hB) (by unfold maxLen; omega) (by omega) hB.size ?_
                  intro v4 u9 kO2 hgr
                  have hB2 := hB.grown hgr hB.size (fun j hj => (kO.lt j hj).1)
                  refine hK.out _ _ (HKP.out _ hB2) (fun hNext => ?_)
                  clear hK K hHeld
                  have hHeld := hNext
                  clear hNext
                  clear hB kO hgr
                  have hB := hB2
                  clear hB2
                  have kO := kO2
                  clear kO2
                  try simp only [Act.put, List.setIfInBounds_toArray, List.set_cons_zero, List.set_cons_succ]
                  refine wpAnyH_take (i := 16) (oi := ⟨some 5, _, _, _, _, _⟩) (v := ?vrb16_13) rfl (by kernel_rfl) (by kernel_rfl) (by kernel_rfl) (fun _ _ _ h => h) (Or.inl ⟨by rfl, ?yrb16_13⟩) hHeld ?rrb16_13
                  case yrb16_13 => (intro w' hSw; (try dsimp only at hSw); go_simp; try (with_reducible rfl))
                  simp only [Act.put, List.setIfInBounds_toArray, List.set_cons_zero, List.set_cons_succ]
                  refine wpAnyH_done (by kernel_rfl) ?_ _
                  rw [← hlen3, ← hcel3] at kO
                  obtain ⟨g2, c2, rfl⟩ := own_sm kO (by rw [hlen3]; omega)
                  have HB4 := Lib.hid (HBb.out.trans (hB.mono HBb.out.size))
                  have HN4 : Hid (Nm u9 (.slice (some ⟨g2, 0, none⟩) (F.take a ++ x :: F.drop a).length c2) (ovT (l.take (i + 1)) c)) := by
                    show Nm _ _ _
                    rw [hins.out]
                    exact own_Nm kO
                  clear hB kO hHeld HBb HNb HDb HKP HS1 HS2 hlen3 hcel3
                  generalize (F.take a ++ x :: F.drop a).length = n4 at HN4 ⊢
                  go_wp2
                  go_roundg (l.length - (i + 1))
                  case measure => omega
                  case rel => exact ⟨i + 1, g2, n4, c2, by omega, rfl, rfl, by go_num, ⟨_, rfl⟩, ⟨_, rfl⟩, ⟨_, rfl⟩, ⟨_, rfl⟩, HB4, HN4⟩
                refine AllReadyH.cons (o := ⟨some 58, _, _, _, _, _⟩) rfl (fun K hK => ?_) AllReadyH.nil
                go_simp
                have hb := below1 u0 (.cells #[.int .i64 x] 3)
                have hB2 := hB.trans (hb.mono hB.size)
                refine hK.out _ _ (HKP.out _ hB2) (fun hNext => ?_)
                have kN : Blk (u0.alloc (.cells #[.int .i64 x] 3)) u0.heap.size 3 #[.int .i64 x] := Blk.new u0 _ _
                clear hK K hHeld
                have hHeld := hNext
                clear hNext
                clear hB
                have hB := hB2
                clear hB2 hb
                generalize hgen : (u0.alloc (.cells #[.int .i64 x] 3)) = u10 at hHeld hB kN  ⊢
                clear hgen
                generalize hgen : u0.heap.size = bN at kN  ⊢
                clear hgen
                try simp only [Act.put, List.setIfInBounds_toArray, List.set_cons_zero, List.set_cons_succ]
                refine wpAnyH_ready (rs := [0]) (by kernel_rfl) (by simp) ?_
                refine AllReadyH.cons (o := ⟨some 48, _, _, _, _, _⟩) rfl (fun K hK => ?_) AllReadyH.nil
                go_simp
                have hb := below1 u10 (.cells #[] 3)
                have hB2 := hB.trans (hb.mono hB.size)
                refine hK.out _ _ (HKP.out _ hB2) (fun hNext => ?_)
                have kO : (u10.alloc (.cells #[] 3)).ownsRow wb.heap.size 3 1 (.slice (some ⟨u10.heap.size, 0, none⟩) 0 0) 0 [] := World.ownsRow_made u10 #[] 0 hB.size (Nat.zero_le _) rfl
                have hne : bN ≠ u10.heap.size := Nat.ne_of_lt kN.lt
                replace kN := kN.on hb
                clear hK K hHeld
                have hHeld := hNext
                clear hNext
                clear hB
                have hB := hB2
                clear hB2 hb
                generalize hgen : (u10.alloc (.cells #[] 3)) = u11 at hHeld hB kO kN ⊢
                clear hgen
                generalize hgen : u10.heap.size = bO at kO hne ⊢
                clear hgen
                try simp only [Act.put, List.setIfInBounds_toArray, List.set_cons_zero, List.set_cons_succ]
                refine wpAnyH_ready (rs := [4]) (by kernel_rfl) (by simp) ?_
                refine AllReadyH.cons (o := ⟨some 52, _, _, _, _, _⟩) rfl (fun K hK => ?_) AllReadyH.nil
                refine step_app _ rfl (.tmp 48) (.tmp 51) 41 rfl wb.heap.size 3 ic _ 1 8 Try.underlying41 hic hcz0 hcz1 hcz2 rfl (by decide) (.slice (some ⟨bO, 0, none⟩) 0 0) 0 [] rfl kO (.slice (some ⟨g, 0, none⟩) a cp) a (iv (F.take a)) rfl (HS1.out _ hB) (by unfold maxLen; omega) (by omega) hB.size ?_
                intro v2 u12 kO2 hgr
                have hB2 := hB.grown hgr hB.size (fun j hj => (kO.lt j hj).1)
                refine hK.out _ _ (HKP.out _ hB2) (fun hNext => ?_)
                clear hK K hHeld
                have hHeld := hNext
                clear hNext
                replace kN := kN.grown hgr (by intro e; injection e with e; exact hne e)
                rw [Nat.zero_add, List.nil_append] at kO2
                clear hB kO hgr
                have hB := hB2
                clear hB2
                have kO := kO2
                clear kO2
                try simp only [Act.put, List.setIfInBounds_toArray, List.set_cons_zero, List.set_cons_succ]
                refine wpAnyH_ready (rs := [11]) (by kernel_rfl) (by simp) ?_
                refine AllReadyH.cons (o := ⟨some 59, _, _, _, _, _⟩) rfl (fun K hK => ?_) AllReadyH.nil
                have SR : Src u12 1 (.slice (some ⟨bN, 0, none⟩) 1 1) 1 [.int .i64 x] := src_oneT kN rfl
                refine step_app _ rfl (.tmp 52) (.tmp 58) 41 rfl wb.heap.size 3 ic _ 1 8 Try.underlying41 hic hcz0 hcz1 hcz2 rfl (by decide) (v2) a (iv (F.take a)) rfl kO (.slice (some ⟨bN, 0, none⟩) 1 1) 1 [.int .i64 x] rfl (SR) (by unfold maxLen; omega) (by omega) hB.size ?_
                intro v3 u13 kO2 hgr
                have hB2 := hB.grown hgr hB.size (fun j hj => (kO.lt j hj).1)
                refine hK.out _ _ (HKP.out _ hB2) (fun hNext => ?_)
                clear hK K hHeld
                have hHeld := hNext
                clear hNext
                clear hB kO hgr SR kN
                have hB := hB2
                clear hB2
                have kO := kO2
                clear kO2
                try simp only [Act.put, List.setIfInBounds_toArray, List.set_cons_zero, List.set_cons_succ]
                refine wpAnyH_ready (rs := [15]) (by kernel_rfl) (by simp) ?_
                refine AllReadyH.cons (o := ⟨some 63, _, _, _, _, _⟩) rfl (fun K hK => ?_) AllReadyH.nil
                refine step_app _ rfl (.tmp 59) (.tmp 62) 41 rfl wb.heap.size 3 ic _ 1 8 Try.underlying41 hic hcz0 hcz1 hcz2 rfl (by decide) (v3) (a + 1) (iv (F.take a) ++ [.int .i64 x]) rfl kO (.slice (some ⟨g, a, none⟩) (F.length - a) (cp - a)) (F.drop a).length (iv (F.drop a)) rfl (HS2.out _ hB) (by unfold maxLen; omega) (by omega) hB.size ?_
                intro v4 u14 kO2 hgr
                have hB2 := hB.grown hgr hB.size (fun j hj => (kO.lt j hj).1)
                refine hK.out _ _ (HKP.out _ hB2) (fun hNext => ?_)
                clear hK K hHeld
                have hHeld := hNext
                clear hNext
                clear hB kO hgr
                have hB := hB2
                clear hB2
                have kO := kO2
                clear kO2
                try simp only [Act.put, List.setIfInBounds_toArray, List.set_cons_zero, List.set_cons_succ]
                refine wpAnyH_take (i := 16) (oi := ⟨some 5, _, _, _, _, _⟩) (v := ?vrb16_14) rfl (by kernel_rfl) (by kernel_rfl) (by kernel_rfl) (fun _ _ _ h => h) (Or.inl ⟨by rfl, ?yrb16_14⟩) hHeld ?rrb16_14
                case yrb16_14 => (intro w' hSw; (try dsimp only at hSw); go_simp; try (with_reducible rfl))
                simp only [Act.put, List.setIfInBounds_toArray, List.set_cons_zero, List.set_cons_succ]
                refine wpAnyH_done (by kernel_rfl) ?_ _
                rw [← hlen3, ← hcel3] at kO
                obtain ⟨g2, c2, rfl⟩ := own_sm kO (by rw [hlen3]; omega)
                have HB4 := Lib.hid (HBb.out.trans (hB.mono HBb.out.size))
                have HN4 : Hid (Nm u14 (.slice (some ⟨g2, 0, none⟩) (F.take a ++ x :: F.drop a).length c2) (ovT (l.take (i + 1)) c)) := by
                  show Nm _ _ _
                  rw [hins.out]
                  exact own_Nm kO
                clear hB kO hHeld HBb HNb HDb HKP HS1 HS2 hlen3 hcel3
                generalize (F.take a ++ x :: F.drop a).length = n4 at HN4 ⊢
                go_wp2
                go_roundg (l.length - (i + 1))
                case measure => omega
                case rel => exact ⟨i + 1, g2, n4, c2, by omega, rfl, rfl, by go_num, ⟨_, rfl⟩, ⟨_, rfl⟩, ⟨_, rfl⟩, ⟨_, rfl⟩, HB4, HN4⟩
      · have hltz : ¬ (i : Int) < (l.length : Int) := by omega
        have HN2 : Hid (Nm wr (.slice (some ⟨g, 0, none⟩) n cp) (ovT l c)) := by
          have := HN.out
          rw [List.take_of_length_le (by omega)] at this
          exact this
        go_wp2
        go_ret
        exact ⟨_, rfl, HN2.out, HB.out⟩
end Go.Proofs

namespace Go.Proofs.Hd
open Go.RowKit Go.Lib
def itF (l : List (Int × Cb)) : List Value := l.flatMap fun p => [.int .i64 p.1, .string (txt p.2)]
theorem itF_len (l : List (Int × Cb)) : (itF l).length = l.length * 2 := by
  induction l with
  | nil => rfl
  | cons p l ih => unfold itF at *; rw [List.flatMap_cons, List.length_append, ih]; simp; omega
theorem itF_app (A B : List (Int × Cb)) : itF (A ++ B) = itF A ++ itF B := by unfold itF; rw [List.flatMap_append]
theorem itF_one (l : List (Int × Cb)) : ∀ u ∈ itF l, u.oneCell' = true := fun u hu => by
  unfold itF at hu
  obtain ⟨p, _, hp⟩ := List.mem_flatMap.1 hu
  simp only [List.mem_cons, List.not_mem_nil, or_false] at hp
  rcases hp with rfl | rfl <;> rfl
theorem itF_get {l : List (Int × Cb)} : ∀ {k : Nat} {x : Int} {c : Cb}, l[k]? = some (x, c) → (itF l)[k * 2]? = some (.int .i64 x) ∧ (itF l)[k * 2 + 1]? = some (.string (txt c)) := by
  induction l with
  | nil => intro k x c h; simp at h
  | cons p l ih =>
    intro k x c h
    cases k with
    | zero =>
      simp only [List.getElem?_cons_zero, Option.some.injEq] at h
      subst h
      exact ⟨rfl, rfl⟩
    | succ k =>
      simp only [List.getElem?_cons_succ] at h
      have := ih h
      have e : (k + 1) * 2 = k * 2 + 2 := by omega
      rw [e]
      exact this
/-- The list lies in a row of its own from n on. -/
def Lr (n : Nat) (w : World) (v : Value) (l : List (Int × Cb)) : Prop := w.ownsRow n 37 2 v l.length (itF l)
theorem Lr.on {n : Nat} {w w' : World} {v : Value} {l : List (Int × Cb)} (h : Lr n w v l) (hb : Below w.heap.size w w') : Lr n w' v l := own_on h hb
theorem Lr.get {n : Nat} {w : World} {A : Option Addr} {m cap : Nat} {l : List (Int × Cb)} (h : Lr n w (.slice A m cap) l) {k : Nat} {x : Int} {c : Cb} (hk : l[k]? = some (x, c)) : m = l.length ∧ m ≤ cap ∧ cap ≤ maxLen ∧ ∃ g, A = some ⟨g, 0, none⟩ ∧ g < w.heap.size ∧ ∀ (k : Nat) (x : Int) (c : Cb), l[k]? = some (x, c) → w.cell? ⟨g, k * 2, none⟩ = some (.int .i64 x) ∧ w.cell? ⟨g, k * 2 + 1, none⟩ = some (.string (txt c)) := by
  have hl := (List.getElem?_eq_some_iff.1 hk).1
  unfold Lr at h
  rcases h.2 with ⟨_, h2⟩ | ⟨g, cap2, cur, e, _, hg, hnc, hcm, _⟩
  · omega
  · injection e with e1 e2 e3
    subst e1 e2 e3
    refine ⟨rfl, hnc, hcm, g, rfl, (Array.getElem?_eq_some_iff.1 hg).1, fun k x c hk => ?_⟩
    have hkl := (List.getElem?_eq_some_iff.1 hk).1
    rw [h.cellAt (k * 2) (by omega), h.cellAt (k * 2 + 1) (by omega)]
    exact itF_get hk
theorem Lr.it {n : Nat} {w : World} {v : Value} {l : List (Int × Cb)} (h : Lr n w v l) : It w v l := by
  unfold Lr at h
  obtain ⟨A, cap, rfl⟩ := own_slT h
  cases hl : l with
  | nil =>
    subst hl
    rcases h.2 with ⟨e, _⟩ | ⟨g, cap2, cur, e, _, _, hnc, hcm, _⟩
    · injection e with e1 _ e3
      subst e1 e3
      exact ⟨none, 0, rfl, Nat.le_refl _, Nat.zero_le _, .inl rfl⟩
    · injection e with e1 _ e3
      subst e1 e3
      exact ⟨_, cap, rfl, hnc, hcm, .inl rfl⟩
  | cons p l' =>
    rw [← hl]
    obtain ⟨x, c⟩ := p
    obtain ⟨e, h1, h2, g, rfl, hg, hc⟩ := Lr.get (n := n) (w := w) (l := l) (k := 0) (x := x) (c := c) h (by rw [hl]; rfl)
    refine ⟨_, cap, rfl, h1, h2, .inr ⟨g, 0, rfl, hg, fun i y d hi => ?_⟩⟩
    rw [Nat.zero_add]
    exact hc i y d hi
/-- A tree's blocks are apart from a row of other elements. -/
theorem TrAt.rowG {w : World} {base n z : Nat} {e : TypeId} {lv : Value} {P : List Value} (he1 : e ≠ 73) (he2 : 3 ≠ e) (hr : w.ownsRow base e z lv n P) : ∀ {t : Pt} {v : Value} {S : Nat → Prop}, TrAt w t v S → ∀ x, S x → lv.ownBlock ≠ some x
  | .no, _, _, h, x, hx => absurd hx (h.2 x)
  | .lf c ids, _, _, h, x, hx => by
    obtain ⟨B, u, _, h1, h2⟩ := h
    rcases (h2 x).1 hx with rfl | hx
    · exact fun e => own_apart hr h1.1 he1 e.symm
    · exact own_own h1.2 hr he2 x hx
  | .nd a s b, _, _, h, x, hx => by
    obtain ⟨B, vs, Ss, _, h1, h2, _, h3⟩ := h
    rcases (h3 x).1 hx with rfl | ⟨k, hk, hx⟩
    · exact fun e => own_apart hr h1 he1 e.symm
    · exact TrAt.rowG he1 he2 hr (h2 k hk) x hx
theorem TrieAt.row {w : World} {n B : Nat} {l : List (Int × Cb)} {S : Nat → Prop} {v : Value} {m : Nat} {xs : List Value} (h : TrieAt w B l S) (hr : w.ownsRow n 37 2 v m xs) : ∀ y, S y → v.ownBlock ≠ some y := fun y hy => by
  obtain ⟨_, mb, rv, t, Sr, h1, h2, _, h4, _, _, h7⟩ := h
  rcases (h7 y).1 hy with rfl | hm | hm
  · exact fun e => own_apart hr h1 (by decide) e.symm
  · intro e
    rcases h2 with ⟨e2, _⟩ | ⟨M, D, e2, ⟨es, clock, h3, _⟩, _⟩
    · injection e2 with e2; rw [e2] at hm; cases hm
    · injection e2 with e2
      rw [e2] at hm
      injection hm with hm
      subst hm
      rcases hr.2 with ⟨rfl, _⟩ | ⟨g, cap, cur, rfl, _, hg, _⟩
      · cases e
      · have e3 : g = M := by simpa [Value.ownBlock] using e
        subst e3
        rw [h3] at hg
        cases hg
  · exact TrAt.rowG (by decide) (by decide) hr h4 y hm
/-- The trie changes, the list's row does not. -/
theorem Lr.trie {n : Nat} {w w' : World} {v : Value} {l l2 : List (Int × Cb)} {B : Nat} {S : Nat → Prop} (h : Lr n w v l) (ht : TrieAt w B l2 S) (hc : Ch S w w') : Lr n w' v l := hc.own h fun g hg hs => ht.row h g hs hg
/-- The list's row grows, the trie stays. -/
theorem One.row {n nb : Nat} {w w' : World} {v v' : Value} {B m : Nat} {l : List (Int × Cb)} {S : Nat → Prop} {xs : List Value} (h : One n w B l S) (hr : w.ownsRow nb 37 2 v m xs) (hg : Grw w w' v.ownBlock v'.ownBlock) : One n w' B l S :=
  ⟨h.at_.ch (grw_ch hg) fun y hy e => h.at_.row hr y hy e, h.lo⟩
theorem src_item {w : World} {g : Nat} {t : TypeId} {x : Int} {s : ByteArray} (h : Blk w g t #[.int .i64 x, .string s]) : Src w 2 (.slice (some ⟨g, 0, none⟩) 1 1) 1 [.int .i64 x, .string s] := ⟨rfl, by simp [Value.oneCell'], .inr ⟨_, _, rfl, fun j u hj => by
  match j, hj with
  | 0, hj =>
    have e : (Value.int .i64 x) = u := by simpa using hj
    rw [add_plainN, h.cell, ← e]; rfl
  | 1, hj =>
    have e : (Value.string s) = u := by simpa using hj
    rw [add_plainN, h.cell, ← e]; rfl
  | j + 2, hj => simp at hj⟩⟩
theorem itF_take {l : List (Int × Cb)} {k j : Nat} {u : Value} (h : (itF (l.take k))[j]? = some u) : (itF l)[j]? = some u := by
  have e : itF l = itF (l.take k) ++ itF (l.drop k) := by rw [← itF_app, List.take_append_drop]
  rw [e, List.getElem?_append_left (List.getElem?_eq_some_iff.1 h).1]
  exact h
theorem itF_drop {l : List (Int × Cb)} {k j : Nat} {u : Value} (hk : k ≤ l.length) (h : (itF (l.drop k))[j]? = some u) : (itF l)[k * 2 + j]? = some u := by
  have e : itF l = itF (l.take k) ++ itF (l.drop k) := by rw [← itF_app, List.take_append_drop]
  have hl : (itF (l.take k)).length = k * 2 := by rw [itF_len, List.length_take]; congr 1; omega
  rw [e, List.getElem?_append_right (by omega), hl]
  rw [show k * 2 + j - k * 2 = j by omega]
  exact h
/-- The first k items. -/
theorem Lr.first {n : Nat} {w : World} {g m cap cap2 : Nat} {l : List (Int × Cb)} (h : Lr n w (.slice (some ⟨g, 0, none⟩) m cap) l) {k : Nat} (hk : k ≤ l.length) : Src w 2 (.slice (some ⟨g, 0, none⟩) k cap2) k (itF (l.take k)) := by
  have hl : (l.take k).length = k := by rw [List.length_take]; omega
  refine ⟨by rw [itF_len, hl], itF_one _, .inr ⟨_, _, rfl, fun j u hj => ?_⟩⟩
  have hj2 := (List.getElem?_eq_some_iff.1 hj).1
  rw [itF_len, hl] at hj2
  have hm : m = l.length := by
    unfold Lr at h
    rcases h.2 with ⟨e, _⟩ | ⟨_, _, _, e, _⟩
    · cases e
    · injection e
  subst hm
  rw [add_plainN, Nat.zero_add, World.ownsRow.cellAt h j (by omega)]
  exact itF_take hj
/-- What lies behind the first k items. -/
theorem Lr.rest {n : Nat} {w : World} {g m cap cap2 : Nat} {l : List (Int × Cb)} (h : Lr n w (.slice (some ⟨g, 0, none⟩) m cap) l) {k : Nat} (hk : k ≤ l.length) : Src w 2 (.slice (some ⟨g, k * 2, none⟩) (l.length - k) cap2) (l.drop k).length (itF (l.drop k)) := by
  refine ⟨by rw [itF_len], itF_one _, .inr ⟨_, _, by rw [List.length_drop], fun j u hj => ?_⟩⟩
  have hj2 := (List.getElem?_eq_some_iff.1 hj).1
  rw [itF_len, List.length_drop] at hj2
  have hm : m = l.length := by
    unfold Lr at h
    rcases h.2 with ⟨e, _⟩ | ⟨_, _, _, e, _⟩
    · cases e
    · injection e
  subst hm
  rw [add_plainN, World.ownsRow.cellAt h (k * 2 + j) (by omega)]
  exact itF_drop hk hj
theorem mtT_le2 (l : List (Int × Cb)) (x y : BitVec 64) : (mtT l x y).length ≤ l.length := by
  have h1 := setI_len (tIds (l.filter fun p => p.2.has x y))
  have h2 : (tIds (l.filter fun p => p.2.has x y)).length ≤ l.length := by
    unfold tIds
    rw [List.length_map]
    exact List.length_filter_le _ _
  unfold mtT
  omega
theorem ovS_yes {l : List (Int × Cb)} {c : Cb} (hc : c.snd = true) : ovS l c = ovT l c := if_pos hc
theorem ovS_no {l : List (Int × Cb)} {c : Cb} (hc : c.snd = false) : ovS l c = [] := if_neg (by rw [hc]; simp)
theorem addE_neg {l : List (Int × Cb)} {x : Int} {c : Cb} (h : x < 0) : addE l x c = 1 := if_pos h
theorem addE_form {l : List (Int × Cb)} {x : Int} {c : Cb} (h : ¬ x < 0) (hc : c.snd = false) : addE l x c = 2 := by unfold addE; rw [if_neg h, if_pos hc]
theorem addE_there {l : List (Int × Cb)} {x : Int} {c : Cb} (h : ¬ x < 0) (hc : c.snd = true) (hm : x ∈ tIds l) : addE l x c = 8 := by unfold addE; rw [if_neg h, if_neg (by rw [hc]; simp), if_pos hm]
theorem addE_ok {l : List (Int × Cb)} {x : Int} {c : Cb} (h : ¬ x < 0) (hc : c.snd = true) (hm : x ∉ tIds l) : addE l x c = 0 := by unfold addE; rw [if_neg h, if_neg (by rw [hc]; simp), if_neg hm]
theorem addT_no {l : List (Int × Cb)} {x : Int} {c : Cb} (h : addE l x c ≠ 0) : addT l x c = l := by unfold addT; rw [if_neg (fun e => h (addB_E.1 e))]
theorem addT_ok {l : List (Int × Cb)} {x : Int} {c : Cb} (h : addE l x c = 0) : addT l x c = l ++ [(x, c)] := by unfold addT; rw [if_pos (addB_E.2 h)]
end Go.Proofs.Hd
namespace Go.Proofs
open Go.RowKit Go.Proofs.Hd Go.Lib
theorem infoItem : (Try.prog.info? 37).map (fun i => (i.zero, i.size, i.bytes)) = some (some (.agg #[.int .i64 0, .string ⟨#[]⟩]), 2, 24) := by kernel_rfl
end Go.Proofs
