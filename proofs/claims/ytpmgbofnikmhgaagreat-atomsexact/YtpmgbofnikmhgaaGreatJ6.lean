/-
  Contract: Has of the reference of layer 2 tells whether a header is in the cube of a text. Conditions: the text is that of a sound cube.
  The law CubeHas returns true for all cubes and headers, and changes nothing that was there. No conditions.
  Plain facts on rows of bytes in memory and on the signs of two cubes' intersection. No program in sight. No conditions.
  Contracts: Meet and Within of the reference of layer 2, on the texts of two sound cubes. Conditions: both texts are those of sound cubes.
  Plain facts on the bits of a field. No conditions.
  Plain facts on whole arrays that are written place by place. No conditions.
  Contract: Cube of the reference of layer 2 returns the cube of a text. Conditions: the text is that of a sound cube.
  The law CubeMeets returns true for all cubes, and changes nothing that was there. No conditions.
  Contract of pile.without: the differences of each cube and the one that goes, in a row. Conditions as the theorem lists them.
  Contracts of pile.Join, pile.Less and pile.Within. Conditions as each theorem lists them.
  Contract of pile.Meet: the intersections of each cube of one list with each of another, without those that lie within others. Conditions as each theorem lists them.
  Plain mathematics on lists of cubes: which headers are in a join, a meet and what is left. No program in sight. Conditions as each theorem lists them.
  Contracts of the laws' awake and small of layer 3. Conditions as each theorem lists them.
  Plain facts on what the reference's Less holds in memory: the text that is being made, and the texts that are done. No conditions.
  Contract: Less of the reference of layer 2: the texts of the difference of two sound cubes. Conditions: both texts are those of sound cubes.
-/
import Derived.Test.YtpmgbofnikmhgaaGreatJ5
import Derived.Deep.QuietTactic
import Derived.BigQuiet
import Derived.Deep.RegionHeld
namespace Go.Proofs
open Go.RowKit Go.Proofs.Hd
attribute [local go_sem] uv_nonneg
theorem has_match (c : Cb) (h l : BitVec 64) (hs : c.snd = true) : c.has h l = true ↔ ∀ j, j < 128 → c.K j = true → hbit h l j = c.V j := by
  rw [Cb.has_iff]
  rw [Cb.snd_iff] at hs
  constructor
  · intro H j hj hk
    have := H j hj
    rw [hk, Bool.and_true] at this
    exact this
  · intro H j hj
    cases hk : c.K j with
    | true => rw [H j hj hk, Bool.and_true]
    | false =>
      cases hv : c.V j with
      | false => simp
      | true => rw [hs j hj hv] at hk; cases hk
/-- Sign k of a text. -/
theorem sign_x {c : Cb} {s : ByteArray} (hs : txt c = s) (k m : Nat) (hm : m + k = 127) (hk : k < s.size) (h : c.K m = false) : ((s[k]'hk).toNat : Int) = 120 := by
  subst hs; rw [txt_get, show 127 - k = m by omega]; unfold sgn; rw [h]; rfl
theorem sign_1 {c : Cb} {s : ByteArray} (hs : txt c = s) (k m : Nat) (hm : m + k = 127) (hk : k < s.size) (h : c.K m = true) (hv : c.V m = true) : ((s[k]'hk).toNat : Int) = 49 := by
  subst hs; rw [txt_get, show 127 - k = m by omega]; unfold sgn; rw [h, hv]; rfl
theorem sign_0 {c : Cb} {s : ByteArray} (hs : txt c = s) (k m : Nat) (hm : m + k = 127) (hk : k < s.size) (h : c.K m = true) (hv : c.V m = false) : ((s[k]'hk).toNat : Int) = 48 := by
  subst hs; rw [txt_get, show 127 - k = m by omega]; unfold sgn; rw [h, hv]; rfl
theorem has_fails {c : Cb} {h l : BitVec 64} {j : Nat} (hs : c.snd = true) (hj : j < 128) (hk : c.K j = true) (hne : ¬ hbit h l j = c.V j) : c.has h l = false := by
  cases e : c.has h l with
  | false => rfl
  | true => exact absurd ((has_match c h l hs).1 e j hj hk) hne
theorem step_ok {P : Nat → Prop} {k m : Nat} (hm : m + k = 127) (h : ∀ j, j < 128 → 128 ≤ j + k → P j) (hp : P m) : ∀ j, j < 128 → 128 ≤ j + (k + 1) → P j := fun j hj hk => by
  by_cases e : j = m
  · subst e; exact hp
  · exact h j hj (by omega)
theorem text_len {c : Cb} {s : ByteArray} (hs : txt c = s) : s.size = 128 := by subst hs; exact txt_size c

set_option maxRecDepth 100000 in
set_option maxHeartbeats 4000000 in
set_option maxRecDepth 100000 in
theorem rhas_s (s : ByteArray) (c : Cb) (hh hl : BitVec 64) (w : World) (hc : c.snd = true) (hs : txt c = s) :
    Calls Tryz.prog 32 #[.string s, .agg #[.int .u64 (uv hh), .int .u64 (uv hl)]] w fun e w' => e = .returned (.bool (c.has hh hl)) ∧ Below w.heap.size w w' := by
  have hz := zero25
  have l1 : s.size ≤ 128 := by rw [text_len hs]; omega
  have l2 : 128 ≤ s.size := by rw [text_len hs]; omega
  have HS := Lib.hid hs
  have HC := Lib.hid hc
  clear hs hc
  obtain ⟨x, hx⟩ : ∃ x, c.has hh hl = x := ⟨_, rfl⟩
  rw [hx]
  have HX := Lib.hid hx
  clear hx
  have b0 := below1 w (.cells #[.int .u64 (uv hh), .int .u64 (uv hl)] 25)
  go_enter Tryz.func32, Tryz.ntmps32
  go_wp2_with fail
  (with_reducible refine (bits_c _ _ _).mono ?_)
  rintro e w1 ⟨rfl, hb1⟩
  have B1 := b0.trans (hb1.mono b0.size)
  clear hb1 b0
  go_wp2_with (refine put_new rfl _ _ rfl (fun _ => false) (hbit hh hl) _ (by simp) rfl rfl ?_)
  go_loopg [6] 128 (fun g i wr => ∃ k : Nat, k ≤ 128 ∧ g = 128 - k ∧ i = .int .i64 k ∧ (∀ j, j < 128 → 128 ≤ j + k → c.K j = true → hbit hh hl j = c.V j) ∧ wr = w1.alloc (.cells (bl (hbit hh hl)).toArray 73))
  case atStart => exact ⟨0, by omega, rfl, rfl, fun j hj h => by omega, rfl⟩
  case round =>
    obtain ⟨k, hk, rfl, rfl, hok, rfl⟩ := hrel
    have HOK := Lib.hid hok
    clear hok
    by_cases hlt : k < 128
    · have hlt' : (k : Int) < 128 := by omega
      have hks : k < s.size := by omega
      have hks' : (k : Int) < (s.size : Int) := by omega
      obtain ⟨m, hm⟩ : ∃ m, m + k = 127 := ⟨127 - k, by omega⟩
      have hi : (127 : Int) - (k : Int) = (m : Int) := by omega
      have hm1 : m < 128 := by omega
      have hm2 : (m : Int) < 128 := by omega
      have hg := bl_get (hbit hh hl) m hm1
      have HM := Lib.hid hm
      clear hm
      cases hK : c.K m
      · have sg := sign_x HS.out k m HM.out hks hK
        have HK := Lib.hid hK
        clear hK hg
        go_wp2
        go_roundg (128 - (k + 1))
        case measure => omega
        case rel => exact ⟨k + 1, by omega, rfl, by go_num, step_ok HM.out HOK.out (fun h => by rw [HK.out] at h; cases h), rfl⟩
      · cases hV : c.V m <;> cases hB : hbit hh hl m
        · have sg := sign_0 HS.out k m HM.out hks hK hV
          rw [hB] at hg
          have HV := Lib.hid (hB.trans hV.symm)
          clear hK hV hB
          go_wp2
          go_roundg (128 - (k + 1))
          case measure => omega
          case rel => exact ⟨k + 1, by omega, rfl, by go_num, step_ok HM.out HOK.out (fun _ => HV.out), rfl⟩
        · have sg := sign_0 HS.out k m HM.out hks hK hV
          rw [hB] at hg
          have HF : c.has hh hl = false := has_fails HC.out hm1 hK (by rw [hB, hV]; simp)
          have e := HX.out
          rw [HF] at e
          subst e
          clear hK hV hB HF
          go_wp2
          go_ret
          exact ⟨rfl, B1.alloc B1.size _⟩
        · have sg := sign_1 HS.out k m HM.out hks hK hV
          rw [hB] at hg
          have HF : c.has hh hl = false := has_fails HC.out hm1 hK (by rw [hB, hV]; simp)
          have e := HX.out
          rw [HF] at e
          subst e
          clear hK hV hB HF
          go_wp2
          go_ret
          exact ⟨rfl, B1.alloc B1.size _⟩
        · have sg := sign_1 HS.out k m HM.out hks hK hV
          rw [hB] at hg
          have HV := Lib.hid (hB.trans hV.symm)
          clear hK hV hB
          go_wp2
          go_roundg (128 - (k + 1))
          case measure => omega
          case rel => exact ⟨k + 1, by omega, rfl, by go_num, step_ok HM.out HOK.out (fun _ => HV.out), rfl⟩
    · obtain rfl : k = 128 := by omega
      have HT : c.has hh hl = true := (has_match c hh hl HC.out).2 (fun j hj => HOK.out j hj (by omega))
      have e := HX.out
      rw [HT] at e
      subst e
      clear HT
      go_wp2
      go_ret
      exact ⟨rfl, B1.alloc B1.size _⟩
end Go.Proofs

namespace Go.Proofs
open Go.RowKit Go.Proofs.Hd
attribute [local go_sem] uv_nonneg eq4_self eq2_self
attribute [local go_sem high] run_eq2 run_eq4
theorem text_s (s : ByteArray) (c : Cb) (w : World) (hs : c.snd = true) (h : txt c = s) : Calls Tryz.prog 23 #[.agg #[.int .u64 (uv c.vh), .int .u64 (uv c.vl), .int .u64 (uv c.ch), .int .u64 (uv c.cl)]] w fun e w' => e = .returned (.tuple #[.string s, .bool true]) ∧ Below w.heap.size w w' := by
  subst h; exact text_yes c w hs
theorem rhas_is (x : Bool) (s : ByteArray) (c : Cb) (hh hl : BitVec 64) (w : World) (hc : c.snd = true) (hs : txt c = s) (hx : c.has hh hl = x) :
    Calls Tryz.prog 32 #[.string s, .agg #[.int .u64 (uv hh), .int .u64 (uv hl)]] w fun e w' => e = .returned (.bool x) ∧ Below w.heap.size w w' := by
  subst hx; exact rhas_s s c hh hl w hc hs
theorem has_none {c : Cb} (h l : BitVec 64) (hs : c.snd = false) : c.has h l = false := by
  cases e : c.has h l with
  | false => rfl
  | true =>
    have hh := (Cb.has_iff c h l).1 e
    have := (Cb.snd_iff c).2 (fun j hj hv => by have := hh j hj; rw [hv] at this; revert this; cases c.K j <;> simp)
    rw [hs] at this; cases this
end Go.Proofs

namespace Go.Proofs.Hd
open Go.RowKit
/-- Block b begins with the 128 bytes f, which may be written. -/
def ByRow (w : World) (b : Nat) (f : Nat → UInt8) : Prop := ∀ i, i < 128 → w.cell? ⟨b, i, none⟩ = some (.int .u8 (f i).toNat) ∧ w.frozen? ⟨b, i, none⟩ = false
theorem ByRow.start (w : World) (s : ByteArray) (cap : Nat) (t : TypeId) (hs : s.size = 128) (f : Nat → UInt8) (hf : ∀ i (h : i < s.size), s[i] = f i) :
    ByRow (w.drew.alloc (.cells (bytesRow s cap) t ((bytesRow s cap).size, (bytesRow s cap).size + 1))) w.heap.size f := by
  intro i hi
  have hh : (w.drew.alloc (.cells (bytesRow s cap) t ((bytesRow s cap).size, (bytesRow s cap).size + 1))).heap[w.heap.size]? = some (.cells (bytesRow s cap) t ((bytesRow s cap).size, (bytesRow s cap).size + 1)) := heap_alloc_new w.drew _
  have hn : 128 ≤ (bytesRow s cap).size := by
    unfold bytesRow
    rw [Array.size_append, Array.size_map]
    have : s.data.size = 128 := hs
    omega
  constructor
  · rw [cell_of_row _ _ _ _ _ _ hh]
    unfold bytesRow
    have hd : i < s.data.size := by have : s.data.size = 128 := hs; omega
    rw [Array.getElem?_append_left (by rw [Array.size_map]; exact hd), Array.getElem?_map, Array.getElem?_eq_getElem hd]
    have := hf i (by omega)
    rw [← this]; rfl
  · simp only [World.frozen?, hh]
    simp; omega
theorem ByRow.set {w : World} {b : Nat} {f : Nat → UInt8} (h : ByRow w b f) (k : Nat) (hk : k < 128) (g : Nat → UInt8) (v : Int) (hv : v = ((g k).toNat : Int)) (hg : ∀ i, i < 128 → i ≠ k → g i = f i) : ByRow (w.setCell ⟨b, k, none⟩ (.int .u8 v)) b g := by
  intro i hi
  subst hv
  refine ⟨?_, by rw [World.frozen?_setCell]; exact (h i hi).2⟩
  by_cases e : i = k
  · subst e; exact World.cell?_setCell_same _ _ _ (h i hi).1
  · rw [World.cell?_setCell_other (h := by intro c; injection c with _ c; exact e c.symm), (h i hi).1, hg i hi e]
theorem ByRow.congr {w : World} {b : Nat} {f g : Nat → UInt8} (h : ByRow w b f) (hg : ∀ i, i < 128 → g i = f i) : ByRow w b g := fun i hi => by rw [hg i hi]; exact h i hi
theorem ByRow.on {w w' : World} {b : Nat} {f : Nat → UInt8} (h : ByRow w b f) (hb : Below w.heap.size w w') : ByRow w' b f := fun i hi =>
  have hl := World.block_lt_of_cell? w ⟨b, i, none⟩ (h i hi).1
  ⟨(hb.cell hl).trans (h i hi).1, (hb.frozen hl).trans (h i hi).2⟩
theorem join_sign {a b : Cb} (ha : a.snd = true) (hb : b.snd = true) {j : Nat} (hj : j < 128) :
    (a.K j = false → sgn (a.join b) j = sgn b j) ∧ (a.K j = true → (b.K j = true → a.V j = b.V j) → sgn (a.join b) j = sgn a j) := by
  have jv : (a.join b).V j = (a.V j || b.V j) := by unfold Cb.V Cb.join; rw [hbit_or]
  have jk : (a.join b).K j = (a.K j || b.K j) := by unfold Cb.K Cb.join; rw [hbit_or]
  have h3 := (Cb.snd_iff a).1 ha j hj
  have h4 := (Cb.snd_iff b).1 hb j hj
  unfold sgn
  rw [jv, jk]
  revert h3 h4
  generalize a.K j = k1
  generalize b.K j = k2
  generalize a.V j = v1
  generalize b.V j = v2
  cases k1 <;> cases k2 <;> cases v1 <;> cases v2 <;> simp
/-- The first k signs are those of the intersection, the others those of the first. -/
def mixT (a b : Cb) (k : Nat) : Nat → UInt8 := fun i => if i < k then sgn (a.join b) (127 - i) else sgn a (127 - i)
theorem mixT_zero (a b : Cb) (i : Nat) : mixT a b 0 i = sgn a (127 - i) := by simp [mixT]
theorem mixT_far (a b : Cb) (k : Nat) : ∀ i, i < 128 → i ≠ k → mixT a b (k + 1) i = mixT a b k i := fun i _ h => by
  unfold mixT
  by_cases c : i < k
  · rw [if_pos c, if_pos (by omega)]
  · rw [if_neg c, if_neg (by omega)]
theorem mixT_at (a b : Cb) (k : Nat) : mixT a b (k + 1) k = sgn (a.join b) (127 - k) := by unfold mixT; rw [if_pos (by omega)]
theorem mixT_same (a b : Cb) (k m : Nat) (hm : m + k = 127) (h : sgn (a.join b) m = sgn a m) : ∀ i, i < 128 → mixT a b (k + 1) i = mixT a b k i := fun i hi => by
  by_cases e : i = k
  · subst e
    rw [mixT_at, show 127 - i = m by omega, h]
    unfold mixT; rw [if_neg (by omega), show 127 - i = m by omega]
  · exact mixT_far a b k i hi e
theorem mixT_all (a b : Cb) (i : Nat) (hi : i < 128) : mixT a b 128 i = sgn (a.join b) (127 - i) := by unfold mixT; rw [if_pos hi]
theorem txtL_get (c : Cb) (j : Nat) (hj : j < (txtL c).length) : (txtL c)[j] = sgn c (127 - j) := by simp [txtL]
theorem agr_fails {a b : Cb} {j : Nat} (hj : j < 128) (h1 : a.K j = true) (h2 : b.K j = true) (hne : ¬ a.V j = b.V j) : a.agr b = false := by
  cases e : a.agr b with
  | false => rfl
  | true => exact absurd ((Cb.agr_iff a b).1 e j hj h1 h2) hne
theorem wit_match {a b : Cb} (ha : a.snd = true) (hb : b.snd = true) : a.wit b = true ↔ ∀ j, j < 128 → b.K j = true → a.K j = true ∧ a.V j = b.V j := by
  rw [Cb.wit_iff]
  constructor
  · rintro ⟨_, _, h3, h4⟩ j hj hk; exact ⟨h3 j hj hk, h4 j hj (h3 j hj hk) hk⟩
  · intro H; exact ⟨ha, hb, fun j hj hk => (H j hj hk).1, fun j hj _ hk => (H j hj hk).2⟩
theorem wit_fails {a b : Cb} (ha : a.snd = true) (hb : b.snd = true) {j : Nat} (hj : j < 128) (h2 : b.K j = true) (hne : ¬ (a.K j = true ∧ a.V j = b.V j)) : a.wit b = false := by
  cases e : a.wit b with
  | false => rfl
  | true => exact absurd ((wit_match ha hb).1 e j hj h2) hne
end Go.Proofs.Hd

namespace Go.Proofs
open Go.RowKit Go.Proofs.Hd
attribute [local go_sem] uv_nonneg
theorem bel_drewN {B : Nat} {w w' : World} (n : Nat) (h : Below B w w') : Below B w (w'.drewN n) := ⟨h.os, h.tape, h.output, h.size, h.block⟩
theorem sgnat {c : Cb} {s : ByteArray} (hs : txt c = s) (k m : Nat) (hm : m + k = 127) (hk : k < s.size) : s[k]'hk = sgn c m := by
  subst hs; rw [txt_get, show 127 - k = m by omega]
theorem toBytes (u : World) (s : ByteArray) : (convert 9 45 (.string s)).run Tryz.prog u = .ok (.slice (some ⟨u.heap.size, 0, none⟩) s.size (grownCap u s.size 0 5))
      (u.drew.alloc (.cells (bytesRow s (grownCap u s.size 0 5)) 5 ((bytesRow s (grownCap u s.size 0 5)).size, (bytesRow s (grownCap u s.size 0 5)).size + 1))) :=
  run_bytes_of_string u 9 45 5 s Tryz.underlying9 Tryz.underlying45 Tryz.underlying5
theorem fromBytes (u : World) (c : Cb) (b n cap : Nat) (hn : n = 128) (h : ByRow u b (fun i => sgn c (127 - i))) : (convert 45 9 (.slice (some ⟨b, 0, none⟩) n cap)).run Tryz.prog u = .ok (.string (txt c)) u := by
  subst hn
  have k := run_convert_bytes_back (P := Tryz.prog) u 45 9 5 ⟨b, 0, none⟩ cap (txtL c) Tryz.underlying45 Tryz.underlying5 Tryz.underlying9 (fun j hj => by
    have ha : (⟨b, 0, none⟩ : Addr).add j = ⟨b, j, none⟩ := by unfold Addr.add; split <;> simp_all
    rw [ha, (h j (by rw [txtL_len] at hj; exact hj)).1, txtL_get])
  rw [txtL_len] at k
  exact k

set_option maxHeartbeats 4000000 in
set_option maxRecDepth 100000 in
theorem rwithin_s (s t : ByteArray) (a b : Cb) (w : World) (ha : a.snd = true) (hb : b.snd = true) (hs : txt a = s) (ht : txt b = t) :
    Calls Tryz.prog 37 #[.string s, .string t] w fun e w' => e = .returned (.bool (a.wit b)) ∧ Below w.heap.size w w' := by
  have l1 : s.size ≤ 128 := by rw [text_len hs]; omega
  have l2 : 128 ≤ s.size := by rw [text_len hs]; omega
  have l3 : t.size ≤ 128 := by rw [text_len ht]; omega
  have l4 : 128 ≤ t.size := by rw [text_len ht]; omega
  have HS := Lib.hid hs
  have HT := Lib.hid ht
  have HA := Lib.hid ha
  have HB := Lib.hid hb
  clear hs ht ha hb
  obtain ⟨x, hx⟩ : ∃ x, a.wit b = x := ⟨_, rfl⟩
  rw [hx]
  have HX := Lib.hid hx
  clear hx
  go_enter Tryz.func37, Tryz.ntmps37
  go_wp2_with fail
  go_loopg [5] 128 (fun g i wr => ∃ k : Nat, k ≤ 128 ∧ g = 128 - k ∧ i = .int .i64 k ∧ (∀ j, j < 128 → 128 ≤ j + k → b.K j = true → a.K j = true ∧ a.V j = b.V j) ∧ Below w.heap.size w wr)
  case atStart => exact ⟨0, by omega, rfl, rfl, fun j hj h => by omega, Below.refl _ _⟩
  case round =>
    obtain ⟨k, hk, rfl, rfl, hok, BW⟩ := hrel
    have HOK := Lib.hid hok
    clear hok
    by_cases hlt : k < 128
    · skip
      have hlt' : (k : Int) < 128 := by omega
      have hks : k < s.size := by omega
      have hks' : (k : Int) < (s.size : Int) := by omega
      have hkt : k < t.size := by omega
      have hkt' : (k : Int) < (t.size : Int) := by omega
      obtain ⟨m, hm⟩ : ∃ m, m + k = 127 := ⟨127 - k, by omega⟩
      have hm1 : m < 128 := by omega
      have HM := Lib.hid hm
      clear hm
      cases hKb : b.K m
      · have sgt := sign_x HT.out k m HM.out hkt hKb
        have HK := Lib.hid hKb
        clear hKb
        go_wp2
        go_quiet (fail)
        go_wp2
        go_roundg (128 - (k + 1))
        case measure => omega
        case rel => exact ⟨k + 1, by omega, rfl, by go_num, step_ok HM.out HOK.out (fun h => by rw [HK.out] at h; cases h), bel_drewN _ BW⟩
      · cases hVb : b.V m <;> cases hKa : a.K m <;> cases hVa : a.V m
        · have sgt := sign_0 HT.out k m HM.out hkt hKb hVb
          have sgs := sign_x HS.out k m HM.out hks hKa
          have e := HX.out
          rw [wit_fails HA.out HB.out hm1 hKb (fun h => by have h1 := h.1; rw [hKa] at h1; cases h1)] at e
          subst e
          clear hKb hVb hKa hVa
          go_wp2
          go_quiet (fail)
          go_wp2
          go_ret
          exact ⟨rfl, bel_drewN _ BW⟩
        · have sgt := sign_0 HT.out k m HM.out hkt hKb hVb
          have sgs := sign_x HS.out k m HM.out hks hKa
          have e := HX.out
          rw [wit_fails HA.out HB.out hm1 hKb (fun h => by have h1 := h.1; rw [hKa] at h1; cases h1)] at e
          subst e
          clear hKb hVb hKa hVa
          go_wp2
          go_quiet (fail)
          go_wp2
          go_ret
          exact ⟨rfl, bel_drewN _ BW⟩
        · have sgt := sign_0 HT.out k m HM.out hkt hKb hVb
          have sgs := sign_0 HS.out k m HM.out hks hKa hVa
          have HV := Lib.hid (And.intro hKa (hVa.trans hVb.symm))
          clear hKb hVb hKa hVa
          go_wp2
          go_quiet (fail)
          go_wp2
          go_roundg (128 - (k + 1))
          case measure => omega
          case rel => exact ⟨k + 1, by omega, rfl, by go_num, step_ok HM.out HOK.out (fun _ => HV.out), bel_drewN _ BW⟩
        · have sgt := sign_0 HT.out k m HM.out hkt hKb hVb
          have sgs := sign_1 HS.out k m HM.out hks hKa hVa
          have e := HX.out
          rw [wit_fails HA.out HB.out hm1 hKb (fun h => by have h1 := h.2; rw [hVa, hVb] at h1; cases h1)] at e
          subst e
          clear hKb hVb hKa hVa
          go_wp2
          go_quiet (fail)
          go_wp2
          go_ret
          exact ⟨rfl, bel_drewN _ BW⟩
        · have sgt := sign_1 HT.out k m HM.out hkt hKb hVb
          have sgs := sign_x HS.out k m HM.out hks hKa
          have e := HX.out
          rw [wit_fails HA.out HB.out hm1 hKb (fun h => by have h1 := h.1; rw [hKa] at h1; cases h1)] at e
          subst e
          clear hKb hVb hKa hVa
          go_wp2
          go_quiet (fail)
          go_wp2
          go_ret
          exact ⟨rfl, bel_drewN _ BW⟩
        · have sgt := sign_1 HT.out k m HM.out hkt hKb hVb
          have sgs := sign_x HS.out k m HM.out hks hKa
          have e := HX.out
          rw [wit_fails HA.out HB.out hm1 hKb (fun h => by have h1 := h.1; rw [hKa] at h1; cases h1)] at e
          subst e
          clear hKb hVb hKa hVa
          go_wp2
          go_quiet (fail)
          go_wp2
          go_ret
          exact ⟨rfl, bel_drewN _ BW⟩
        · have sgt := sign_1 HT.out k m HM.out hkt hKb hVb
          have sgs := sign_0 HS.out k m HM.out hks hKa hVa
          have e := HX.out
          rw [wit_fails HA.out HB.out hm1 hKb (fun h => by have h1 := h.2; rw [hVa, hVb] at h1; cases h1)] at e
          subst e
          clear hKb hVb hKa hVa
          go_wp2
          go_quiet (fail)
          go_wp2
          go_ret
          exact ⟨rfl, bel_drewN _ BW⟩
        · have sgt := sign_1 HT.out k m HM.out hkt hKb hVb
          have sgs := sign_1 HS.out k m HM.out hks hKa hVa
          have HV := Lib.hid (And.intro hKa (hVa.trans hVb.symm))
          clear hKb hVb hKa hVa
          go_wp2
          go_quiet (fail)
          go_wp2
          go_roundg (128 - (k + 1))
          case measure => omega
          case rel => exact ⟨k + 1, by omega, rfl, by go_num, step_ok HM.out HOK.out (fun _ => HV.out), bel_drewN _ BW⟩
    · obtain rfl : k = 128 := by omega
      have e := HX.out
      rw [(wit_match HA.out HB.out).2 (fun j hj => HOK.out j hj (by omega))] at e
      subst e
      go_wp2
      go_ret
      exact ⟨rfl, BW⟩

set_option maxHeartbeats 4000000 in
set_option maxRecDepth 100000 in
theorem rmeet_s (s t : ByteArray) (a b : Cb) (w : World) (ha : a.snd = true) (hb : b.snd = true) (hs : txt a = s) (ht : txt b = t) (x : Bool) (r : ByteArray) (hx : a.agr b = x) (HR : Hid (x = true → r = txt (a.join b))) (HN : Hid (x = false → r = ⟨#[]⟩)) :
    Calls Tryz.prog 38 #[.string s, .string t] w fun e w' => e = .returned (.tuple #[.string r, .bool x]) ∧ Below w.heap.size w w' := by
  have l1 : s.size ≤ 128 := by rw [text_len hs]; omega
  have l2 : 128 ≤ s.size := by rw [text_len hs]; omega
  have l3 : t.size ≤ 128 := by rw [text_len ht]; omega
  have l4 : 128 ≤ t.size := by rw [text_len ht]; omega
  have HS := Lib.hid hs
  have HT := Lib.hid ht
  have HA := Lib.hid ha
  have HB := Lib.hid hb
  have R0 := ByRow.start w s (grownCap w s.size 0 5) 5 (text_len hs) (mixT a b 0) (fun i h => by subst hs; rw [txt_get, mixT_zero])
  have HR0 := Lib.hid R0
  have hcv := toBytes w s
  clear hs ht ha hb R0
  have HX := Lib.hid hx
  clear hx
  go_enter Tryz.func38, Tryz.ntmps38
  go_wp2_with fail
  generalize grownCap w s.size 0 5 = cap at *
  clear hcv
  go_loopg [7] 128 (fun g i wr => ∃ k : Nat, k ≤ 128 ∧ g = 128 - k ∧ i = .int .i64 k ∧ (∀ j, j < 128 → 128 ≤ j + k → a.K j = true → b.K j = true → a.V j = b.V j) ∧ Below w.heap.size w wr ∧ ByRow wr w.heap.size (mixT a b k))
  case atStart => exact ⟨0, by omega, rfl, rfl, fun j hj h => by omega, ((Below.refl _ w).drew).alloc (Nat.le_refl _) _, HR0.out⟩
  case round =>
    clear HR0
    obtain ⟨k, hk, rfl, rfl, hok, BW, RW⟩ := hrel
    have HOK := Lib.hid hok
    clear hok
    by_cases hlt : k < 128
    · skip
      have hlt' : (k : Int) < 128 := by omega
      have hks : k < s.size := by omega
      have hks' : (k : Int) < (s.size : Int) := by omega
      have hkt : k < t.size := by omega
      have hkt' : (k : Int) < (t.size : Int) := by omega
      obtain ⟨m, hm⟩ : ∃ m, m + k = 127 := ⟨127 - k, by omega⟩
      have hm1 : m < 128 := by omega
      have HM := Lib.hid hm
      clear hm
      have f1 := (RW k hlt).1
      have f2 := (RW k hlt).2
      have J := Lib.hid (join_sign HA.out HB.out hm1)
      cases hKa : a.K m
      · have sgs := sign_x HS.out k m HM.out hks hKa
        have HSB := Lib.hid (sgnat HT.out k m HM.out hkt)
        have HKA := Lib.hid hKa
        clear hKa
        go_wp2
        go_roundg (128 - (k + 1))
        case measure => omega
        case rel => exact ⟨k + 1, by omega, rfl, by go_num, step_ok HM.out HOK.out (fun h => by rw [HKA.out] at h; cases h), BW.setCell (Nat.le_refl _) _, RW.set k hlt _ _ (by rw [mixT_at, show 127 - k = m by have := HM.out; omega, J.out.1 HKA.out, HSB.out]) (mixT_far a b k)⟩
      · cases hVa : a.V m <;> cases hKb : b.K m <;> cases hVb : b.V m
        · have sgs := sign_0 HS.out k m HM.out hks hKa hVa
          have sgt := sign_x HT.out k m HM.out hkt hKb
          have HOK2 := Lib.hid (step_ok (P := fun j => a.K j = true → b.K j = true → a.V j = b.V j) HM.out HOK.out (fun _ => fun h => by rw [hKb] at h; cases h))
          have HSM := Lib.hid (mixT_same a b k m HM.out (J.out.2 hKa (fun h => by rw [hKb] at h; cases h)))
          clear hKb hVb hKa hVa
          go_wp2
          go_quiet (fail)
          go_wp2
          go_roundg (128 - (k + 1))
          case measure => omega
          case rel => exact ⟨k + 1, by omega, rfl, by go_num, HOK2.out, bel_drewN _ BW, RW.congr HSM.out⟩
        · have sgs := sign_0 HS.out k m HM.out hks hKa hVa
          have sgt := sign_x HT.out k m HM.out hkt hKb
          have HOK2 := Lib.hid (step_ok (P := fun j => a.K j = true → b.K j = true → a.V j = b.V j) HM.out HOK.out (fun _ => fun h => by rw [hKb] at h; cases h))
          have HSM := Lib.hid (mixT_same a b k m HM.out (J.out.2 hKa (fun h => by rw [hKb] at h; cases h)))
          clear hKb hVb hKa hVa
          go_wp2
          go_quiet (fail)
          go_wp2
          go_roundg (128 - (k + 1))
          case measure => omega
          case rel => exact ⟨k + 1, by omega, rfl, by go_num, HOK2.out, bel_drewN _ BW, RW.congr HSM.out⟩
        · have sgs := sign_0 HS.out k m HM.out hks hKa hVa
          have sgt := sign_0 HT.out k m HM.out hkt hKb hVb
          have HOK2 := Lib.hid (step_ok (P := fun j => a.K j = true → b.K j = true → a.V j = b.V j) HM.out HOK.out (fun _ => fun _ => hVa.trans hVb.symm))
          have HSM := Lib.hid (mixT_same a b k m HM.out (J.out.2 hKa (fun _ => hVa.trans hVb.symm)))
          clear hKb hVb hKa hVa
          go_wp2
          go_quiet (fail)
          go_wp2
          go_roundg (128 - (k + 1))
          case measure => omega
          case rel => exact ⟨k + 1, by omega, rfl, by go_num, HOK2.out, bel_drewN _ BW, RW.congr HSM.out⟩
        · have sgs := sign_0 HS.out k m HM.out hks hKa hVa
          have sgt := sign_1 HT.out k m HM.out hkt hKb hVb
          have e := HX.out
          rw [agr_fails hm1 hKa hKb (fun h => by rw [hVa, hVb] at h; cases h)] at e
          subst e
          have er := HN.out rfl
          subst er
          clear HR HN hKb hVb hKa hVa
          go_wp2
          go_quiet (fail)
          go_wp2
          go_ret2
          exact ⟨rfl, bel_drewN _ BW⟩
        · have sgs := sign_1 HS.out k m HM.out hks hKa hVa
          have sgt := sign_x HT.out k m HM.out hkt hKb
          have HOK2 := Lib.hid (step_ok (P := fun j => a.K j = true → b.K j = true → a.V j = b.V j) HM.out HOK.out (fun _ => fun h => by rw [hKb] at h; cases h))
          have HSM := Lib.hid (mixT_same a b k m HM.out (J.out.2 hKa (fun h => by rw [hKb] at h; cases h)))
          clear hKb hVb hKa hVa
          go_wp2
          go_quiet (fail)
          go_wp2
          go_roundg (128 - (k + 1))
          case measure => omega
          case rel => exact ⟨k + 1, by omega, rfl, by go_num, HOK2.out, bel_drewN _ BW, RW.congr HSM.out⟩
        · have sgs := sign_1 HS.out k m HM.out hks hKa hVa
          have sgt := sign_x HT.out k m HM.out hkt hKb
          have HOK2 := Lib.hid (step_ok (P := fun j => a.K j = true → b.K j = true → a.V j = b.V j) HM.out HOK.out (fun _ => fun h => by rw [hKb] at h; cases h))
          have HSM := Lib.hid (mixT_same a b k m HM.out (J.out.2 hKa (fun h => by rw [hKb] at h; cases h)))
          clear hKb hVb hKa hVa
          go_wp2
          go_quiet (fail)
          go_wp2
          go_roundg (128 - (k + 1))
          case measure => omega
          case rel => exact ⟨k + 1, by omega, rfl, by go_num, HOK2.out, bel_drewN _ BW, RW.congr HSM.out⟩
        · have sgs := sign_1 HS.out k m HM.out hks hKa hVa
          have sgt := sign_0 HT.out k m HM.out hkt hKb hVb
          have e := HX.out
          rw [agr_fails hm1 hKa hKb (fun h => by rw [hVa, hVb] at h; cases h)] at e
          subst e
          have er := HN.out rfl
          subst er
          clear HR HN hKb hVb hKa hVa
          go_wp2
          go_quiet (fail)
          go_wp2
          go_ret2
          exact ⟨rfl, bel_drewN _ BW⟩
        · have sgs := sign_1 HS.out k m HM.out hks hKa hVa
          have sgt := sign_1 HT.out k m HM.out hkt hKb hVb
          have HOK2 := Lib.hid (step_ok (P := fun j => a.K j = true → b.K j = true → a.V j = b.V j) HM.out HOK.out (fun _ => fun _ => hVa.trans hVb.symm))
          have HSM := Lib.hid (mixT_same a b k m HM.out (J.out.2 hKa (fun _ => hVa.trans hVb.symm)))
          clear hKb hVb hKa hVa
          go_wp2
          go_quiet (fail)
          go_wp2
          go_roundg (128 - (k + 1))
          case measure => omega
          case rel => exact ⟨k + 1, by omega, rfl, by go_num, HOK2.out, bel_drewN _ BW, RW.congr HSM.out⟩
    · obtain rfl : k = 128 := by omega
      have e := HX.out
      rw [(Cb.agr_iff a b).2 (fun j hj => HOK.out j hj (by omega))] at e
      subst e
      have er := HR.out rfl
      have hcv := fromBytes wr (a.join b) w.heap.size s.size cap (by omega) (RW.congr (fun i hi => (mixT_all a b i hi).symm))
      rw [← er] at hcv
      clear er HR HN
      go_wp2
      go_ret2
      exact ⟨rfl, BW⟩
end Go.Proofs

namespace Go.Proofs.Hd
open Go.RowKit
/-- The bits a .. a + k - 1. -/
def mk (a k : Nat) : Nat → Bool := fun j => decide (a ≤ j) && decide (j < a + k)
theorem mk_zero (a : Nat) : bl (mk a 0) = bl (fun _ => false) := bl_congr fun j _ => by
  unfold mk; by_cases h : a ≤ j
  · simp [h, show ¬ j < a by omega]
  · simp [h]
theorem mk_succ (a k : Nat) : (bl (mk a k)).set (a + k) (.bool true) = bl (mk a (k + 1)) := by
  rw [bl_set]
  apply bl_congr
  intro j _
  unfold mk
  by_cases e : j = a + k
  · subst e; simp
  · by_cases h : a ≤ j
    · have : (j < a + (k + 1)) ↔ (j < a + k) := by omega
      simp [e, h, this]
    · simp [e, h]
theorem mk_num (a n : Nat) (h : a + n ≤ 128) : num (mk a n) 64 64 = maskH a n ∧ num (mk a n) 0 64 = maskL a n :=
  num_of_bits fun j hj => by rw [mask_bit a n j h hj]; rfl
/-- A header's bits, of which k from a on are those of v. -/
def pt (h l v : BitVec 64) (a k : Nat) : Nat → Bool := fun j => if a ≤ j ∧ j < a + k then v.getLsbD (j - a) else hbit h l j
theorem pt_zero (h l v : BitVec 64) (a : Nat) : pt h l v a 0 = hbit h l := by
  funext j; unfold pt; rw [if_neg (by omega)]
theorem pt_succ (h l v : BitVec 64) (a k : Nat) (b : Bool) (hb : b = v.getLsbD k) : (bl (pt h l v a k)).set (a + k) (.bool b) = bl (pt h l v a (k + 1)) := by
  subst hb
  rw [bl_set]
  apply bl_congr
  intro j _
  unfold pt
  by_cases e : j = a + k
  · subst e; rw [if_pos rfl, if_pos (by omega), Nat.add_sub_cancel_left]
  · rw [if_neg e]
    by_cases c : a ≤ j ∧ j < a + k
    · rw [if_pos c, if_pos (by omega)]
    · rw [if_neg c, if_neg (by omega)]
theorem fit_bits (v : BitVec 64) (n i : Nat) (hn : n ≤ 64) (h : ¬ uv (low n) < uv v) (hi : n ≤ i) : v.getLsbD i = false := by
  unfold uv at h
  rw [low_nat n hn] at h
  have h2 : v.toNat < 2 ^ n := by have := Nat.two_pow_pos n; omega
  rw [BitVec.getLsbD, Nat.testBit_lt_two_pow]
  exact Nat.lt_of_lt_of_le h2 (Nat.pow_le_pow_right (by omega) hi)
theorem pt_num (h l v : BitVec 64) (a n : Nat) (hn : n ≤ 64) (hv : ¬ uv (low n) < uv v) : num (pt h l v a n) 64 64 = putH h a n v ∧ num (pt h l v a n) 0 64 = putL l a n v :=
  num_of_bits fun j hj => by
    rw [put_bit h l a n v j hn hj]
    unfold pt
    by_cases c : a ≤ j ∧ j < a + n
    · rw [if_pos c]; simp [c.1, c.2]
    · rw [if_neg c]
      by_cases c1 : a ≤ j
      · have c2 : ¬ j < a + n := fun h2 => c ⟨c1, h2⟩
        simp [c1, c2, fit_bits v n (j - a) hn hv (by omega)]
      · simp [c1]
theorem over_small (v : BitVec 64) (n : Nat) (hn : n ≤ 64) (hv : uv (low n) < uv v) : n < 64 ∧ (uv (v >>> n) != 0) = true := by
  unfold uv at *
  rw [low_nat n hn] at hv
  have hl := v.isLt
  have hp := Nat.two_pow_pos n
  have h1 : n < 64 := by
    rcases Nat.lt_or_ge n 64 with h | h
    · exact h
    · have : n = 64 := by omega
      subst this; omega
  refine ⟨h1, ?_⟩
  rw [BitVec.toNat_ushiftRight, Nat.shiftRight_eq_div_pow]
  have : 0 < v.toNat / 2 ^ n := Nat.div_pos (by omega) hp
  simp only [bne_iff_ne, ne_eq]; omega
theorem fit_small (v : BitVec 64) (n : Nat) (hn : n ≤ 64) (hv : ¬ uv (low n) < uv v) : (uv (v >>> n) != 0) = false := by
  unfold uv at *
  rw [low_nat n hn] at hv
  have hp := Nat.two_pow_pos n
  rw [BitVec.toNat_ushiftRight, Nat.shiftRight_eq_div_pow, Nat.div_eq_of_lt (by omega)]
  rfl
theorem v_bit (v : BitVec 64) (k : Nat) : ((uv (v >>> k)).tmod 2 == 1) = v.getLsbD k := by
  rw [uv_odd, BitVec.getLsbD_ushiftRight, Nat.add_zero]
end Go.Proofs.Hd

namespace Go.Proofs.Hd
open Go.RowKit
/-- The array f lies in block b, whole, and may be written. -/
def Row (w : World) (b : Nat) (f : Nat → Bool) : Prop := w.rangeAt b 0 (bl f) ∧ w.there b 0 128
theorem Row.cell {w : World} {b k : Nat} {f : Nat → Bool} (h : Row w b f) (hk : k < 128) : w.cell? ⟨b, k, none⟩ = some (.bool (f k)) := range_cell h.1 hk
theorem Row.froz {w : World} {b k : Nat} {f : Nat → Bool} (h : Row w b f) (hk : k < 128) : w.frozen? ⟨b, k, none⟩ = false := by
  have := (h.2 k hk).2; rwa [Nat.zero_add] at this
theorem Row.lt {w : World} {b : Nat} {f : Nat → Bool} (h : Row w b f) : b < w.heap.size := World.block_lt_of_cell? w ⟨b, 0, none⟩ (h.cell (by omega))
theorem Row.drew {w : World} {b : Nat} {f : Nat → Bool} (h : Row w b f) : Row w.drew b f := h
theorem Row.far {w : World} {b : Nat} {f : Nat → Bool} {p : Addr} {v : Value} (h : Row w b f) (hp : p.block ≠ b) : Row (w.setCell p v) b f := by
  refine ⟨fun j x hj => ?_, fun j hj => ?_⟩
  · rw [World.cell?_setCell_far w p ⟨b, 0 + j, none⟩ v hp]; exact h.1 j x hj
  · rw [World.cell?_setCell_far w p ⟨b, 0 + j, none⟩ v hp, World.frozen?_setCell]; exact h.2 j hj
theorem Row.set {w : World} {b k : Nat} {f g : Nat → Bool} {x : Bool} (h : Row w b f) (hk : k < 128) (e : (bl f).set k (.bool x) = bl g) : Row (w.setCell ⟨b, k, none⟩ (.bool x)) b g := by
  have hc : ∀ j, j < 128 → (w.setCell ⟨b, k, none⟩ (.bool x)).cell? ⟨b, j, none⟩ = some (if j = k then .bool x else .bool (f j)) := by
    intro j hj
    by_cases ej : j = k
    · subst ej; rw [if_pos rfl]; exact World.cell?_setCell_same w ⟨b, j, none⟩ (.bool x) (h.cell hj)
    · rw [if_neg ej, World.cell?_setCell_other w ⟨b, k, none⟩ ⟨b, j, none⟩ (.bool x) (fun e2 => ej (by injection e2 with _ e3; exact e3.symm)), h.cell hj]
  refine ⟨fun j y hj => ?_, fun j hj => ?_⟩
  · have hj' : j < 128 := by
      have := (List.getElem?_eq_some_iff.1 hj).1; rwa [bl_len] at this
    rw [Nat.zero_add, hc j hj', ← hj, ← e, bl_set, bl_get _ _ hj']
    by_cases ej : j = k <;> simp [ej]
  · rw [Nat.zero_add, hc j hj, World.frozen?_setCell]
    exact ⟨rfl, h.froz hj⟩
theorem Row.below {B b : Nat} {w w' : World} {f : Nat → Bool} (h : Row w b f) (hb : Below B w w') (hl : b < B) : Row w' b f := ⟨range_below hb h.1 hl, there_below hb h.2 hl⟩
theorem Row.of_set {w : World} {b : Nat} (f : Nat → Bool) (h : w.there b 0 128) : Row (w.setCells b 0 (bl f)) b f :=
  ⟨World.rangeAt_setCells_same w b 0 (bl f) (by rw [bl_len]; exact h), World.there_setCells h b 0 (bl f)⟩
theorem Row.apart {w : World} {b c : Nat} {f : Nat → Bool} {vs : List Value} (h : Row w b f) (hne : b ≠ c) : Row (w.setCells c 0 vs) b f :=
  ⟨World.rangeAt_setCells_apart h.1 c 0 vs (Or.inl hne), World.there_setCells h.2 c 0 vs⟩
theorem Row.congr {w : World} {b : Nat} {f g : Nat → Bool} (h : Row w b f) (e : bl f = bl g) : Row w b g := ⟨e ▸ h.1, h.2⟩
/-- g below k, f from k on. -/
def mix (f g : Nat → Bool) (k : Nat) : Nat → Bool := fun j => if j < k then g j else f j
theorem mix_zero (f g : Nat → Bool) : mix f g 0 = f := by funext j; simp [mix]
theorem mix_all (f g : Nat → Bool) : bl (mix f g 128) = bl g := bl_congr fun j hj => by simp [mix, hj]
theorem mix_set (f g : Nat → Bool) (k : Nat) (b : Bool) (h : b = g k) : (bl (mix f g k)).set k (.bool b) = bl (mix f g (k + 1)) := by
  subst h
  rw [bl_set]
  apply bl_congr
  intro j _
  unfold mix
  by_cases e : j = k
  · subst e; simp
  · rw [if_neg e]
    have : (j < k + 1) ↔ (j < k) := by omega
    simp [this]
theorem and127i (m : Nat) (h : m < 128) : bits .and .i64 (m : Int) 127 = (m : Int) := by
  have e : wrap64 (uv (BitVec.ofNat 64 m)) = (m : Int) := by
    rw [uv_ofNat, IntKind.wrap_u64]; unfold wrap64; omega
  have := and127 (BitVec.ofNat 64 m)
  rw [e, BitVec.toNat_ofNat] at this
  have e2 : (2 : Nat) ^ 64 = 18446744073709551616 := by decide +kernel
  rw [this, e2]; omega
/-- Bit n of a header, false outside 0 .. 127. -/
def bitI (h l : BitVec 64) (n : Int) : Bool := if 0 ≤ n ∧ n < 128 then hbit h l n.toNat else false
theorem and_num (h l p q : BitVec 64) : num (fun j => hbit h l j && hbit p q j) 64 64 = h &&& p ∧ num (fun j => hbit h l j && hbit p q j) 0 64 = l &&& q := num_of_bits fun j _ => hbit_and h l p q j
theorem or_num (h l p q : BitVec 64) : num (fun j => hbit h l j || hbit p q j) 64 64 = h ||| p ∧ num (fun j => hbit h l j || hbit p q j) 0 64 = l ||| q := num_of_bits fun j _ => hbit_or h l p q j
theorem xor_num (h l p q : BitVec 64) : num (fun j => hbit h l j ^^ hbit p q j) 64 64 = h ^^^ p ∧ num (fun j => hbit h l j ^^ hbit p q j) 0 64 = l ^^^ q := num_of_bits fun j _ => hbit_xor h l p q j
theorem less_num (h l p q : BitVec 64) : num (fun j => hbit h l j && !hbit p q j) 64 64 = h &&& ~~~p ∧ num (fun j => hbit h l j && !hbit p q j) 0 64 = l &&& ~~~q := num_of_bits fun j hj => hbit_andNot h l p q j hj
theorem two_Rows {V : World} {b c : Nat} (f g : Nat → Bool) (h1 : V.there b 0 128) (h2 : V.there c 0 128) (hne : b ≠ c) :
    Row ((V.setCells b 0 (bl f)).setCells c 0 (bl g)) b f ∧ Row ((V.setCells b 0 (bl f)).setCells c 0 (bl g)) c g :=
  ⟨(Row.of_set f h1).apart hne, Row.of_set g (World.there_setCells h2 b 0 (bl f))⟩
theorem four_Rows {V : World} {b c d e : Nat} (f : Nat → Bool) (h1 : V.there b 0 128) (h2 : V.there c 0 128) (h3 : V.there d 0 128) (h4 : V.there e 0 128) (n1 : b ≠ c) (n2 : b ≠ d) (n3 : b ≠ e) (n4 : c ≠ d) (n5 : c ≠ e) (n6 : d ≠ e) :
    Row ((((V.setCells b 0 (bl f)).setCells c 0 (bl f)).setCells d 0 (bl f)).setCells e 0 (bl f)) b f ∧ Row ((((V.setCells b 0 (bl f)).setCells c 0 (bl f)).setCells d 0 (bl f)).setCells e 0 (bl f)) c f ∧
    Row ((((V.setCells b 0 (bl f)).setCells c 0 (bl f)).setCells d 0 (bl f)).setCells e 0 (bl f)) d f ∧ Row ((((V.setCells b 0 (bl f)).setCells c 0 (bl f)).setCells d 0 (bl f)).setCells e 0 (bl f)) e f :=
  ⟨(((Row.of_set f h1).apart n1).apart n2).apart n3, ((Row.of_set f (World.there_setCells h2 _ _ _)).apart n4).apart n5, (Row.of_set f (World.there_setCells (World.there_setCells h3 _ _ _) _ _ _)).apart n6, Row.of_set f (World.there_setCells (World.there_setCells (World.there_setCells h4 _ _ _) _ _ _) _ _ _)⟩
end Go.Proofs.Hd

namespace Go.Proofs
open Go.RowKit Go.Proofs.Hd
attribute [local go_sem] uv_nonneg
/-- The bits from bit 128 - k on. -/
def upB (f : Nat → Bool) (k : Nat) : Nat → Bool := fun j => decide (128 ≤ j + k) && f j
theorem upB_zero (f : Nat → Bool) : bl (fun _ => false) = bl (upB f 0) := bl_congr fun j hj => by simp [upB]; omega
theorem upB_put (f : Nat → Bool) (k m : Nat) (hm : m + k = 127) (x : Bool) (hx : f m = x) : (bl (upB f k)).set m (.bool x) = bl (upB f (k + 1)) := by
  subst hx
  rw [bl_set]
  apply bl_congr
  intro j hj
  unfold upB
  by_cases e : j = m
  · subst e; rw [if_pos rfl]; simp; omega
  · rw [if_neg e]
    have : (128 ≤ j + (k + 1)) ↔ (128 ≤ j + k) := by omega
    simp [this]
theorem upB_num (h l : BitVec 64) : num (upB (hbit h l) 128) 64 64 = h ∧ num (upB (hbit h l) 128) 0 64 = l := num_of_bits fun j hj => by simp [upB]
theorem zfar {w : World} {r : Nat} {p : Addr} {v : Value} (h : Zero4 w r) (hp : p.block ≠ r) : Zero4 (w.setCell p v) r := fun i hi =>
  ⟨(World.cell?_setCell_far w p ⟨r, i, none⟩ v hp).trans (h i hi).1, by rw [World.frozen?_setCell]; exact (h i hi).2⟩
theorem zcells {w : World} {r b : Nat} {vs : List Value} (h : Zero4 w r) (hp : r < b) : Zero4 (w.setCells b 0 vs) r := by
  have hb : Below b w (w.setCells b 0 vs) := Below.setCells vs 0 w (Below.refl _ _) (Nat.le_refl _)
  exact fun i hi => ⟨(hb.cell (p := ⟨r, i, none⟩) hp).trans (h i hi).1, (hb.frozen (p := ⟨r, i, none⟩) hp).trans (h i hi).2⟩

theorem range_apart4 {b r : Nat} {f : Nat → Bool} {w : World} {a0 a1 a2 a3 : Value} (h : w.rangeAt b 0 (bl f)) (hne : r ≠ b) : ((((w.setCell ⟨r, 0, none⟩ a0).setCell ⟨r, 1, none⟩ a1).setCell ⟨r, 2, none⟩ a2).setCell ⟨r, 3, none⟩ a3).rangeAt b 0 (bl f) := by
  intro j v hv
  rw [World.cell?_setCell_far _ _ _ _ hne, World.cell?_setCell_far _ _ _ _ hne, World.cell?_setCell_far _ _ _ _ hne, World.cell?_setCell_far _ _ _ _ hne]
  exact h j v hv
theorem range_on {b : Nat} {f : Nat → Bool} {w w' : World} (hb : Below w.heap.size w w') (h : w.rangeAt b 0 (bl f)) : w'.rangeAt b 0 (bl f) := range_below hb h (World.block_lt_of_cell? w ⟨b, 0, none⟩ (range_cell h (by omega : 0 < 128)))
end Go.Proofs

namespace Go.Proofs
open Go.RowKit Go.Proofs.Hd
attribute [local go_sem] uv_nonneg eq4_self eq2_self
attribute [local go_sem high] run_eq2 run_eq4
theorem cless_no (a b : Cb) (w : World) (h : a.snd = false ∨ (a.snd = true ∧ b.snd = false)) : Calls Tryz.prog 109 #[.agg #[.int .u64 (uv a.vh), .int .u64 (uv a.vl), .int .u64 (uv a.ch), .int .u64 (uv a.cl)], .agg #[.int .u64 (uv b.vh), .int .u64 (uv b.vl), .int .u64 (uv b.ch), .int .u64 (uv b.cl)]] w fun e w' => e = .returned (.slice none 0 0) ∧ Below w.heap.size w w' := by
  rcases h with h | ⟨h1, h2⟩
  · exact less_no1 a b w h
  · exact less_no2 a b w h1 h2
theorem met_no {a b : Cb} (h : a.snd = false ∨ (a.snd = true ∧ b.snd = false)) : a.met b = false := by
  unfold Cb.met metB
  show (a.snd && (b.snd && a.agr b)) = false
  rcases h with h | ⟨h1, h2⟩
  · rw [h]; rfl
  · rw [h1, h2]; rfl
theorem wit_no {a b : Cb} (h : a.snd = false ∨ (a.snd = true ∧ b.snd = false)) : a.wit b = false := by
  cases e : a.wit b with
  | false => rfl
  | true =>
    have := (Cb.wit_iff a b).1 e
    rcases h with h | ⟨h1, h2⟩
    · rw [h] at this; cases this.1
    · rw [h2] at this; cases this.2.1
theorem rwithin_is (x : Bool) (s t : ByteArray) (a b : Cb) (w : World) (ha : a.snd = true) (hb : b.snd = true) (hs : txt a = s) (ht : txt b = t) (hx : a.wit b = x) :
    Calls Tryz.prog 37 #[.string s, .string t] w fun e w' => e = .returned (.bool x) ∧ Below w.heap.size w w' := by
  subst hx; exact rwithin_s s t a b w ha hb hs ht
theorem rmeet_t (s t r : ByteArray) (a b : Cb) (w : World) (ha : a.snd = true) (hb : b.snd = true) (hs : txt a = s) (ht : txt b = t) (hx : a.agr b = true) (hr : txt (a.join b) = r) :
    Calls Tryz.prog 38 #[.string s, .string t] w fun e w' => e = .returned (.tuple #[.string r, .bool true]) ∧ Below w.heap.size w w' :=
  rmeet_s s t a b w ha hb hs ht true r hx (Lib.hid fun _ => hr.symm) (Lib.hid fun h => by cases h)
theorem rmeet_f (s t : ByteArray) (a b : Cb) (w : World) (ha : a.snd = true) (hb : b.snd = true) (hs : txt a = s) (ht : txt b = t) (hx : a.agr b = false) :
    Calls Tryz.prog 38 #[.string s, .string t] w fun e w' => e = .returned (.tuple #[.string ⟨#[]⟩, .bool false]) ∧ Below w.heap.size w w' :=
  rmeet_s s t a b w ha hb hs ht false _ hx (Lib.hid fun h => by cases h) (Lib.hid fun _ => rfl)
theorem join_snd {a b : Cb} (ha : a.snd = true) (hb : b.snd = true) : (a.join b).snd = true := by
  rw [Cb.snd_iff] at *
  intro j hj h
  have jv : (a.join b).V j = (a.V j || b.V j) := by unfold Cb.V Cb.join; rw [hbit_or]
  have jk : (a.join b).K j = (a.K j || b.K j) := by unfold Cb.K Cb.join; rw [hbit_or]
  rw [jv] at h
  rw [jk]
  have h1 := ha j hj
  have h2 := hb j hj
  revert h h1 h2
  cases a.V j <;> cases b.V j <;> cases a.K j <;> cases b.K j <;> simp
end Go.Proofs

namespace Go.Proofs.Hd
open Go.RowKit
/-- The differences of each cube of L and g. -/
def offL (L : List Cb) (g : Cb) : List Cb := L.flatMap fun c => lessC c g
theorem offL_take {L : List Cb} {g : Cb} {k : Nat} {c : Cb} (h : L[k]? = some c) : offL (L.take (k + 1)) g = offL (L.take k) g ++ lessC c g := by
  obtain ⟨hk, rfl⟩ := List.getElem?_eq_some_iff.1 h
  unfold offL
  rw [List.take_succ_eq_append_getElem hk, List.flatMap_append]
  simp
theorem offL_len (L : List Cb) (g : Cb) : (offL L g).length ≤ L.length * 128 := by
  unfold offL
  induction L with
  | nil => simp
  | cons c L ih =>
    rw [List.flatMap_cons, List.length_append]
    have := lessC_le c g
    simp only [List.length_cons]
    omega
theorem offL_le (L : List Cb) (g : Cb) (k : Nat) : (offL (L.take k) g).length ≤ (offL L g).length := by
  have h : offL L g = offL (L.take k) g ++ offL (L.drop k) g := by unfold offL; rw [← List.flatMap_append, List.take_append_drop]
  rw [h, List.length_append]; omega
theorem offL_snd {L : List Cb} {g : Cb} (hL : ∀ c ∈ L, c.snd = true) : ∀ c ∈ offL L g, c.snd = true := by
  intro c hc
  unfold offL at hc
  obtain ⟨d, hd, hcd⟩ := List.mem_flatMap.1 hc
  exact ((Cb.wit_iff _ _).1 (lessC_wit (hL d hd) c hcd)).1
theorem flat_append (A B : List Cb) : flat (A ++ B) = flat A ++ flat B := by simp [flat]
end Go.Proofs.Hd
namespace Go.Proofs
open Go.RowKit Go.Proofs.Hd Go.Lib
attribute [local go_sem] uv_nonneg
set_option maxHeartbeats 1000000 in
set_option maxRecDepth 100000 in
theorem without_c (v : Value) (L : List Cb) (g : Cb) (w : World) (hl : L.length ≤ 4000) (hL : ∀ c ∈ L, c.snd = true) (hg : g.snd = true) (hv : Pl w v L) :
    Calls Tryz.prog 88 #[v, .agg #[.int .u64 (uv g.vh), .int .u64 (uv g.vl), .int .u64 (uv g.ch), .int .u64 (uv g.cl)]] w (Got w (offL L g)) := by
  obtain ⟨ic, hic, hcz0, hcz1, hcz2⟩ := info_parts infoCube
  obtain ⟨A, cap, rfl, _, hA⟩ := hv.form
  have hlz : (L.length : Int) ≤ 4000 := by omega
  have HA := Lib.hid hA
  have HL := Lib.hid hL
  have hb0 := below1 w (.cells #[.int .u64 (uv g.vh), .int .u64 (uv g.vl), .int .u64 (uv g.ch), .int .u64 (uv g.cl)] 53)
  have X0 : Blk (w.alloc (.cells #[.int .u64 (uv g.vh), .int .u64 (uv g.vl), .int .u64 (uv g.ch), .int .u64 (uv g.cl)] 53)) w.heap.size 53 g.arr := Blk.new w _ _
  have HX := Lib.hid X0
  have HB := Lib.hid hb0
  have hTot := offL_len L g
  clear hv hA hL X0 hb0
  go_enter Tryz.func88, Tryz.ntmps88
  go_wp2
  go_loopg [5, 10] L.length (fun gk s5 s10 wr => ∃ k : Nat, k ≤ L.length ∧ gk = L.length - k ∧ s10 = .int .i64 k ∧ Below w.heap.size w wr ∧ Blk wr w.heap.size 53 g.arr ∧ wr.ownsRow (w.heap.size + 1) 53 4 s5 (offL (L.take k) g).length (flat (offL (L.take k) g)))
  case atStart => exact ⟨0, Nat.zero_le _, rfl, rfl, HB.out, HX.out, by simp [offL, flat]; exact World.ownsRow_nil _ _ _ _⟩
  case round =>
    clear HX HB
    obtain ⟨k, hk, rfl, rfl, B, X, O⟩ := hrel
    by_cases hlt : k < L.length
    · have hltz : (k : Int) < (L.length : Int) := by omega
      obtain ⟨c, hc⟩ : ∃ c, L[k]? = some c := ⟨_, List.getElem?_eq_getElem hlt⟩
      obtain ⟨b, off, rfl, hb, hpc⟩ := HA.out (ne_nil_of hc)
      have hcs := HL.out c (List.mem_of_getElem? hc)
      obtain ⟨c0, c1, c2, c3⟩ := (hpc k c hc).on B
      have HT := Lib.hid (offL_take (g := g) hc)
      have hle1 := offL_le L g k
      have hle2 := offL_le L g (k + 1)
      have hle3 : (offL (L.take k) g).length + (lessC c g).length ≤ (offL L g).length := by rw [HT.out, List.length_append] at hle2; exact hle2
      have hb1 := below1 wr (.cells #[.int .u64 (uv c.vh), .int .u64 (uv c.vl), .int .u64 (uv c.ch), .int .u64 (uv c.cl)] 53)
      have N1 : Blk (wr.alloc (.cells #[.int .u64 (uv c.vh), .int .u64 (uv c.vl), .int .u64 (uv c.ch), .int .u64 (uv c.cl)] 53)) wr.heap.size 53 c.arr := Blk.new wr _ _
      have B1 := B.trans (hb1.mono B.size)
      have O1 := own_on O hb1
      have X1 := X.on hb1
      obtain ⟨x0, x1, x2, x3⟩ := Blk.four X1
      have hbase : w.heap.size + 1 ≤ wr.heap.size := X.lt
      clear hc hpc B O X hb1 hle1 hle2
      go_wp2_with fail
      (with_reducible refine (cless_q c g _ _ hcs hg rfl).mono ?_)
      rintro e w2 ⟨v2, rfl, O2, hb2⟩
      have B2 := B1.trans (hb2.mono B1.size)
      have O3 := own_on O1 hb2
      have X3 := X1.on hb2
      have S2 := (own_Pl O2).src
      have hz2 := hb2.size
      have hz3 : w.heap.size + 1 ≤ w2.heap.size := X3.lt
      clear B1 O1 X1 hb2 O2 N1
      go_wp2_with (at_builtin; refine wpList_app _ rfl (.tmp 14) (.tmp 17) 22 rfl (w.heap.size + 1) 53 ic _ 4 32 Tryz.underlying22 hic hcz0 hcz1 hcz2 rfl (by decide) _ _ _ rfl O3 _ (lessC c g).length (flat (lessC c g)) rfl S2 (by unfold maxLen; omega) (by omega) hz3 ?_)
      intro v4 w4 O4 hg4
      have B4 := B2.grown hg4 B2.size (fun j hj => by have := (O3.lt j hj).1; omega)
      have X4 := X3.grown hg4 (own_base O3 (by omega))
      clear B2 O3 X3 S2 hg4
      go_wp2
      go_roundg (L.length - (k + 1))
      case measure => omega
      case rel => exact ⟨k + 1, by omega, rfl, by go_num, B4, X4, by rw [HT.out, flat_append, List.length_append]; exact O4⟩
    · have hltz : ¬ (k : Int) < (L.length : Int) := by omega
      obtain rfl : k = L.length := by omega
      rw [List.take_length] at O
      go_wp2
      go_ret
      exact ⟨_, rfl, O.mono (by omega), B⟩
end Go.Proofs

namespace Go.Proofs.Hd
open Go.RowKit
/-- A list of cubes and no error were returned, in memory of the call's own. -/
def Got2 (w : World) (L : List Cb) (e : Ending) (w' : World) : Prop := ∃ v, e = .returned (.tuple #[v, .int .i64 0]) ∧ w'.ownsRow w.heap.size 53 4 v L.length (flat L) ∧ Below w.heap.size w w'
/-- No list and an error were returned. -/
def Err2 (w : World) (k : Int) (e : Ending) (w' : World) : Prop := e = .returned (.tuple #[.slice none 0 0, .int .i64 k]) ∧ Below w.heap.size w w'
/-- Either. -/
def Opt2 (w : World) (o : Option (List Cb)) (e : Ending) (w' : World) : Prop := (∀ R, o = some R → Got2 w R e w') ∧ (o = none → Err2 w 10 e w')
def capL (L : List Cb) : Option (List Cb) := if L.length ≤ 200 then some L else none
theorem Opt2.yes {w w' : World} {L : List Cb} {e : Ending} (hl : L.length ≤ 200) (h : Got2 w L e w') : Opt2 w (capL L) e w' := ⟨fun R hR => by unfold capL at hR; rw [if_pos hl] at hR; injection hR with hR; subst hR; exact h, fun hn => by unfold capL at hn; rw [if_pos hl] at hn; cases hn⟩
theorem Opt2.no {w w' : World} {L : List Cb} {e : Ending} (hl : 200 < L.length) (h : Err2 w 10 e w') : Opt2 w (capL L) e w' := ⟨(fun R hR => by unfold capL at hR; rw [if_neg (by omega)] at hR; cases hR), fun _ => h⟩
theorem sndL_len {L : List Cb} (h : sndL L = true) : L.length ≤ 200 := by
  unfold sndL at h
  simp only [Bool.and_eq_true, decide_eq_true_eq] at h
  exact h.1
theorem sndL_all {L : List Cb} (h : sndL L = true) : ∀ c ∈ L, c.snd = true := by
  unfold sndL at h
  simp only [Bool.and_eq_true, List.all_eq_true] at h
  exact h.2
theorem leanS_snd (L : List Cb) : ∀ c ∈ leanS L, c.snd = true := fun c hc => by
  obtain ⟨i, _, hs, _⟩ := leanS_mem.1 hc
  exact hs
/-- What is left of A when the cubes of B are taken off, one after another; none: too many. -/
def lessL (A : List Cb) : List Cb → Option (List Cb)
  | [] => some A
  | g :: B => if (leanS (offL A g)).length ≤ 200 then lessL (leanS (offL A g)) B else none
theorem lessL_drop {A B : List Cb} {g : Cb} {k : Nat} (h : B[k]? = some g) : lessL A (B.drop k) = if (leanS (offL A g)).length ≤ 200 then lessL (leanS (offL A g)) (B.drop (k + 1)) else none := by
  obtain ⟨hk, rfl⟩ := List.getElem?_eq_some_iff.1 h
  rw [List.drop_eq_getElem_cons hk, lessL]
/-- What the loop of pile.Less knows. -/
def LeftIs (A B : List Cb) (k : Nat) (cur : List Cb) : Prop := cur.length ≤ 200 ∧ (∀ c ∈ cur, c.snd = true) ∧ lessL A B = lessL cur (B.drop k)
end Go.Proofs.Hd
namespace Go.Proofs
open Go.RowKit Go.Proofs.Hd Go.Lib
attribute [local go_sem] uv_nonneg
section
variable (a b : Value) (A B : List Cb) (w : World) (ha : Pl w a A) (hb : Pl w b B)
include ha hb
set_option maxHeartbeats 1000000
set_option maxRecDepth 100000
theorem pjoin_bad (h : (sndL A && sndL B) = false) : Calls Tryz.prog 47 #[a, b] w (Err2 w 2) := by
  cases h1 : sndL A with
  | false =>
    have hcon := psound_c false a A w h1 ha
    clear h h1
    go_enter Tryz.func47, Tryz.ntmps47
    go_wp2_with (go_at_call 57; refine hcon.mono ?_; rintro e w' ⟨rfl, hb'⟩)
    go_ret2
    exact ⟨rfl, hb'⟩
  | true =>
    have h2 : sndL B = false := by rw [h1] at h; exact h
    have hcon := psound_c true a A w h1 ha
    have hcon2 := fun w1 (hb1 : Below w.heap.size w w1) => psound_c false b B w1 h2 (hb.on hb1)
    clear h h1 h2
    go_enter Tryz.func47, Tryz.ntmps47
    go_wp2_with fail
    refine hcon.mono ?_
    rintro e w1 ⟨rfl, hb1⟩
    have hcon3 := hcon2 w1 hb1
    clear hcon hcon2
    go_wp2_with fail
    refine hcon3.mono ?_
    rintro e w2 ⟨rfl, hb2⟩
    have B2 := hb1.trans (hb2.mono hb1.size)
    clear hcon3 hb1 hb2
    go_wp2
    go_ret2
    exact ⟨rfl, B2⟩
theorem pjoin_any (h1 : sndL A = true) (h2 : sndL B = true) : Calls Tryz.prog 47 #[a, b] w (Opt2 w (capL (leanS (A ++ B)))) := by
  have hcon := psound_c true a A w h1 ha
  have hcon2 := fun w1 (hb1 : Below w.heap.size w w1) => psound_c true b B w1 h2 (hb.on hb1)
  have hA := sndL_len h1
  have hB := sndL_len h2
  obtain ⟨A1, c1, rfl, _, _⟩ := ha.form
  obtain ⟨A2, c2, rfl, _, _⟩ := hb.form
  have HA := Lib.hid ha
  have HB := Lib.hid hb
  clear ha hb h1 h2
  go_enter Tryz.func47, Tryz.ntmps47
  go_wp2_with fail
  refine hcon.mono ?_
  rintro e w1 ⟨rfl, hb1⟩
  have hcon3 := hcon2 w1 hb1
  clear hcon hcon2
  go_wp2_with fail
  refine hcon3.mono ?_
  rintro e w2 ⟨rfl, hb2⟩
  have B2 := hb1.trans (hb2.mono hb1.size)
  clear hcon3 hb1 hb2
  have hb3 := below1 w2 (.cells #[.slice A1 A.length c1, .slice A2 B.length c2] 22)
  have N3 : Blk (w2.alloc (.cells #[.slice A1 A.length c1, .slice A2 B.length c2] 22)) w2.heap.size 22 #[.slice A1 A.length c1, .slice A2 B.length c2] := Blk.new w2 _ _
  have B3 := B2.trans (hb3.mono B2.size)
  have hcat := concat_c _ _ A B w2.heap.size _ (by omega) (by omega) (HA.out.on B3) (HB.out.on B3) ⟨N3.cell 0, N3.cell 1⟩
  clear hb3 N3 B2
  go_wp2_with fail
  refine hcat.mono ?_
  rintro e w4 ⟨v4, rfl, O4, hb4⟩
  have B4 := B3.trans (hb4.mono B3.size)
  have hup := leanUp_c 200 v4 (A ++ B) w4 (by rw [List.length_append]; omega) (by omega) (own_Pl O4)
  clear hcat B3 hb4 O4
  go_wp2_with fail
  refine hup.mono ?_
  rintro e w5 ⟨hb5, h⟩
  have B5 := B4.trans (hb5.mono B4.size)
  have hz := B4.size
  clear hup B4 hb5
  rcases h with ⟨hle, s, rfl, O5⟩ | ⟨hgt, rfl⟩
  · have HL := Lib.hid hle
    clear hle
    go_wp2
    go_ret2
    exact Opt2.yes HL.out ⟨_, rfl, O5.mono hz, B5⟩
  · have HL := Lib.hid hgt
    clear hgt
    go_wp2
    go_ret2
    exact Opt2.no HL.out ⟨rfl, B5⟩
theorem pless_bad (h : (sndL A && sndL B) = false) : Calls Tryz.prog 73 #[a, b] w (Err2 w 2) := by
  cases h1 : sndL A with
  | false =>
    have hcon := psound_c false a A w h1 ha
    clear h h1
    go_enter Tryz.func73, Tryz.ntmps73
    go_wp2_with (go_at_call 57; refine hcon.mono ?_; rintro e w' ⟨rfl, hb'⟩)
    go_ret2
    exact ⟨rfl, hb'⟩
  | true =>
    have h2 : sndL B = false := by rw [h1] at h; exact h
    have hcon := psound_c true a A w h1 ha
    have hcon2 := fun w1 (hb1 : Below w.heap.size w w1) => psound_c false b B w1 h2 (hb.on hb1)
    clear h h1 h2
    go_enter Tryz.func73, Tryz.ntmps73
    go_wp2_with fail
    refine hcon.mono ?_
    rintro e w1 ⟨rfl, hb1⟩
    have hcon3 := hcon2 w1 hb1
    clear hcon hcon2
    go_wp2_with fail
    refine hcon3.mono ?_
    rintro e w2 ⟨rfl, hb2⟩
    have B2 := hb1.trans (hb2.mono hb1.size)
    clear hcon3 hb1 hb2
    go_wp2
    go_ret2
    exact ⟨rfl, B2⟩
theorem pless_any (h1 : sndL A = true) (h2 : sndL B = true) : Calls Tryz.prog 73 #[a, b] w (Opt2 w (lessL A B)) := by
  have hcon := psound_c true a A w h1 ha
  have hcon2 := fun w1 (hb1 : Below w.heap.size w w1) => psound_c true b B w1 h2 (hb.on hb1)
  have hA := sndL_len h1
  have hB := sndL_len h2
  have HSA := Lib.hid (sndL_all h1)
  have HSB := Lib.hid (sndL_all h2)
  obtain ⟨A1, c1, rfl, _, _⟩ := ha.form
  obtain ⟨A2, c2, rfl, _, hF⟩ := hb.form
  have HA := Lib.hid ha
  have HB := Lib.hid hF
  have hBz : (B.length : Int) ≤ 200 := by omega
  clear ha hb h1 h2 hF
  go_enter Tryz.func73, Tryz.ntmps73
  go_wp2_with fail
  refine hcon.mono ?_
  rintro e w1 ⟨rfl, hb1⟩
  have hcon3 := hcon2 w1 hb1
  clear hcon hcon2
  go_wp2_with fail
  refine hcon3.mono ?_
  rintro e w2 ⟨rfl, hb2⟩
  have B2 := hb1.trans (hb2.mono hb1.size)
  have hcl := clone_c _ A w2 (by omega) (HA.out.on B2)
  clear hcon3 hb1 hb2
  go_wp2_with fail
  refine hcl.mono ?_
  rintro e w3 ⟨v3, rfl, O3, hb3⟩
  have B3 := B2.trans (hb3.mono B2.size)
  have HO : Hid (w3.ownsRow w.heap.size 53 4 v3 A.length (flat A)) := O3.mono B2.size
  have HB3 := Lib.hid B3
  clear hcl hb3 B2 O3 B3
  go_wp2
  go_loopg [6, 22] B.length (fun gk s6 s22 wr => ∃ k : Nat, k ≤ B.length ∧ gk = B.length - k ∧ s22 = .int .i64 k ∧ ∃ cur, Hid (LeftIs A B k cur) ∧ Below w.heap.size w wr ∧ wr.ownsRow w.heap.size 53 4 s6 cur.length (flat cur))
  case atStart => exact ⟨0, Nat.zero_le _, rfl, rfl, A, ⟨hA, HSA.out, rfl⟩, HB3.out, HO.out⟩
  case round =>
    clear HO HB3
    obtain ⟨k, hk, rfl, rfl, cur, HL, W, O⟩ := hrel
    by_cases hlt : k < B.length
    · have hltz : (k : Int) < (B.length : Int) := by omega
      obtain ⟨c, hc⟩ : ∃ c, B[k]? = some c := ⟨_, List.getElem?_eq_getElem hlt⟩
      obtain ⟨bb, off, rfl, hbb, hpc⟩ := HB.out (ne_nil_of hc)
      have hcs := HSB.out c (List.mem_of_getElem? hc)
      obtain ⟨c0, c1, c2, c3⟩ := (hpc k c hc).on W
      have HT := Lib.hid (lessL_drop (A := cur) hc)
      have hb1 := below1 wr (.cells #[.int .u64 (uv c.vh), .int .u64 (uv c.vl), .int .u64 (uv c.ch), .int .u64 (uv c.cl)] 53)
      have W1 := W.trans (hb1.mono W.size)
      have O1 := own_on O hb1
      have hwo := without_c _ cur c _ (by have := HL.out.1; omega) HL.out.2.1 hcs (own_Pl O1)
      clear hc hpc W O hb1
      go_wp2_with fail
      refine hwo.mono ?_
      rintro e w2 ⟨v2, rfl, O2, hb2⟩
      have W2 := W1.trans (hb2.mono W1.size)
      have hup := leanUp_c 200 v2 (offL cur c) w2 (by have := offL_len cur c; have := HL.out.1; omega) (by omega) (own_Pl O2)
      clear hwo W1 O1 hb2 O2 c0 c1 c2 c3
      go_wp2_with fail
      refine hup.mono ?_
      rintro e w3 ⟨hb3, h⟩
      have W3 := W2.trans (hb3.mono W2.size)
      have hz := W2.size
      clear hup W2 hb3
      rcases h with ⟨hle, s, rfl, O3⟩ | ⟨hgt, rfl⟩
      · have HN : Hid (LeftIs A B (k + 1) (leanS (offL cur c))) := ⟨hle, leanS_snd _, by rw [HL.out.2.2, HT.out, if_pos hle]⟩
        have O4 := O3.mono hz
        clear hle O3 HT HL
        go_wp2
        go_roundg (B.length - (k + 1))
        case measure => omega
        case rel => exact ⟨k + 1, by omega, rfl, by go_num, _, HN, W3, O4⟩
      · have HN : Hid (lessL A B = none) := by show _ = _; rw [HL.out.2.2, HT.out, if_neg (by omega)]
        clear hgt HT HL
        go_wp2
        go_ret2
        exact ⟨(fun R hR => by rw [HN.out] at hR; cases hR), fun _ => ⟨rfl, W3⟩⟩
    · have hltz : ¬ (k : Int) < (B.length : Int) := by omega
      obtain rfl : k = B.length := by omega
      have HN : Hid (lessL A B = some cur) := by show _ = _; rw [HL.out.2.2, List.drop_length, lessL]
      clear HL
      go_wp2
      go_ret2
      exact ⟨fun R hR => by rw [HN.out] at hR; injection hR with hR; subst hR; exact ⟨_, rfl, O, W⟩, fun hn => by rw [HN.out] at hn; cases hn⟩
end
end Go.Proofs

namespace Go.Proofs.Hd
open Go.RowKit
def met1 (x y : Cb) : Option Cb := if x.met y = true then some (x.join y) else none
def metR (x : Cb) (B : List Cb) : List Cb := B.filterMap (met1 x)
/-- The intersections of each cube of A with each of B. -/
def metL (A B : List Cb) : List Cb := A.flatMap fun x => metR x B
theorem metR_take {x : Cb} {B : List Cb} {k : Nat} {y : Cb} (h : B[k]? = some y) : metR x (B.take (k + 1)) = metR x (B.take k) ++ (if x.met y = true then [x.join y] else []) := by
  obtain ⟨hk, rfl⟩ := List.getElem?_eq_some_iff.1 h
  unfold metR
  rw [List.take_succ_eq_append_getElem hk, List.filterMap_append]
  congr 1
  by_cases h : x.met B[k] = true
  · rw [if_pos h, List.filterMap_cons_some (b := x.join B[k]) (by unfold met1; rw [if_pos h])]; rfl
  · rw [if_neg h, List.filterMap_cons_none (by unfold met1; rw [if_neg h])]; rfl
theorem metL_take {A B : List Cb} {k : Nat} {x : Cb} (h : A[k]? = some x) : metL (A.take (k + 1)) B = metL (A.take k) B ++ metR x B := by
  obtain ⟨hk, rfl⟩ := List.getElem?_eq_some_iff.1 h
  unfold metL
  rw [List.take_succ_eq_append_getElem hk, List.flatMap_append]
  simp
theorem metR_len (x : Cb) (B : List Cb) (k : Nat) : (metR x (B.take k)).length ≤ k := by
  unfold metR
  exact Nat.le_trans (List.length_filterMap_le _ _) (by simp; omega)
theorem metL_len (A B : List Cb) (k : Nat) : (metL (A.take k) B).length ≤ k * B.length := by
  unfold metL
  have h : ∀ L : List Cb, (L.flatMap fun x => metR x B).length ≤ L.length * B.length := by
    intro L
    induction L with
    | nil => simp
    | cons c L ih =>
      rw [List.flatMap_cons, List.length_append]
      have : (metR c B).length ≤ B.length := List.length_filterMap_le _ _
      simp only [List.length_cons, Nat.succ_mul]
      omega
  refine Nat.le_trans (h _) (Nat.mul_le_mul_right _ (by simp; omega))
end Go.Proofs.Hd
namespace Go.Proofs
open Go.RowKit Go.Proofs.Hd Go.Lib
attribute [local go_sem] uv_nonneg
section
variable (a b : Value) (A B : List Cb) (w : World) (ha : Pl w a A) (hb : Pl w b B)
include ha hb
set_option maxHeartbeats 2000000
set_option maxRecDepth 100000
theorem pmeet_bad (h : (sndL A && sndL B) = false) : Calls Tryz.prog 72 #[a, b] w (Err2 w 2) := by
  cases h1 : sndL A with
  | false =>
    have hcon := psound_c false a A w h1 ha
    clear h h1
    go_enter Tryz.func72, Tryz.ntmps72
    go_wp2_with (go_at_call 57; refine hcon.mono ?_; rintro e w' ⟨rfl, hb'⟩)
    go_ret2
    exact ⟨rfl, hb'⟩
  | true =>
    have h2 : sndL B = false := by rw [h1] at h; exact h
    have hcon := psound_c true a A w h1 ha
    have hcon2 := fun w1 (hb1 : Below w.heap.size w w1) => psound_c false b B w1 h2 (hb.on hb1)
    clear h h1 h2
    go_enter Tryz.func72, Tryz.ntmps72
    go_wp2_with fail
    refine hcon.mono ?_
    rintro e w1 ⟨rfl, hb1⟩
    have hcon3 := hcon2 w1 hb1
    clear hcon hcon2
    go_wp2_with fail
    refine hcon3.mono ?_
    rintro e w2 ⟨rfl, hb2⟩
    have B2 := hb1.trans (hb2.mono hb1.size)
    clear hcon3 hb1 hb2
    go_wp2
    go_ret2
    exact ⟨rfl, B2⟩
theorem pmeet_any (h1 : sndL A = true) (h2 : sndL B = true) : Calls Tryz.prog 72 #[a, b] w (Opt2 w (capL (leanS (metL A B)))) := by
  obtain ⟨ic, hic, hcz0, hcz1, hcz2⟩ := info_parts infoCube
  have hcon := psound_c true a A w h1 ha
  have hcon2 := fun w1 (hb1 : Below w.heap.size w w1) => psound_c true b B w1 h2 (hb.on hb1)
  have hA := sndL_len h1
  have hB := sndL_len h2
  obtain ⟨A1, c1, rfl, _, hE⟩ := ha.form
  obtain ⟨A2, c2, rfl, _, hF⟩ := hb.form
  have HA := Lib.hid hE
  have HB := Lib.hid hF
  have hAz : (A.length : Int) ≤ 200 := by omega
  have hBz : (B.length : Int) ≤ 200 := by omega
  clear ha hb h1 h2 hF hE
  go_enter Tryz.func72, Tryz.ntmps72
  go_wp2_with fail
  refine hcon.mono ?_
  rintro e w1 ⟨rfl, hb1⟩
  have hcon3 := hcon2 w1 hb1
  clear hcon hcon2
  go_wp2_with fail
  refine hcon3.mono ?_
  rintro e w2 ⟨rfl, hb2⟩
  have HB2 := Lib.hid (hb1.trans (hb2.mono hb1.size))
  clear hcon3 hb1 hb2
  go_wp2
  go_loopg [6, 23] A.length (fun gk s6 s23 wr => ∃ i : Nat, i ≤ A.length ∧ gk = A.length - i ∧ s23 = .int .i64 i ∧ Below w.heap.size w wr ∧ wr.ownsRow w.heap.size 53 4 s6 (metL (A.take i) B).length (flat (metL (A.take i) B)))
  case atStart => exact ⟨0, Nat.zero_le _, rfl, rfl, HB2.out, by simp [metL, flat]; exact World.ownsRow_nil _ _ _ _⟩
  case round =>
    clear HB2
    obtain ⟨i, hi, rfl, rfl, W, O⟩ := hrel
    by_cases hlt : i < A.length
    · have hltz : (i : Int) < (A.length : Int) := by omega
      obtain ⟨x, hx⟩ : ∃ x, A[i]? = some x := ⟨_, List.getElem?_eq_getElem hlt⟩
      obtain ⟨ba, offa, rfl, hba, hpa⟩ := HA.out (ne_nil_of hx)
      obtain ⟨c0, c1, c2, c3⟩ := (hpa i x hx).on W
      have HT := Lib.hid (metL_take (B := B) hx)
      have hb1 := below1 wr (.cells #[.int .u64 (uv x.vh), .int .u64 (uv x.vl), .int .u64 (uv x.ch), .int .u64 (uv x.cl)] 53)
      have X1 : Blk (wr.alloc (.cells #[.int .u64 (uv x.vh), .int .u64 (uv x.vl), .int .u64 (uv x.ch), .int .u64 (uv x.cl)] 53)) wr.heap.size 53 x.arr := Blk.new wr _ _
      have W1 := W.trans (hb1.mono W.size)
      have O1 := own_on O hb1
      have hlen := metL_len A B i
      have hlen2 : i * B.length ≤ 200 * 200 := Nat.mul_le_mul (by omega) hB
      have hge : w.heap.size ≤ wr.heap.size := W.size
      clear hx hpa
      have hap : some wr.heap.size ≠ u6.ownBlock := fun he => by have := (O.lt _ he.symm).2; omega
      clear O W hb1
      go_wp2_with fail
      generalize (wr.alloc (.cells #[.int .u64 (uv x.vh), .int .u64 (uv x.vl), .int .u64 (uv x.ch), .int .u64 (uv x.cl)] 53)) = wx at X1 W1 O1 ⊢
      generalize wr.heap.size = gx at X1 hge hap ⊢
      go_loopg [6, 29] B.length (fun gk s6 s29 wy => ∃ k : Nat, k ≤ B.length ∧ gk = B.length - k ∧ s29 = .int .i64 k ∧ Below w.heap.size w wy ∧ Blk wy gx 53 x.arr ∧ some gx ≠ s6.ownBlock ∧ wy.ownsRow w.heap.size 53 4 s6 (metL (A.take i) B ++ metR x (B.take k)).length (flat (metL (A.take i) B ++ metR x (B.take k))))
      case atStart => exact ⟨0, Nat.zero_le _, rfl, rfl, W1, X1, hap, by simp [metR]; exact O1⟩
      case round =>
        clear W1 X1 O1 hap c0 c1 c2 c3
        obtain ⟨k, hk, rfl, rfl, W, X, hap, O⟩ := hrel
        have hlk := metR_len x B k
        by_cases hlt2 : k < B.length
        · have hltz2 : (k : Int) < (B.length : Int) := by omega
          obtain ⟨y, hy⟩ : ∃ y, B[k]? = some y := ⟨_, List.getElem?_eq_getElem hlt2⟩
          obtain ⟨bb, offb, rfl, hbb, hpb⟩ := HB.out (ne_nil_of hy)
          obtain ⟨c0, c1, c2, c3⟩ := (hpb k y hy).on W
          have HM := Lib.hid (metR_take (x := x) hy)
          have hb1 := below1 wr (.cells #[.int .u64 (uv y.vh), .int .u64 (uv y.vl), .int .u64 (uv y.ch), .int .u64 (uv y.cl)] 53)
          have W1 := W.trans (hb1.mono W.size)
          have O1 := own_on O hb1
          have X1 := X.on hb1
          have hgx := X.lt
          obtain ⟨x0, x1, x2, x3⟩ := Blk.four X1
          clear hy hpb W O X hb1
          cases hm : x.met y with
          | false =>
            have HN : Hid (metR x (B.take (k + 1)) = metR x (B.take k)) := by show _ = _; rw [HM.out, hm]; simp
            go_wp2_with fail
            (with_reducible refine (cmeet_f x y _ hm).mono ?_)
            rintro e w2 ⟨rfl, hb2⟩
            have hb3 := hb2.trans ((below1 w2 (.cells #[.int .u64 0, .int .u64 0, .int .u64 0, .int .u64 0] 53)).mono hb2.size)
            have W3 := W1.trans (hb3.mono W1.size)
            have O3 := own_on O1 hb3
            have X3 := X1.on hb3
            clear W1 O1 X1 hb2 hb3 x0 x1 x2 x3 c0 c1 c2 c3 HM
            go_wp2
            go_roundg (B.length - (k + 1))
            case measure => omega
            case rel => exact ⟨k + 1, by omega, rfl, by go_num, W3, X3, hap, by rw [HN.out]; exact O3⟩
          | true =>
            have HN : Hid (metR x (B.take (k + 1)) = metR x (B.take k) ++ [x.join y]) := by show _ = _; rw [HM.out, hm]; simp
            go_wp2_with fail
            (with_reducible refine (cmeet_t x y _ hm).mono ?_)
            rintro e w2 ⟨rfl, hb2⟩
            have hb3 := hb2.trans ((below1 w2 (.cells #[.int .u64 (uv (x.vh ||| y.vh)), .int .u64 (uv (x.vl ||| y.vl)), .int .u64 (uv (x.ch ||| y.ch)), .int .u64 (uv (x.cl ||| y.cl))] 53)).mono hb2.size)
            have W3 := W1.trans (hb3.mono W1.size)
            have O3 := own_on O1 hb3
            have X3 := X1.on hb3
            have R3 : Blk (w2.alloc (.cells #[.int .u64 (uv (x.vh ||| y.vh)), .int .u64 (uv (x.vl ||| y.vl)), .int .u64 (uv (x.ch ||| y.ch)), .int .u64 (uv (x.cl ||| y.cl))] 53)) w2.heap.size 53 #[.int .u64 (uv (x.vh ||| y.vh)), .int .u64 (uv (x.vl ||| y.vl)), .int .u64 (uv (x.ch ||| y.ch)), .int .u64 (uv (x.cl ||| y.cl))] := Blk.new w2 _ _
            clear W1 O1 X1 hb2 hb3 x0 x1 x2 x3 c0 c1 c2 c3 HM
            go_upto_region 12 with (fail)
            generalize (w2.alloc (.cells #[.int .u64 (uv (x.vh ||| y.vh)), .int .u64 (uv (x.vl ||| y.vl)), .int .u64 (uv (x.ch ||| y.ch)), .int .u64 (uv (x.cl ||| y.cl))] 53)) = w3 at W3 O3 X3 R3 ⊢
            have r3 := Blk.four R3
            have hb4 := below1 w3 (.cells #[.int .u64 (uv (x.vh ||| y.vh)), .int .u64 (uv (x.vl ||| y.vl)), .int .u64 (uv (x.ch ||| y.ch)), .int .u64 (uv (x.cl ||| y.cl))] 53)
            have N4 : Blk (w3.alloc (.cells #[.int .u64 (uv (x.vh ||| y.vh)), .int .u64 (uv (x.vl ||| y.vl)), .int .u64 (uv (x.ch ||| y.ch)), .int .u64 (uv (x.cl ||| y.cl))] 53)) w3.heap.size 53 (x.join y).arr := Blk.new w3 _ _
            have W4 := W3.trans (hb4.mono W3.size)
            have O4 := own_on O3 hb4
            have X4 := X3.on hb4
            have hz4 := W4.size
            have hgx3 := X3.lt
            clear W3 O3 X3 hb4 R3
            go_wp2_with (at_builtin; refine wpList_append_lies _ rfl (.tmp 40) (.tmp 42) 22 rfl w.heap.size 53 ic _ 4 32 Tryz.underlying22 hic hcz0 hcz1 hcz2 rfl (by decide) _ _ _ rfl O4 ⟨w3.heap.size, 0, none⟩ 1 1 (x.join y).cells rfl rfl (World.news_of_block N4) (by intro u hu; simp only [Cb.cells, List.mem_cons, List.not_mem_nil, or_false] at hu; rcases hu with rfl | rfl | rfl | rfl <;> rfl) (by omega) (by rw [List.length_append]; unfold maxLen; omega) (by rw [List.length_append]; omega) hz4 _ rfl ?_)
            intro g5 cap5 w5 O5 hg5 hat hgl
            have W5 := W4.grown hg5 hz4 (fun j hj => (O4.lt j hj).1)
            have X5 := X4.grown hg5 hap
            have hap5 : gx ≠ g5 := by
              rcases hat with h | h
              · rw [h] at hap; exact fun e => hap (by rw [e])
              · have : (w3.alloc (.cells #[.int .u64 (uv (x.vh ||| y.vh)), .int .u64 (uv (x.vl ||| y.vl)), .int .u64 (uv (x.ch ||| y.ch)), .int .u64 (uv (x.cl ||| y.cl))] 53)).heap.size = w3.heap.size + 1 := World.size_alloc _ _
                omega
            clear W4 O4 X4 N4 hg5 hat r3 hap
            go_wp2
            go_roundg (B.length - (k + 1))
            case measure => omega
            case rel => exact ⟨k + 1, by omega, rfl, by go_num, W5, X5, by simp [Value.ownBlock]; exact hap5, by rw [HN.out, ← List.append_assoc, flat_snoc, List.length_append, List.length_append]; exact O5⟩
        · have hltz2 : ¬ (k : Int) < (B.length : Int) := by omega
          obtain rfl : k = B.length := by omega
          have HN : Hid (metL (A.take (i + 1)) B = metL (A.take i) B ++ metR x (B.take B.length)) := by show _ = _; rw [HT.out, List.take_length]
          go_wp2
          go_roundg (A.length - (i + 1))
          case measure => omega
          case rel => exact ⟨i + 1, by omega, rfl, by go_num, W, by rw [HN.out]; exact O⟩
    · have hltz : ¬ (i : Int) < (A.length : Int) := by omega
      obtain rfl : i = A.length := by omega
      have hlen := metL_len A B A.length
      rw [List.take_length] at O hlen
      have hlen2 : A.length * B.length ≤ 200 * 200 := Nat.mul_le_mul hA hB
      have hup := leanUp_c 200 _ (metL A B) wr (by omega) (by omega) (own_Pl O)
      have hz := W.size
      clear O
      go_wp2_with fail
      refine hup.mono ?_
      rintro e w5 ⟨hb5, h⟩
      have B5 := W.trans (hb5.mono hz)
      clear hup W hb5
      rcases h with ⟨hle, s, rfl, O5⟩ | ⟨hgt, rfl⟩
      · have HL := Lib.hid hle
        clear hle
        go_wp2
        go_ret2
        exact Opt2.yes HL.out ⟨_, rfl, O5.mono hz, B5⟩
      · have HL := Lib.hid hgt
        clear hgt
        go_wp2
        go_ret2
        exact Opt2.no HL.out ⟨rfl, B5⟩
end
end Go.Proofs

namespace Go.Proofs.Hd
open Go.RowKit
theorem leanS_has {L : List Cb} (hs : ∀ c ∈ L, c.snd = true) (x y : BitVec 64) : anyHas (leanS L) x y = anyHas L x y := by
  rw [Bool.eq_iff_iff]
  unfold anyHas
  rw [List.any_eq_true, List.any_eq_true]
  constructor
  · rintro ⟨c, hc, h⟩
    obtain ⟨i, hi, _⟩ := leanS_mem.1 hc
    exact ⟨c, List.mem_of_getElem? hi, h⟩
  · rintro ⟨c, hc, h⟩
    obtain ⟨i, hi⟩ := List.mem_iff_getElem?.1 hc
    obtain ⟨b, hb, hw⟩ := kept_over c.size i c (Nat.le_refl _) hi (hs c hc)
    obtain ⟨k, hk, hsp⟩ := leanL_mem.1 hb
    exact ⟨b, leanS_mem.2 ⟨k, hk, ((Cb.wit_iff _ _).1 hw).2.1, hsp⟩, wit_has x y hw h⟩
theorem join_V (a b : Cb) (j : Nat) : (a.join b).V j = (a.V j || b.V j) := hbit_or _ _ _ _ _
theorem join_K (a b : Cb) (j : Nat) : (a.join b).K j = (a.K j || b.K j) := hbit_or _ _ _ _ _
theorem both_has {a b : Cb} (h l : BitVec 64) (ha : a.snd = true) (hb : b.snd = true) : (a.met b && (a.join b).has h l) = (a.has h l && b.has h l) := by
  rw [met_eq a b ha hb, Bool.eq_iff_iff, Bool.and_eq_true, Bool.and_eq_true]
  rw [Cb.snd_iff] at ha hb
  rw [Cb.agr_iff, Cb.has_iff, Cb.has_iff, Cb.has_iff]
  constructor
  · rintro ⟨hg, hj⟩
    refine ⟨fun j h1 => ?_, fun j h1 => ?_⟩
    · have := hj j h1
      rw [join_V, join_K] at this
      have g := hg j h1
      have sa := ha j h1
      have sb := hb j h1
      revert this g sa sb
      cases hbit h l j <;> cases a.K j <;> cases b.K j <;> cases a.V j <;> cases b.V j <;> simp
    · have := hj j h1
      rw [join_V, join_K] at this
      have g := hg j h1
      have sa := ha j h1
      have sb := hb j h1
      revert this g sa sb
      cases hbit h l j <;> cases a.K j <;> cases b.K j <;> cases a.V j <;> cases b.V j <;> simp
  · rintro ⟨h1, h2⟩
    refine ⟨fun j hj => ?_, fun j hj => ?_⟩
    · have g1 := h1 j hj
      have g2 := h2 j hj
      revert g1 g2
      cases hbit h l j <;> cases a.K j <;> cases b.K j <;> cases a.V j <;> cases b.V j <;> simp
    · rw [join_V, join_K]
      have g1 := h1 j hj
      have g2 := h2 j hj
      revert g1 g2
      cases hbit h l j <;> cases a.K j <;> cases b.K j <;> cases a.V j <;> cases b.V j <;> simp
theorem metL_has {A B : List Cb} (hA : ∀ c ∈ A, c.snd = true) (hB : ∀ c ∈ B, c.snd = true) (x y : BitVec 64) : anyHas (metL A B) x y = (anyHas A x y && anyHas B x y) := by
  rw [Bool.eq_iff_iff, Bool.and_eq_true]
  unfold anyHas metL metR met1
  rw [List.any_eq_true, List.any_eq_true, List.any_eq_true]
  constructor
  · rintro ⟨c, hc, h⟩
    obtain ⟨a, ha, hc⟩ := List.mem_flatMap.1 hc
    obtain ⟨b, hb, hc⟩ := List.mem_filterMap.1 hc
    by_cases hm : a.met b = true
    · rw [if_pos hm] at hc
      injection hc with hc
      subst hc
      have := both_has x y (hA a ha) (hB b hb)
      rw [hm, h] at this
      have t : (a.has x y && b.has x y) = true := this.symm
      rw [Bool.and_eq_true] at t
      exact ⟨⟨a, ha, t.1⟩, ⟨b, hb, t.2⟩⟩
    · rw [if_neg hm] at hc; cases hc
  · rintro ⟨⟨a, ha, h1⟩, ⟨b, hb, h2⟩⟩
    have := both_has x y (hA a ha) (hB b hb)
    rw [h1, h2, Bool.and_self, Bool.and_eq_true] at this
    exact ⟨a.join b, List.mem_flatMap.2 ⟨a, ha, List.mem_filterMap.2 ⟨b, hb, by rw [if_pos this.1]⟩⟩, this.2⟩
theorem lessC_has {a b : Cb} (x y : BitVec 64) (ha : a.snd = true) (hb : b.snd = true) : anyHas (lessC a b) x y = (a.has x y && !b.has x y) := by
  have h := parts_count x y ha hb
  rw [both_has x y ha hb] at h
  have e : anyHas (lessC a b) x y = decide (0 < cntC x y (lessC a b)) := by
    unfold anyHas cntC
    rw [Bool.eq_iff_iff, List.any_eq_true, decide_eq_true_eq, List.length_pos_iff_exists_mem]
    simp [List.mem_filter]
  rw [e]
  generalize cntC x y (lessC a b) = n at h
  revert h
  cases a.has x y <;> cases b.has x y <;> simp <;> omega
theorem offL_has {A : List Cb} {g : Cb} (hA : ∀ c ∈ A, c.snd = true) (hg : g.snd = true) (x y : BitVec 64) : anyHas (offL A g) x y = (anyHas A x y && !g.has x y) := by
  unfold offL
  induction A with
  | nil => rfl
  | cons a A ih =>
    have h1 : anyHas (lessC a g ++ A.flatMap fun c => lessC c g) x y = (anyHas (lessC a g) x y || anyHas (A.flatMap fun c => lessC c g) x y) := by unfold anyHas; rw [List.any_append]
    have h2 : anyHas (a :: A) x y = (a.has x y || anyHas A x y) := by unfold anyHas; rw [List.any_cons]
    rw [List.flatMap_cons, h1, h2, ih (fun c hc => hA c (List.mem_cons_of_mem _ hc)), lessC_has x y (hA a (List.mem_cons_self ..)) hg]
    cases a.has x y <;> cases g.has x y <;> simp
theorem lessL_has {B : List Cb} (x y : BitVec 64) (hB : ∀ c ∈ B, c.snd = true) : ∀ {A R : List Cb}, (∀ c ∈ A, c.snd = true) → lessL A B = some R → anyHas R x y = (anyHas A x y && !anyHas B x y) := by
  induction B with
  | nil => intro A R _ h; rw [lessL] at h; injection h with h; subst h; simp [anyHas]
  | cons g B ih =>
    intro A R hA h
    rw [lessL] at h
    by_cases hl : (leanS (offL A g)).length ≤ 200
    · rw [if_pos hl] at h
      rw [ih (fun c hc => hB c (List.mem_cons_of_mem _ hc)) (leanS_snd _) h, leanS_has (offL_snd hA), offL_has hA (hB g (List.mem_cons_self ..))]
      have h2 : anyHas (g :: B) x y = (g.has x y || anyHas B x y) := by unfold anyHas; rw [List.any_cons]
      rw [h2]
      cases anyHas A x y <;> cases g.has x y <;> simp
    · rw [if_neg hl] at h; cases h
theorem capL_some {L R : List Cb} (h : capL L = some R) : R = L := by
  unfold capL at h
  by_cases hl : L.length ≤ 200
  · rw [if_pos hl] at h; injection h with h; exact h.symm
  · rw [if_neg hl] at h; cases h
theorem joined_has {A B R : List Cb} (hA : ∀ c ∈ A, c.snd = true) (hB : ∀ c ∈ B, c.snd = true) (h : capL (leanS (A ++ B)) = some R) (x y : BitVec 64) : anyHas R x y = (anyHas A x y || anyHas B x y) := by
  rw [capL_some h, leanS_has (fun c hc => (List.mem_append.1 hc).elim (hA c) (hB c))]
  unfold anyHas
  rw [List.any_append]
theorem metL_snd {A B : List Cb} (hA : ∀ c ∈ A, c.snd = true) (hB : ∀ c ∈ B, c.snd = true) : ∀ c ∈ metL A B, c.snd = true := by
  intro c hc
  unfold metL metR met1 at hc
  obtain ⟨a, ha, hc⟩ := List.mem_flatMap.1 hc
  obtain ⟨b, hb, hc⟩ := List.mem_filterMap.1 hc
  by_cases hm : a.met b = true
  · rw [if_pos hm] at hc; injection hc with hc; subst hc; exact join_snd (hA a ha) (hB b hb)
  · rw [if_neg hm] at hc; cases hc
theorem meeting_has {A B R : List Cb} (hA : ∀ c ∈ A, c.snd = true) (hB : ∀ c ∈ B, c.snd = true) (h : capL (leanS (metL A B)) = some R) (x y : BitVec 64) : anyHas R x y = (anyHas A x y && anyHas B x y) := by
  rw [capL_some h, leanS_has (metL_snd hA hB), metL_has hA hB]
end Go.Proofs.Hd

namespace Go.Proofs.Hd
open Go.RowKit
def wa : Cb := ⟨0#64, 1#64, 0#64, 1#64⟩
def wb : Cb := ⟨0#64, 3#64, 0#64, 3#64⟩
def wx : Cb := ⟨0#64, 1#64, 0#64, 3#64⟩
theorem wa_snd : sndL [wa] = true := by kernel_rfl
theorem wb_snd : sndL [wb] = true := by kernel_rfl
theorem w_less : lessL [wa] [wb] = some [wx] := by kernel_rfl
theorem w_join : capL (leanS ([wa] ++ [wb])) = some [wa] := by kernel_rfl
theorem w_in : lessL [wb] [wa] = some [] := by kernel_rfl
theorem wx_snd : wx.snd = true := by kernel_rfl
theorem w_has : anyHas [wa] 0#64 5#64 = true := by kernel_rfl
theorem Pl.take {w : World} {A : Option Addr} {cap : Nat} {L : List Cb} (h : Pl w (.slice A L.length cap) L) (n : Nat) : Pl w (.slice A (L.take n).length cap) (L.take n) := by
  rcases h with ⟨rfl, B, cap', e⟩ | ⟨b, off, cap', e, hlen, hb, hc⟩
  · exact .inl ⟨by simp, A, cap, by simp⟩
  · injection e with e1 e2 e3
    subst e1 e3
    refine .inr ⟨b, off, cap, rfl, Nat.le_trans (by simp; omega) hlen, hb, fun k c hk => hc k c ?_⟩
    have hkn := (List.getElem?_eq_some_iff.1 hk).1
    rw [List.getElem?_take_of_lt (by simp at hkn; omega)] at hk
    exact hk
theorem pl_one {w : World} {g cap : Nat} {c : Cb} (h : Blk w g 53 c.arr) : Pl w (.slice (some ⟨g, 0, none⟩) 1 cap) [c] := by
  refine .inr ⟨g, 0, cap, rfl, by simp [maxLen], h.lt, fun k d hk => ?_⟩
  have hk0 : k < 1 := by simpa using (List.getElem?_eq_some_iff.1 hk).1
  obtain rfl : k = 0 := by omega
  simp at hk
  subst hk
  exact ⟨h.cell 0, h.cell 1, h.cell 2, h.cell 3⟩
end Go.Proofs.Hd
namespace Go.Proofs
open Go.RowKit Go.Proofs.Hd Go.Lib
attribute [local go_sem] uv_nonneg
end Go.Proofs

namespace Go.Proofs.Hd
open Go.RowKit
def strs (D : List Cb) : List Value := D.map fun c => Value.string (txt c)
theorem strs_len (D : List Cb) : (strs D).length = D.length := by simp [strs]
theorem strs_snoc (D : List Cb) (c : Cb) : strs (D ++ [c]) = strs D ++ [.string (txt c)] := by simp [strs]
structure Rls (w wr : World) (rb : Nat) (cc : Cb) (v : Value) (D : List Cb) : Prop where
  bel : Below w.heap.size w wr
  row : ByRow wr rb (fun i => sgn cc (127 - i))
  tb : TB wr rb 5
  own : wr.ownsRow w.heap.size 9 1 v D.length (strs D)
  rbb : w.heap.size ≤ rb
theorem Rls.on {w wr w2 : World} {rb : Nat} {cc : Cb} {v : Value} {D : List Cb} (h : Rls w wr rb cc v D) (hb : Below wr.heap.size wr w2) : Rls w w2 rb cc v D :=
  ⟨h.bel.trans (hb.mono h.bel.size), h.row.on hb, h.tb.on hb, own_on h.own hb, h.rbb⟩
theorem Rls.put {w wr : World} {rb : Nat} {cc c2 : Cb} {v : Value} {D : List Cb} (h : Rls w wr rb cc v D) (k m : Nat) (hm : m + k = 127) (x : Int) (hx : x = ((sgn c2 m).toNat : Int)) (hs : ∀ j, j < 128 → j ≠ m → sgn c2 j = sgn cc j) :
    Rls w (wr.setCell ⟨rb, k, none⟩ (.int .u8 x)) rb c2 v D := by
  have hr := h.rbb
  refine ⟨h.bel.setCell (by dsimp only; omega) _, h.row.set k (by omega) _ _ ?_ ?_, h.tb.set, ownsRow_setCell_other h.own (fun e => own_apartT h.own h.tb (by decide) e.symm) _, h.rbb⟩
  · rw [hx, show 127 - k = m by omega]
  · intro i hi hne
    exact hs (127 - i) (by omega) (by omega)
theorem Rls.append {w wr w2 : World} {rb : Nat} {cc c : Cb} {v v' : Value} {D : List Cb} (h : Rls w wr rb cc v D) (hg : wr.grownBy w2 v.ownBlock)
    (hown : w2.ownsRow w.heap.size 9 1 v' (D.length + 1) (strs D ++ [.string (txt c)])) : Rls w w2 rb cc v' (D ++ [c]) := by
  have hz := h.bel.size
  have hne := own_apartT h.own h.tb (by decide)
  refine ⟨h.bel.grown hg hz (fun k hk => (h.own.lt k hk).1), fun i hi => ?_, h.tb.grown hg hne, ?_, h.rbb⟩
  · have hl := World.block_lt_of_cell? wr ⟨rb, i, none⟩ (h.row i hi).1
    exact ⟨(hg.cell_far _ hl hne).trans (h.row i hi).1, (hg.frozen_far _ hl hne).trans (h.row i hi).2⟩
  · rw [strs_snoc]; simpa using hown
theorem other_sign {cc b : Cb} {m : Nat} (hm : m < 128) (hs : cc.snd = true) (hk : cc.K m = false) :
    (∀ j, j < 128 → j ≠ m → sgn (wOther cc b m) j = sgn cc j) ∧ (b.V m = true → ((sgn (wOther cc b m) m).toNat : Int) = 48) ∧ (b.V m = false → ((sgn (wOther cc b m) m).toNat : Int) = 49) := by
  have hv := open_V hm hs hk
  refine ⟨fun j hj hne => ?_, fun h => ?_, fun h => ?_⟩
  · unfold sgn; rw [wOther_K _ _ _ _ hm hj, wOther_V _ _ _ _ hm hj]; simp [hne]
  · unfold sgn; rw [wOther_K _ _ _ _ hm hm, wOther_V _ _ _ _ hm hm, hv, h]; simp
  · unfold sgn; rw [wOther_K _ _ _ _ hm hm, wOther_V _ _ _ _ hm hm, hv, h]; simp
theorem same_sign {cc b : Cb} {m : Nat} (hm : m < 128) (hs : cc.snd = true) (hk : cc.K m = false) :
    (∀ j, j < 128 → j ≠ m → sgn (wSame cc b m) j = sgn (wOther cc b m) j) ∧ (b.V m = true → ((sgn (wSame cc b m) m).toNat : Int) = 49) ∧ (b.V m = false → ((sgn (wSame cc b m) m).toNat : Int) = 48) := by
  have hv := open_V hm hs hk
  refine ⟨fun j hj hne => ?_, fun h => ?_, fun h => ?_⟩
  · unfold sgn; rw [wOther_K _ _ _ _ hm hj, wOther_V _ _ _ _ hm hj, wSame_K _ _ _ _ hm hj, wSame_V _ _ _ _ hm hj]; simp [hne]
  · unfold sgn; rw [wSame_K _ _ _ _ hm hm, wSame_V _ _ _ _ hm hm, hv, h]; simp
  · unfold sgn; rw [wSame_K _ _ _ _ hm hm, wSame_V _ _ _ _ hm hm, hv, h]; simp
/-- How far the reference has come: the bits from bit 128 - k on are done. -/
structure Prog (a b : Cb) (k : Nat) (cc : Cb) (D : List Cb) : Prop where
  snd : cc.snd = true
  care : ∀ j, j < 128 → j + k < 128 → cc.K j = a.K j
  list : D ++ lessP b cc (bitsDown (hbit (b.ch &&& ~~~a.ch) (b.cl &&& ~~~a.cl)) (128 - k)) = lessP b a (openBits a b)
  len : D.length ≤ k
theorem Prog.start {a b : Cb} (ha : a.snd = true) : Prog a b 0 a [] := ⟨ha, fun _ _ _ => rfl, rfl, by simp⟩
theorem open_bit (a b : Cb) (m : Nat) (hm : m < 128) : hbit (b.ch &&& ~~~a.ch) (b.cl &&& ~~~a.cl) m = (b.K m && !a.K m) := hbit_andNot _ _ _ _ _ hm
theorem Prog.skip {a b cc : Cb} {k m : Nat} {D : List Cb} (h : Prog a b k cc D) (hm : m + k = 127) (hn : (b.K m && !a.K m) = false) : Prog a b (k + 1) cc D := by
  refine ⟨h.snd, fun j hj hk => h.care j hj (by omega), ?_, by have := h.len; omega⟩
  rw [← h.list, show 128 - k = m + 1 by omega, show 128 - (k + 1) = m by omega, bitsDown, if_neg (by rw [open_bit a b m (by omega), hn]; simp)]
theorem Prog.free {a b cc : Cb} {k m : Nat} {D : List Cb} (h : Prog a b k cc D) (hm : m + k = 127) (ha : a.K m = false) : cc.K m = false := by
  rw [h.care m (by omega) (by omega), ha]
theorem Prog.step {a b cc : Cb} {k m : Nat} {D : List Cb} (h : Prog a b k cc D) (hm : m + k = 127) (hb : b.K m = true) (ha : a.K m = false) : Prog a b (k + 1) (wSame cc b m) (D ++ [wOther cc b m]) := by
  refine ⟨wSame_snd (by omega) h.snd, fun j hj hk => ?_, ?_, by have := h.len; simp; omega⟩
  · rw [wSame_K _ _ _ _ (by omega) hj, h.care j hj (by omega)]; simp; intro e; omega
  · rw [← h.list, show 128 - k = m + 1 by omega, show 128 - (k + 1) = m by omega, bitsDown, if_pos (by rw [open_bit a b m (by omega), hb, ha]; rfl), lessP]
    simp
theorem Prog.done {a b cc : Cb} {D : List Cb} (h : Prog a b 128 cc D) : D = lessP b a (openBits a b) := by
  have := h.list
  simpa [bitsDown, lessP] using this
/-- Texts of cubes were returned, in memory of the call's own; nothing that was there has changed. -/
def GotS (w : World) (D : List Cb) (e : Ending) (w' : World) : Prop := ∃ v, e = .returned v ∧ w'.ownsRow w.heap.size 9 1 v D.length (strs D) ∧ Below w.heap.size w w'
end Go.Proofs.Hd

namespace Go.Proofs
open Go.RowKit Go.Proofs.Hd
attribute [local go_sem] uv_nonneg
theorem infoStr : (Tryz.prog.info? 9).map (fun i => (i.zero, i.size, i.bytes)) = some (some (.string ⟨#[]⟩), 1, 16) := by kernel_rfl

set_option maxHeartbeats 4000000 in
set_option maxRecDepth 100000 in
theorem rless_f (s t : ByteArray) (a b : Cb) (w : World) (ha : a.snd = true) (hb : b.snd = true) (HS : Hid (txt a = s)) (HT : Hid (txt b = t)) (hg : a.agr b = false) :
    Calls Tryz.prog 39 #[.string s, .string t] w (GotS w [a]) := by
  go_enter Tryz.func39, Tryz.ntmps39
  go_wp2_with fail
  (with_reducible refine (rmeet_f s t a b _ ha hb HS.out HT.out hg).mono ?_)
  rintro e w1 ⟨rfl, B1⟩
  go_wp2
  go_ret
  refine ⟨_, rfl, ?_, B1.alloc B1.size _⟩
  have h := World.ownsRow_lit (base := w.heap.size) (e := 9) (size := 1) w1 #[.string s] 1 B1.size (by decide) rfl
  have e : strs [a] = [.string s] := by unfold strs; rw [← HS.out]; rfl
  rw [e]
  exact h

set_option maxHeartbeats 8000000 in
set_option maxRecDepth 100000 in
theorem rless_t (s t r : ByteArray) (a b : Cb) (w : World) (ha : a.snd = true) (hb : b.snd = true) (HS : Hid (txt a = s)) (HT : Hid (txt b = t)) (HR : Hid (txt (a.join b) = r)) (hg : a.agr b = true) (Q : List Cb) (HQ : Hid (lessP b a (openBits a b) = Q)) :
    Calls Tryz.prog 39 #[.string s, .string t] w (GotS w Q) := by
  have l1 : s.size ≤ 128 := by rw [text_len HS.out]; omega
  have l2 : 128 ≤ s.size := by rw [text_len HS.out]; omega
  have l3 : t.size ≤ 128 := by rw [text_len HT.out]; omega
  have l4 : 128 ≤ t.size := by rw [text_len HT.out]; omega
  go_enter Tryz.func39, Tryz.ntmps39
  go_wp2_with fail
  (with_reducible refine (rmeet_t s t r a b _ ha hb HS.out HT.out hg HR.out).mono ?_)
  rintro e w1 ⟨rfl, B1⟩
  go_upto_region 5 with (fail)
  have O2 : (w1.alloc (.cells #[] 9)).ownsRow w.heap.size 9 1 (.slice (some ⟨w1.heap.size, 0, none⟩) 0 0) 0 [] := World.ownsRow_lit (base := w.heap.size) (e := 9) (size := 1) w1 #[] 0 B1.size (by decide) rfl
  have B2 := B1.alloc B1.size (.cells #[] 9)
  generalize (w1.alloc (.cells #[] 9)) = w2 at O2 B2 ⊢
  have R0 := ByRow.start w2 s (grownCap w2 s.size 0 5) 5 (text_len HS.out) (fun i => sgn a (127 - i)) (fun i h => by have e := HS.out; subst e; rw [txt_get])
  have hcv := toBytes w2 s
  have bb : Below w2.heap.size w2 (w2.drew.alloc (.cells (bytesRow s (grownCap w2 s.size 0 5)) 5 ((bytesRow s (grownCap w2 s.size 0 5)).size, (bytesRow s (grownCap w2 s.size 0 5)).size + 1))) := ((Below.refl _ w2).drew).alloc (Nat.le_refl _) _
  have HI : Hid (Rls w (w2.drew.alloc (.cells (bytesRow s (grownCap w2 s.size 0 5)) 5 ((bytesRow s (grownCap w2 s.size 0 5)).size, (bytesRow s (grownCap w2 s.size 0 5)).size + 1))) w2.heap.size a (.slice (some ⟨w1.heap.size, 0, none⟩) 0 0) []) := Lib.hid ⟨B2.trans (bb.mono B2.size), R0, ⟨_, _, heap_alloc_new w2.drew _⟩, own_on O2 bb, B2.size⟩
  have HP := Lib.hid (Prog.start (b := b) ha)
  clear R0 bb O2 B2 B1
  go_wp2_with fail
  generalize grownCap w2 s.size 0 5 = cap at *
  clear hcv
  go_loopg [7, 9] 128 (fun g v i wr => ∃ (k : Nat) (cc : Cb) (D : List Cb), k ≤ 128 ∧ g = 128 - k ∧ i = .int .i64 k ∧ Prog a b k cc D ∧ Rls w wr w2.heap.size cc v D)
  case atStart => exact ⟨0, a, [], by omega, rfl, rfl, HP.out, HI.out⟩
  case round =>
    clear HI HP
    obtain ⟨k, cc, D, hk, rfl, rfl, HP, R⟩ := hrel
    by_cases hlt : k < 128
    · have hlt' : (k : Int) < 128 := by omega
      have hks : k < s.size := by omega
      have hks' : (k : Int) < (s.size : Int) := by omega
      have hkt : k < t.size := by omega
      have hkt' : (k : Int) < (t.size : Int) := by omega
      obtain ⟨m, hm⟩ : ∃ m, m + k = 127 := ⟨127 - k, by omega⟩
      have hm1 : m < 128 := by omega
      have HM := Lib.hid hm
      clear hm
      have f1 := (R.row k hlt).1
      have f2 := (R.row k hlt).2
      cases hKa : a.K m
      · have sgs := sign_x HS.out k m HM.out hks hKa
        cases hKb : b.K m
        · have sgt := sign_x HT.out k m HM.out hkt hKb
          have HN : Hid ((b.K m && !a.K m) = false) := Lib.hid (by rw [hKb]; rfl)
          clear hKa hKb f1 f2
          go_wp2
          go_roundg (128 - (k + 1))
          case measure => omega
          case rel => exact ⟨k + 1, cc, D, by omega, rfl, by go_num, HP.skip HM.out HN.out, R⟩
        · cases hV : b.V m
          · have sgt := sign_0 HT.out k m HM.out hkt hKb hV
            have hcm := HP.free HM.out hKa
            have OS := Lib.hid (other_sign (b := b) hm1 HP.snd hcm)
            have SS := Lib.hid (same_sign (b := b) hm1 HP.snd hcm)
            have HN := Lib.hid (HP.step HM.out hKb hKa)
            have HV := Lib.hid hV
            have hln := HP.len
            clear hKa hKb hV hcm HP
            go_upto_region 14 with (fail)
            have R5 := R.put (c2 := wOther cc b m) k m HM.out 49 (OS.out.2.2 HV.out).symm OS.out.1
            generalize (wr.setCell ⟨w2.heap.size, k, none⟩ (.int .u8 49)) = w5 at R5 ⊢
            clear R f1 f2
            have hcv := fromBytes w5 (wOther cc b m) w2.heap.size s.size cap (by omega) R5.row
            obtain ⟨q, hq⟩ : ∃ q, txt (wOther cc b m) = q := ⟨_, rfl⟩
            rw [hq] at hcv
            have HQQ := Lib.hid hq
            clear hq
            have N5 : Blk (w5.alloc (.cells #[.string q] 9)) w5.heap.size 9 #[.string q] := Blk.new w5 _ _
            have R6 := R5.on (below1 w5 (.cells #[.string q] 9))
            obtain ⟨i0, hi0, hz0, hz1, hz2⟩ := info_parts infoStr
            go_wp2_with (at_builtin; refine wpList_append_lies _ rfl (.tmp 48) (.tmp 51) 27 rfl w.heap.size 9 i0 _ 1 16 Tryz.underlying27 hi0 hz0 hz1 hz2 rfl (by decide) _ D.length (strs D) rfl R6.own ⟨w5.heap.size, 0, none⟩ 1 1 [.string q] rfl rfl (World.news_of_block N5) (by intro u hu; simp only [List.mem_singleton] at hu; subst hu; rfl) (by omega) (by unfold maxLen; omega) (by omega) (R6.bel.size) _ rfl ?_)
            intro g2 cap2 w7 hown hgrow hat hgl
            have R7 := R6.append hgrow (c := wOther cc b m) (by rw [HQQ.out]; exact hown)
            clear R6 R5 N5 hcv hi0 hz0 hz1 hz2 hown hgrow hat hgl
            have f1 := (R7.row k hlt).1
            have f2 := (R7.row k hlt).2
            go_wp2
            go_roundg (128 - (k + 1))
            case measure => omega
            case rel => exact ⟨k + 1, wSame cc b m, D ++ [wOther cc b m], by omega, rfl, by go_num, HN.out, R7.put k m HM.out 48 (SS.out.2.2 HV.out).symm SS.out.1⟩
          · have sgt := sign_1 HT.out k m HM.out hkt hKb hV
            have hcm := HP.free HM.out hKa
            have OS := Lib.hid (other_sign (b := b) hm1 HP.snd hcm)
            have SS := Lib.hid (same_sign (b := b) hm1 HP.snd hcm)
            have HN := Lib.hid (HP.step HM.out hKb hKa)
            have HV := Lib.hid hV
            have hln := HP.len
            clear hKa hKb hV hcm HP
            go_upto_region 14 with (fail)
            have R5 := R.put (c2 := wOther cc b m) k m HM.out 48 (OS.out.2.1 HV.out).symm OS.out.1
            generalize (wr.setCell ⟨w2.heap.size, k, none⟩ (.int .u8 48)) = w5 at R5 ⊢
            clear R f1 f2
            have hcv := fromBytes w5 (wOther cc b m) w2.heap.size s.size cap (by omega) R5.row
            obtain ⟨q, hq⟩ : ∃ q, txt (wOther cc b m) = q := ⟨_, rfl⟩
            rw [hq] at hcv
            have HQQ := Lib.hid hq
            clear hq
            have N5 : Blk (w5.alloc (.cells #[.string q] 9)) w5.heap.size 9 #[.string q] := Blk.new w5 _ _
            have R6 := R5.on (below1 w5 (.cells #[.string q] 9))
            obtain ⟨i0, hi0, hz0, hz1, hz2⟩ := info_parts infoStr
            go_wp2_with (at_builtin; refine wpList_append_lies _ rfl (.tmp 48) (.tmp 51) 27 rfl w.heap.size 9 i0 _ 1 16 Tryz.underlying27 hi0 hz0 hz1 hz2 rfl (by decide) _ D.length (strs D) rfl R6.own ⟨w5.heap.size, 0, none⟩ 1 1 [.string q] rfl rfl (World.news_of_block N5) (by intro u hu; simp only [List.mem_singleton] at hu; subst hu; rfl) (by omega) (by unfold maxLen; omega) (by omega) (R6.bel.size) _ rfl ?_)
            intro g2 cap2 w7 hown hgrow hat hgl
            have R7 := R6.append hgrow (c := wOther cc b m) (by rw [HQQ.out]; exact hown)
            clear R6 R5 N5 hcv hi0 hz0 hz1 hz2 hown hgrow hat hgl
            have f1 := (R7.row k hlt).1
            have f2 := (R7.row k hlt).2
            go_wp2
            go_roundg (128 - (k + 1))
            case measure => omega
            case rel => exact ⟨k + 1, wSame cc b m, D ++ [wOther cc b m], by omega, rfl, by go_num, HN.out, R7.put k m HM.out 49 (SS.out.2.1 HV.out).symm SS.out.1⟩
      · have HN : Hid ((b.K m && !a.K m) = false) := Lib.hid (by rw [hKa]; simp)
        cases hVa : a.V m
        · have sgs := sign_0 HS.out k m HM.out hks hKa hVa
          clear hKa hVa f1 f2
          go_wp2
          go_roundg (128 - (k + 1))
          case measure => omega
          case rel => exact ⟨k + 1, cc, D, by omega, rfl, by go_num, HP.skip HM.out HN.out, R⟩
        · have sgs := sign_1 HS.out k m HM.out hks hKa hVa
          clear hKa hVa f1 f2
          go_wp2
          go_roundg (128 - (k + 1))
          case measure => omega
          case rel => exact ⟨k + 1, cc, D, by omega, rfl, by go_num, HP.skip HM.out HN.out, R⟩
    · obtain rfl : k = 128 := by omega
      have e := HP.done.trans HQ.out
      subst e
      go_wp2
      go_ret
      exact ⟨_, rfl, R.own, R.bel⟩

theorem rless_s (s t : ByteArray) (a b : Cb) (w : World) (ha : a.snd = true) (hb : b.snd = true) (hs : txt a = s) (ht : txt b = t) (Q : List Cb) (hq : lessC a b = Q) :
    Calls Tryz.prog 39 #[.string s, .string t] w (GotS w Q) := by
  subst hq
  unfold lessC
  cases h : a.agr b with
  | true => rw [if_pos rfl]; exact rless_t s t _ a b w ha hb (Lib.hid hs) (Lib.hid ht) (Lib.hid rfl) h _ (Lib.hid rfl)
  | false => rw [if_neg (by simp)]; exact rless_f s t a b w ha hb (Lib.hid hs) (Lib.hid ht) h
end Go.Proofs
