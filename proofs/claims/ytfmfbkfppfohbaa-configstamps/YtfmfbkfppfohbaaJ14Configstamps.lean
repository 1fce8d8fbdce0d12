/-
  customhouselaw08.ConfigStamps returns true for every input, and each argument reads behind the call as before. No conditions.
  Contract: Has of the reference of layer 2 tells whether a header is in the cube of a text. Conditions: the text is that of a sound cube.
  Plain facts on rows of bytes in memory and on the signs of two cubes' intersection. No program in sight. No conditions.
  Contracts: Meet and Within of the reference of layer 2, on the texts of two sound cubes. Conditions: both texts are those of sound cubes.
  Contract: Cube of the reference of layer 2 returns the cube of a text. Conditions: the text is that of a sound cube.
  Contract: Set of the reference of layer 2: a header some bits of which are set. No conditions.
  Contract of the reference's Stamp of layer 8. Conditions as the theorem lists them.
  The walk of customhouselaw08.ConfigStamps: it returns true. Conditions as the theorem lists them.
-/
import Derived.Test.YtfmfbkfppfohbaaJ13Configstamps
import Derived.Deep.QuietTactic
import Derived.BigQuiet
import Derived.Test.YtfmfbkfppfohbaaRows
import Derived.Below
namespace Go.Proofs
open Go.RowKit Go.Proofs.Hd
attribute [local go_sem] uv_nonneg
theorem has_match (c : Cb) (h l : BitVec 64) (hs : c.snd = true) : c.has h l = true ↔ ∀ j, j < 128 → c.K j = true → hbit h l j = c.V j := by
  rw [Cb.has_iff]
  rw [Cb.snd_iff] at hs
  constructor
  · intro H j hj hk
    have := H j hj
    rw [hk, Bool.and_true] at this
    exact this
  · intro H j hj
    cases hk : c.K j with
    | true => rw [H j hj hk, Bool.and_true]
    | false =>
      cases hv : c.V j with
      | false => simp
      | true => rw [hs j hj hv] at hk; cases hk
/-- Sign k of a text. -/
theorem sign_x {c : Cb} {s : ByteArray} (hs : txt c = s) (k m : Nat) (hm : m + k = 127) (hk : k < s.size) (h : c.K m = false) : ((s[k]'hk).toNat : Int) = 120 := by
  subst hs; rw [txt_get, show 127 - k = m by omega]; unfold sgn; rw [h]; rfl
theorem sign_1 {c : Cb} {s : ByteArray} (hs : txt c = s) (k m : Nat) (hm : m + k = 127) (hk : k < s.size) (h : c.K m = true) (hv : c.V m = true) : ((s[k]'hk).toNat : Int) = 49 := by
  subst hs; rw [txt_get, show 127 - k = m by omega]; unfold sgn; rw [h, hv]; rfl
theorem sign_0 {c : Cb} {s : ByteArray} (hs : txt c = s) (k m : Nat) (hm : m + k = 127) (hk : k < s.size) (h : c.K m = true) (hv : c.V m = false) : ((s[k]'hk).toNat : Int) = 48 := by
  subst hs; rw [txt_get, show 127 - k = m by omega]; unfold sgn; rw [h, hv]; rfl
theorem has_fails {c : Cb} {h l : BitVec 64} {j : Nat} (hs : c.snd = true) (hj : j < 128) (hk : c.K j = true) (hne : ¬ hbit h l j = c.V j) : c.has h l = false := by
  cases e : c.has h l with
  | false => rfl
  | true => exact absurd ((has_match c h l hs).1 e j hj hk) hne
theorem step_ok {P : Nat → Prop} {k m : Nat} (hm : m + k = 127) (h : ∀ j, j < 128 → 128 ≤ j + k → P j) (hp : P m) : ∀ j, j < 128 → 128 ≤ j + (k + 1) → P j := fun j hj hk => by
  by_cases e : j = m
  · subst e; exact hp
  · exact h j hj (by omega)
theorem text_len {c : Cb} {s : ByteArray} (hs : txt c = s) : s.size = 128 := by subst hs; exact txt_size c

end Go.Proofs

namespace Go.Proofs.Hd
open Go.RowKit
/-- Block b begins with the 128 bytes f, which may be written. -/
def ByRow (w : World) (b : Nat) (f : Nat → UInt8) : Prop := ∀ i, i < 128 → w.cell? ⟨b, i, none⟩ = some (.int .u8 (f i).toNat) ∧ w.frozen? ⟨b, i, none⟩ = false
theorem ByRow.start (w : World) (s : ByteArray) (cap : Nat) (t : TypeId) (hs : s.size = 128) (f : Nat → UInt8) (hf : ∀ i (h : i < s.size), s[i] = f i) :
    ByRow (w.drew.alloc (.cells (bytesRow s cap) t ((bytesRow s cap).size, (bytesRow s cap).size + 1))) w.heap.size f := by
  intro i hi
  have hh : (w.drew.alloc (.cells (bytesRow s cap) t ((bytesRow s cap).size, (bytesRow s cap).size + 1))).heap[w.heap.size]? = some (.cells (bytesRow s cap) t ((bytesRow s cap).size, (bytesRow s cap).size + 1)) := heap_alloc_new w.drew _
  have hn : 128 ≤ (bytesRow s cap).size := by
    unfold bytesRow
    rw [Array.size_append, Array.size_map]
    have : s.data.size = 128 := hs
    omega
  constructor
  · rw [cell_of_row _ _ _ _ _ _ hh]
    unfold bytesRow
    have hd : i < s.data.size := by have : s.data.size = 128 := hs; omega
    rw [Array.getElem?_append_left (by rw [Array.size_map]; exact hd), Array.getElem?_map, Array.getElem?_eq_getElem hd]
    have := hf i (by omega)
    rw [← this]; rfl
  · simp only [World.frozen?, hh]
    simp; omega
theorem ByRow.set {w : World} {b : Nat} {f : Nat → UInt8} (h : ByRow w b f) (k : Nat) (hk : k < 128) (g : Nat → UInt8) (v : Int) (hv : v = ((g k).toNat : Int)) (hg : ∀ i, i < 128 → i ≠ k → g i = f i) : ByRow (w.setCell ⟨b, k, none⟩ (.int .u8 v)) b g := by
  intro i hi
  subst hv
  refine ⟨?_, by rw [World.frozen?_setCell]; exact (h i hi).2⟩
  by_cases e : i = k
  · subst e; exact World.cell?_setCell_same _ _ _ (h i hi).1
  · rw [World.cell?_setCell_other (h := by intro c; injection c with _ c; exact e c.symm), (h i hi).1, hg i hi e]
theorem ByRow.congr {w : World} {b : Nat} {f g : Nat → UInt8} (h : ByRow w b f) (hg : ∀ i, i < 128 → g i = f i) : ByRow w b g := fun i hi => by rw [hg i hi]; exact h i hi
theorem ByRow.on {w w' : World} {b : Nat} {f : Nat → UInt8} (h : ByRow w b f) (hb : Below w.heap.size w w') : ByRow w' b f := fun i hi =>
  have hl := World.block_lt_of_cell? w ⟨b, i, none⟩ (h i hi).1
  ⟨(hb.cell hl).trans (h i hi).1, (hb.frozen hl).trans (h i hi).2⟩
theorem join_sign {a b : Cb} (ha : a.snd = true) (hb : b.snd = true) {j : Nat} (hj : j < 128) :
    (a.K j = false → sgn (a.join b) j = sgn b j) ∧ (a.K j = true → (b.K j = true → a.V j = b.V j) → sgn (a.join b) j = sgn a j) := by
  have jv : (a.join b).V j = (a.V j || b.V j) := by unfold Cb.V Cb.join; rw [hbit_or]
  have jk : (a.join b).K j = (a.K j || b.K j) := by unfold Cb.K Cb.join; rw [hbit_or]
  have h3 := (Cb.snd_iff a).1 ha j hj
  have h4 := (Cb.snd_iff b).1 hb j hj
  unfold sgn
  rw [jv, jk]
  revert h3 h4
  generalize a.K j = k1
  generalize b.K j = k2
  generalize a.V j = v1
  generalize b.V j = v2
  cases k1 <;> cases k2 <;> cases v1 <;> cases v2 <;> simp
/-- The first k signs are those of the intersection, the others those of the first. -/
def mixT (a b : Cb) (k : Nat) : Nat → UInt8 := fun i => if i < k then sgn (a.join b) (127 - i) else sgn a (127 - i)
theorem mixT_zero (a b : Cb) (i : Nat) : mixT a b 0 i = sgn a (127 - i) := by simp [mixT]
theorem mixT_far (a b : Cb) (k : Nat) : ∀ i, i < 128 → i ≠ k → mixT a b (k + 1) i = mixT a b k i := fun i _ h => by
  unfold mixT
  by_cases c : i < k
  · rw [if_pos c, if_pos (by omega)]
  · rw [if_neg c, if_neg (by omega)]
theorem mixT_at (a b : Cb) (k : Nat) : mixT a b (k + 1) k = sgn (a.join b) (127 - k) := by unfold mixT; rw [if_pos (by omega)]
theorem mixT_same (a b : Cb) (k m : Nat) (hm : m + k = 127) (h : sgn (a.join b) m = sgn a m) : ∀ i, i < 128 → mixT a b (k + 1) i = mixT a b k i := fun i hi => by
  by_cases e : i = k
  · subst e
    rw [mixT_at, show 127 - i = m by omega, h]
    unfold mixT; rw [if_neg (by omega), show 127 - i = m by omega]
  · exact mixT_far a b k i hi e
theorem mixT_all (a b : Cb) (i : Nat) (hi : i < 128) : mixT a b 128 i = sgn (a.join b) (127 - i) := by unfold mixT; rw [if_pos hi]
theorem txtL_get (c : Cb) (j : Nat) (hj : j < (txtL c).length) : (txtL c)[j] = sgn c (127 - j) := by simp [txtL]
theorem agr_fails {a b : Cb} {j : Nat} (hj : j < 128) (h1 : a.K j = true) (h2 : b.K j = true) (hne : ¬ a.V j = b.V j) : a.agr b = false := by
  cases e : a.agr b with
  | false => rfl
  | true => exact absurd ((Cb.agr_iff a b).1 e j hj h1 h2) hne
theorem wit_match {a b : Cb} (ha : a.snd = true) (hb : b.snd = true) : a.wit b = true ↔ ∀ j, j < 128 → b.K j = true → a.K j = true ∧ a.V j = b.V j := by
  rw [Cb.wit_iff]
  constructor
  · rintro ⟨_, _, h3, h4⟩ j hj hk; exact ⟨h3 j hj hk, h4 j hj (h3 j hj hk) hk⟩
  · intro H; exact ⟨ha, hb, fun j hj hk => (H j hj hk).1, fun j hj _ hk => (H j hj hk).2⟩
theorem wit_fails {a b : Cb} (ha : a.snd = true) (hb : b.snd = true) {j : Nat} (hj : j < 128) (h2 : b.K j = true) (hne : ¬ (a.K j = true ∧ a.V j = b.V j)) : a.wit b = false := by
  cases e : a.wit b with
  | false => rfl
  | true => exact absurd ((wit_match ha hb).1 e j hj h2) hne
end Go.Proofs.Hd

namespace Go.Proofs
open Go.RowKit Go.Proofs.Hd
attribute [local go_sem] uv_nonneg
theorem bel_drewN {B : Nat} {w w' : World} (n : Nat) (h : Below B w w') : Below B w (w'.drewN n) := ⟨h.os, h.tape, h.output, h.size, h.block⟩
theorem sgnat {c : Cb} {s : ByteArray} (hs : txt c = s) (k m : Nat) (hm : m + k = 127) (hk : k < s.size) : s[k]'hk = sgn c m := by
  subst hs; rw [txt_get, show 127 - k = m by omega]
theorem toBytes (u : World) (s : ByteArray) : (convert 9 83 (.string s)).run Try.prog u = .ok (.slice (some ⟨u.heap.size, 0, none⟩) s.size (grownCap u s.size 0 5))
      (u.drew.alloc (.cells (bytesRow s (grownCap u s.size 0 5)) 5 ((bytesRow s (grownCap u s.size 0 5)).size, (bytesRow s (grownCap u s.size 0 5)).size + 1))) :=
  run_bytes_of_string u 9 83 5 s Try.underlying9 Try.underlying83 Try.underlying5
theorem fromBytes (u : World) (c : Cb) (b n cap : Nat) (hn : n = 128) (h : ByRow u b (fun i => sgn c (127 - i))) : (convert 83 9 (.slice (some ⟨b, 0, none⟩) n cap)).run Try.prog u = .ok (.string (txt c)) u := by
  subst hn
  have k := run_convert_bytes_back (P := Try.prog) u 83 9 5 ⟨b, 0, none⟩ cap (txtL c) Try.underlying83 Try.underlying5 Try.underlying9 (fun j hj => by
    have ha : (⟨b, 0, none⟩ : Addr).add j = ⟨b, j, none⟩ := by unfold Addr.add; split <;> simp_all
    rw [ha, (h j (by rw [txtL_len] at hj; exact hj)).1, txtL_get])
  rw [txtL_len] at k
  exact k

end Go.Proofs

namespace Go.Proofs
open Go.RowKit Go.Proofs.Hd
attribute [local go_sem] uv_nonneg
/-- The bits from bit 128 - k on. -/
def upB (f : Nat → Bool) (k : Nat) : Nat → Bool := fun j => decide (128 ≤ j + k) && f j
theorem upB_zero (f : Nat → Bool) : bl (fun _ => false) = bl (upB f 0) := bl_congr fun j hj => by simp [upB]; omega
theorem upB_put (f : Nat → Bool) (k m : Nat) (hm : m + k = 127) (x : Bool) (hx : f m = x) : (bl (upB f k)).set m (.bool x) = bl (upB f (k + 1)) := by
  subst hx
  rw [bl_set]
  apply bl_congr
  intro j hj
  unfold upB
  by_cases e : j = m
  · subst e; rw [if_pos rfl]; simp; omega
  · rw [if_neg e]
    have : (128 ≤ j + (k + 1)) ↔ (128 ≤ j + k) := by omega
    simp [this]
theorem upB_num (h l : BitVec 64) : num (upB (hbit h l) 128) 64 64 = h ∧ num (upB (hbit h l) 128) 0 64 = l := num_of_bits fun j hj => by simp [upB]
theorem zfar {w : World} {r : Nat} {p : Addr} {v : Value} (h : Zero4 w r) (hp : p.block ≠ r) : Zero4 (w.setCell p v) r := fun i hi =>
  ⟨(World.cell?_setCell_far w p ⟨r, i, none⟩ v hp).trans (h i hi).1, by rw [World.frozen?_setCell]; exact (h i hi).2⟩
theorem zcells {w : World} {r b : Nat} {vs : List Value} (h : Zero4 w r) (hp : r < b) : Zero4 (w.setCells b 0 vs) r := by
  have hb : Below b w (w.setCells b 0 vs) := Below.setCells vs 0 w (Below.refl _ _) (Nat.le_refl _)
  exact fun i hi => ⟨(hb.cell (p := ⟨r, i, none⟩) hp).trans (h i hi).1, (hb.frozen (p := ⟨r, i, none⟩) hp).trans (h i hi).2⟩

theorem rhead_is (f : Nat → Bool) (h l : BitVec 64) (w : World) (hn : num f 64 64 = h ∧ num f 0 64 = l) : Calls Try.prog 39 #[.agg (bl f).toArray] w fun e w' => e = .returned (.agg #[.int .u64 (uv h), .int .u64 (uv l)]) ∧ Below w.heap.size w w' := by
  obtain ⟨rfl, rfl⟩ := hn; exact refhead_c f w
theorem range_apart4 {b r : Nat} {f : Nat → Bool} {w : World} {a0 a1 a2 a3 : Value} (h : w.rangeAt b 0 (bl f)) (hne : r ≠ b) : ((((w.setCell ⟨r, 0, none⟩ a0).setCell ⟨r, 1, none⟩ a1).setCell ⟨r, 2, none⟩ a2).setCell ⟨r, 3, none⟩ a3).rangeAt b 0 (bl f) := by
  intro j v hv
  rw [World.cell?_setCell_far _ _ _ _ hne, World.cell?_setCell_far _ _ _ _ hne, World.cell?_setCell_far _ _ _ _ hne, World.cell?_setCell_far _ _ _ _ hne]
  exact h j v hv
theorem range_on {b : Nat} {f : Nat → Bool} {w w' : World} (hb : Below w.heap.size w w') (h : w.rangeAt b 0 (bl f)) : w'.rangeAt b 0 (bl f) := range_below hb h (World.block_lt_of_cell? w ⟨b, 0, none⟩ (range_cell h (by omega : 0 < 128)))
end Go.Proofs

namespace Go.Proofs
open Go.RowKit Go.Proofs.Hd
attribute [local go_sem] uv_nonneg
def setB (hh hl svh svl sch scl : BitVec 64) : Nat → Bool := fun j => if hbit sch scl j = true then hbit svh svl j else hbit hh hl j
theorem setB_num (hh hl svh svl sch scl : BitVec 64) : num (setB hh hl svh svl sch scl) 64 64 = ((hh &&& ~~~sch) ||| (svh &&& sch)) ∧ num (setB hh hl svh svl sch scl) 0 64 = ((hl &&& ~~~scl) ||| (svl &&& scl)) :=
  num_of_bits fun j hj => by
    rw [hbit_or, hbit_andNot _ _ _ _ _ hj, hbit_and]
    unfold setB
    cases hbit sch scl j <;> cases hbit svh svl j <;> cases hbit hh hl j <;> rfl
theorem mix_stay (f g : Nat → Bool) (k : Nat) (h : g k = f k) : bl (mix f g k) = bl (mix f g (k + 1)) := bl_congr fun j _ => by
  unfold mix
  by_cases e : j = k
  · subst e; rw [if_neg (by omega), if_pos (by omega), h]
  · by_cases c : j < k
    · rw [if_pos c, if_pos (by omega)]
    · rw [if_neg c, if_neg (by omega)]
theorem z2far {w : World} {r : Nat} {p : Addr} {v : Value} (h : Zero2 w r) (hp : p.block ≠ r) : Zero2 (w.setCell p v) r := fun i hi =>
  ⟨(World.cell?_setCell_far w p ⟨r, i, none⟩ v hp).trans (h i hi).1, by rw [World.frozen?_setCell]; exact (h i hi).2⟩

set_option maxRecDepth 100000 in
set_option maxHeartbeats 4000000 in
theorem rset_c (hh hl svh svl sch scl : BitVec 64) (w : World) : Calls Try.prog 19 #[.agg #[.int .u64 (uv hh), .int .u64 (uv hl)], .agg #[.int .u64 (uv svh), .int .u64 (uv svl), .int .u64 (uv sch), .int .u64 (uv scl)]] w fun e w' => e = .returned (.agg #[.int .u64 (uv ((hh &&& ~~~sch) ||| (svh &&& sch))), .int .u64 (uv ((hl &&& ~~~scl) ||| (svl &&& scl)))]) ∧ Below w.heap.size w w' := by
  have S0 := below3 w (.cells #[.int .u64 (uv hh), .int .u64 (uv hl)] 44) (.cells #[.int .u64 (uv svh), .int .u64 (uv svl), .int .u64 (uv sch), .int .u64 (uv scl)] 46) (.cells #[.int .u64 0, .int .u64 0] 44)
  have Z0 := zero2_at ((w.alloc (.cells #[.int .u64 (uv hh), .int .u64 (uv hl)] 44)).alloc (.cells #[.int .u64 (uv svh), .int .u64 (uv svl), .int .u64 (uv sch), .int .u64 (uv scl)] 46)) (w.heap.size + 1 + 1) (by simp)
  go_enter Try.func19, Try.ntmps19
  go_upto_region 1 with (fail)
  refine set_region hh hl svh svl sch scl w _ _ ?_ ?_ ⟨S0, by go_simp, by go_simp, by go_simp, by go_simp, by go_simp, by go_simp⟩ Z0
  · intro c a d v w h; exact h
  intro b8 b9 b10 u BW ZW R8 R9 R10 g8 n1 n2 n3
  clear S0 Z0
  go_wp2_with fail
  go_loopg [8] 128 (fun g i wr => ∃ k : Nat, k ≤ 128 ∧ g = 128 - k ∧ i = .int .i64 k ∧ Below w.heap.size w wr ∧ Zero2 wr (w.heap.size + 1 + 1) ∧ Row wr b8 (mix (hbit hh hl) (setB hh hl svh svl sch scl) k) ∧ Row wr b9 (hbit svh svl) ∧ Row wr b10 (hbit sch scl))
  case atStart => exact ⟨0, by omega, rfl, rfl, BW, ZW, by rw [mix_zero]; exact R8, R9, R10⟩
  case round =>
    clear BW ZW R8 R9 R10
    obtain ⟨k, hk, rfl, rfl, BW, ZW, R8, R9, R10⟩ := hrel
    by_cases hlt : k < 128
    · have hlt' : (k : Int) < 128 := by omega
      have c8 := R8.cell hlt
      have f8 := R8.froz hlt
      have c9 := R9.cell hlt
      have c10 := R10.cell hlt
      cases hK : hbit sch scl k
      · have HN : Hid (setB hh hl svh svl sch scl k = hbit hh hl k) := Lib.hid (by unfold setB; rw [hK]; rfl)
        rw [hK] at c10
        clear hK
        go_wp2
        go_roundg (128 - (k + 1))
        case measure => omega
        case rel => exact ⟨k + 1, by omega, rfl, by go_num, BW, ZW, R8.congr (mix_stay _ _ k HN.out), R9, R10⟩
      · have HN : Hid (hbit svh svl k = setB hh hl svh svl sch scl k) := Lib.hid (by unfold setB; rw [hK]; rfl)
        rw [hK] at c10
        clear hK
        go_wp2
        go_roundg (128 - (k + 1))
        case measure => omega
        case rel => exact ⟨k + 1, by omega, rfl, by go_num, BW.setCell (by dsimp only; omega) _, z2far ZW (by dsimp only; omega), R8.set hlt (mix_set _ _ k _ HN.out), R9.far (by dsimp only; omega), R10.far (by dsimp only; omega)⟩
    · obtain rfl : k = 128 := by omega
      have RX := R8.congr (mix_all _ _)
      have hi1 : (Try.prog.info? 81).map (·.size) = some (bl (setB hh hl svh svl sch scl)).length := by rw [(zero_of_info info25).2, bl_len]
      have hN := Lib.hid (setB_num hh hl svh svl sch scl)
      clear R8 R9 R10
      go_wp2_with (refine wpList_load_mid rfl 81 (.tmp 5) rfl b8 0 rfl (bl (setB hh hl svh svl sch scl)) _ RX.1 Try.underlying81 rfl hi1 ?_)
      (with_reducible refine (rhead_is (setB hh hl svh svl sch scl) _ _ _ hN.out).mono ?_)
      rintro e w1 ⟨rfl, hb⟩
      have BE := BW.trans (hb.mono BW.size)
      have Y := (Zero2.on hb ZW).out
      clear hb RX BW ZW hi1
      go_wp2
      exact bodyPost_ret (v := .agg #[.int .u64 (uv ((hh &&& ~~~sch) ||| (svh &&& sch))), .int .u64 (uv ((hl &&& ~~~scl) ||| (svl &&& scl)))]) (by simp [results, Try.results19, go_sem, Y]) rfl ⟨rfl, BE.trans ((sets2 _ _ _ _).mono (by omega))⟩
end Go.Proofs

namespace Go.Proofs.Hd
open Go.RowKit
/-- g from a below k, f elsewhere. -/
def ov (f g : Nat → Bool) (a k : Nat) : Nat → Bool := fun j => if a ≤ j ∧ j < k then g j else f j
theorem ov_start (f g : Nat → Bool) (a : Nat) : ov f g a a = f := by funext j; unfold ov; rw [if_neg (by omega)]
theorem ov_set (f g : Nat → Bool) (a k : Nat) (b : Bool) (ha : a ≤ k) (h : b = g k) : (bl (ov f g a k)).set k (.bool b) = bl (ov f g a (k + 1)) := by
  subst h
  rw [bl_set]
  apply bl_congr
  intro j _
  unfold ov
  by_cases e : j = k
  · subst e; simp [ha]
  · rw [if_neg e]
    have : (j < k + 1) ↔ (j < k) := by omega
    simp [this]
/-- The bits of a header that was stamped. -/
def sF (hh hl : BitVec 64) (n m : Nat) : Nat → Bool := fun j => if j < 88 then hbit hh hl j else Go.Proofs.stF n m j
theorem sF_all (hh hl : BitVec 64) (n m : Nat) : bl (ov (ov (ov (hbit hh hl) (fun _ => false) 88 128) (fun j => (n + 1).testBit (j - 88)) 88 112) (fun j => m.testBit (j - 112)) 112 120) = bl (sF hh hl n m) := bl_congr fun j hj => by
  unfold ov sF Go.Proofs.stF
  by_cases h1 : j < 88
  · rw [if_pos h1, if_neg (by omega), if_neg (by omega), if_neg (by omega)]
  · rw [if_neg h1]
    by_cases h2 : j < 112
    · rw [if_pos h2, if_neg (by omega), if_pos (by omega)]
    · rw [if_neg h2]
      by_cases h3 : j < 120
      · rw [if_pos h3, if_pos (by omega)]
      · rw [if_neg h3, if_neg (by omega), if_neg (by omega), if_pos (by omega)]
theorem odd_bit (N i q : Nat) (hq : q = N / 2 ^ i) : ((q : Int) % 2 == 1) = N.testBit i := by
  have e : (q : Int) % 2 = ((q % 2 : Nat) : Int) := rfl
  rw [e, Nat.testBit_eq_decide_div_mod_eq, hq]
  by_cases h : N / 2 ^ i % 2 = 1
  · simp [h]
  · have h2 : N / 2 ^ i % 2 = 0 := by omega
    simp [h2]
theorem half (N i q : Nat) (hq : q = N / 2 ^ i) : q / 2 = N / 2 ^ (i + 1) := by rw [hq, Nat.div_div_eq_div_mul, Nat.pow_succ]
/-- What Set makes of a stamp is what Stamp makes. -/
theorem set_stamp {n m : Nat} {vh vl ch cl : BitVec 64} (h : Go.Proofs.StB n m 3 vh vl ch cl) (hh hl : BitVec 64) : num (sF hh hl n m) 64 64 = ((hh &&& ~~~ch) ||| (vh &&& ch)) ∧ num (sF hh hl n m) 0 64 = ((hl &&& ~~~cl) ||| (vl &&& cl)) := by
  refine num_of_bits fun j hj => ?_
  rw [hbit_or, hbit_andNot _ _ _ _ _ hj, hbit_and, (h j hj).1, (h j hj).2]
  have e : Go.Proofs.stE 3 = 128 := rfl
  rw [e]
  unfold sF
  by_cases h1 : j < 88
  · have h2 : ¬ 88 ≤ j := by omega
    simp [h1, h2]
  · have h2 : 88 ≤ j := by omega
    simp [h1, h2, hj]
end Go.Proofs.Hd
namespace Go.Proofs
open Go.RowKit Go.Proofs.Hd Go.Lib
attribute [local go_sem] uv_nonneg
set_option maxRecDepth 100000 in
set_option maxHeartbeats 4000000 in
theorem rstamp_c (hh hl : BitVec 64) (n m : Nat) (hn : n ≤ 3) (hm : m ≤ 255) (w : World) : Calls Try.prog 20 #[.agg #[.int .u64 (uv hh), .int .u64 (uv hl)], .int .i64 (n : Int), .int .i64 (m : Int)] w fun e w' => e = .returned (.agg #[.int .u64 (uv (num (sF hh hl n m) 64 64)), .int .u64 (uv (num (sF hh hl n m) 0 64))]) ∧ Below w.heap.size w w' := by
  have hnz : (n : Int) ≤ 3 := by omega
  have hmz : (m : Int) ≤ 255 := by omega
  have B0 := Lib.hid (below2 w (.cells #[.int .u64 (uv hh), .int .u64 (uv hl)] 44) (.cells #[.int .u64 0, .int .u64 0] 44))
  have Z0 := zero2_at (w.alloc (.cells #[.int .u64 (uv hh), .int .u64 (uv hl)] 44)) (w.heap.size + 1) (by simp)
  have hz := zero25
  have hbd := build25
  go_enter Try.func20, Try.ntmps20
  go_wp2_with fail
  (with_reducible refine (bits_c hh hl _).mono ?_)
  rintro e w1 ⟨rfl, hb1⟩
  have B1 := Lib.hid (B0.out.trans (hb1.mono B0.out.size))
  have Z1 := Lib.hid (Zero2.on hb1 Z0)
  have hzl : w.heap.size + 1 < w1.heap.size := World.block_lt_of_cell? w1 ⟨w.heap.size + 1, 0, none⟩ (Z1.out 0 (by omega)).1
  clear hb1 B0 Z0
  go_wp2_with (refine put_new rfl _ _ rfl (fun _ => false) (hbit hh hl) _ rfl rfl rfl ?_)
  have bR := below1 w1 (.cells (bl (hbit hh hl)).toArray 81)
  have hR : Row (w1.alloc (.cells (bl (hbit hh hl)).toArray 81)) w1.heap.size (hbit hh hl) := ⟨range_of_alloc w1 _ _, there_of_alloc w1 _ _⟩
  have HB := Lib.hid (B1.out.trans (bR.mono B1.out.size))
  have HZ := Lib.hid (Zero2.on bR Z1.out)
  have HR : Hid (Row (w1.alloc (.cells (bl (hbit hh hl)).toArray 81)) w1.heap.size (ov (hbit hh hl) (fun _ => false) 88 88)) := by show Row _ _ _; rw [ov_start]; exact hR
  clear bR hR hz hbd
  generalize w1.alloc (.cells (bl (hbit hh hl)).toArray 81) = w2 at HB HZ HR ⊢
  go_wp2
  go_loopg [10] 40 (fun gk s10 wr => ∃ k : Nat, 88 ≤ k ∧ k ≤ 128 ∧ gk = 128 - k ∧ s10 = .int .i64 k ∧ Hid (Row wr w1.heap.size (ov (hbit hh hl) (fun _ => false) 88 k)) ∧ Hid (Zero2 wr (w.heap.size + 1)) ∧ Hid (Below w.heap.size w wr))
  case atStart => exact ⟨88, Nat.le_refl _, by omega, rfl, rfl, HR, HZ, HB⟩
  case round =>
    clear HR HZ HB
    obtain ⟨k, hk1, hk2, rfl, rfl, HR, HZ, HB⟩ := hrel
    by_cases hlt : k < 128
    · have hlt' : (k : Int) < 128 := by omega
      have c7 := HR.out.cell hlt
      have f7 := HR.out.froz hlt
      have HR2 := Lib.hid (HR.out.set hlt (ov_set (hbit hh hl) (fun _ => false) 88 k false hk1 rfl))
      have HZ2 := Lib.hid (z2far (p := ⟨w1.heap.size, k, none⟩) (v := .bool false) HZ.out (by dsimp only; omega))
      have HB2 := Lib.hid (HB.out.setCell (p := ⟨w1.heap.size, k, none⟩) (by dsimp only; omega) (.bool false))
      clear HR HZ HB
      go_wp2
      go_roundg (128 - (k + 1))
      case measure => omega
      case rel => exact ⟨k + 1, by omega, by omega, rfl, by go_num, HR2, HZ2, HB2⟩
    · obtain rfl : k = 128 := by omega
      have HR1 : Hid (Row wr w1.heap.size (ov (ov (hbit hh hl) (fun _ => false) 88 128) (fun j => (n + 1).testBit (j - 88)) 88 88)) := by show Row _ _ _; rw [ov_start]; exact HR.out
      clear HR
      go_wp2
      go_loopg [8, 11] 24 (fun gk s8 s11 wr => ∃ (k q : Nat), 88 ≤ k ∧ k ≤ 112 ∧ gk = 112 - k ∧ s8 = .int .i64 (q : Int) ∧ s11 = .int .i64 k ∧ q ≤ 4 ∧ Hid (q = (n + 1) / 2 ^ (k - 88)) ∧ Hid (Row wr w1.heap.size (ov (ov (hbit hh hl) (fun _ => false) 88 128) (fun j => (n + 1).testBit (j - 88)) 88 k)) ∧ Hid (Zero2 wr (w.heap.size + 1)) ∧ Hid (Below w.heap.size w wr))
      case atStart => exact ⟨88, n + 1, Nat.le_refl _, by omega, rfl, rfl, rfl, by omega, (by show n + 1 = (n + 1) / 2 ^ (88 - 88); simp), HR1, HZ, HB⟩
      case round =>
        clear HR1 HZ HB
        rename_i wr0
        obtain ⟨k, q, hk1, hk2, rfl, rfl, rfl, hq4, HQ, HR, HZ, HB⟩ := hrel
        by_cases hlt : k < 112
        · have hlt' : (k : Int) < 112 := by omega
          have hlt2 : (k : Int) < 128 := by omega
          have hq4z : (q : Int) ≤ 4 := by omega
          have hk128 : k < 128 := by omega
          have c7 := HR.out.cell hk128
          have f7 := HR.out.froz hk128
          obtain ⟨b, hb⟩ : ∃ b, ((q : Int) % 2 == 1) = b := ⟨_, rfl⟩
          have hbk : b = (fun j => (n + 1).testBit (j - 88)) k := by rw [← hb]; exact odd_bit (n + 1) (k - 88) q HQ.out
          have HR2 := Lib.hid (HR.out.set hk128 (ov_set (ov (hbit hh hl) (fun _ => false) 88 128) (fun j => (n + 1).testBit (j - 88)) 88 k b hk1 hbk))
          have HZ2 := Lib.hid (z2far (p := ⟨w1.heap.size, k, none⟩) (v := .bool b) HZ.out (by dsimp only; omega))
          have HB2 := Lib.hid (HB.out.setCell (p := ⟨w1.heap.size, k, none⟩) (by dsimp only; omega) (.bool b))
          obtain ⟨q2, hq2⟩ : ∃ q2 : Nat, q2 = q / 2 := ⟨_, rfl⟩
          have hd : (q : Int).tdiv 2 = (q2 : Int) := by rw [hq2]; rfl
          have HQ2 : Hid (q2 = (n + 1) / 2 ^ (k + 1 - 88)) := by show _ = _; rw [hq2, show k + 1 - 88 = k - 88 + 1 by omega]; exact half (n + 1) (k - 88) q HQ.out
          have hq24 : q2 ≤ 4 := by omega
          have hq24z : (q2 : Int) ≤ 4 := by omega
          clear HR HZ HB hbk hq2 HQ
          go_wp2
          go_roundg (112 - (k + 1))
          case measure => omega
          case rel => exact ⟨k + 1, q2, by omega, by omega, rfl, rfl, by go_num, hq24, HQ2, HR2, HZ2, HB2⟩
        · obtain rfl : k = 112 := by omega
          have HR1 : Hid (Row wr w1.heap.size (ov (ov (ov (hbit hh hl) (fun _ => false) 88 128) (fun j => (n + 1).testBit (j - 88)) 88 112) (fun j => m.testBit (j - 112)) 112 112)) := by show Row _ _ _; rw [ov_start]; exact HR.out
          clear HR HQ
          go_wp2
          go_loopg [9, 12] 8 (fun gk s9 s12 wr => ∃ (k q : Nat), 112 ≤ k ∧ k ≤ 120 ∧ gk = 120 - k ∧ s9 = .int .i64 (q : Int) ∧ s12 = .int .i64 k ∧ q ≤ 255 ∧ Hid (q = m / 2 ^ (k - 112)) ∧ Hid (Row wr w1.heap.size (ov (ov (ov (hbit hh hl) (fun _ => false) 88 128) (fun j => (n + 1).testBit (j - 88)) 88 112) (fun j => m.testBit (j - 112)) 112 k)) ∧ Hid (Zero2 wr (w.heap.size + 1)) ∧ Hid (Below w.heap.size w wr))
          case atStart => exact ⟨112, m, Nat.le_refl _, by omega, rfl, rfl, rfl, by omega, (by show m = m / 2 ^ (112 - 112); simp), HR1, HZ, HB⟩
          case round =>
            clear HR1 HZ HB
            rename_i wr1
            obtain ⟨k, q, hk1, hk2, rfl, rfl, rfl, hq4, HQ, HR, HZ, HB⟩ := hrel
            by_cases hlt : k < 120
            · have hlt' : (k : Int) < 120 := by omega
              have hlt2 : (k : Int) < 128 := by omega
              have hq4z : (q : Int) ≤ 255 := by omega
              have hk128 : k < 128 := by omega
              have c7 := HR.out.cell hk128
              have f7 := HR.out.froz hk128
              obtain ⟨b, hb⟩ : ∃ b, ((q : Int) % 2 == 1) = b := ⟨_, rfl⟩
              have hbk : b = (fun j => m.testBit (j - 112)) k := by rw [← hb]; exact odd_bit m (k - 112) q HQ.out
              have HR2 := Lib.hid (HR.out.set hk128 (ov_set (ov (ov (hbit hh hl) (fun _ => false) 88 128) (fun j => (n + 1).testBit (j - 88)) 88 112) (fun j => m.testBit (j - 112)) 112 k b hk1 hbk))
              have HZ2 := Lib.hid (z2far (p := ⟨w1.heap.size, k, none⟩) (v := .bool b) HZ.out (by dsimp only; omega))
              have HB2 := Lib.hid (HB.out.setCell (p := ⟨w1.heap.size, k, none⟩) (by dsimp only; omega) (.bool b))
              obtain ⟨q2, hq2⟩ : ∃ q2 : Nat, q2 = q / 2 := ⟨_, rfl⟩
              have hd : (q : Int).tdiv 2 = (q2 : Int) := by rw [hq2]; rfl
              have HQ2 : Hid (q2 = m / 2 ^ (k + 1 - 112)) := by show _ = _; rw [hq2, show k + 1 - 112 = k - 112 + 1 by omega]; exact half m (k - 112) q HQ.out
              have hq24 : q2 ≤ 255 := by omega
              have hq24z : (q2 : Int) ≤ 255 := by omega
              clear HR HZ HB hbk hq2 HQ
              go_wp2
              go_roundg (120 - (k + 1))
              case measure => omega
              case rel => exact ⟨k + 1, q2, by omega, by omega, rfl, rfl, by go_num, hq24, HQ2, HR2, HZ2, HB2⟩
            · obtain rfl : k = 120 := by omega
              have RX := HR.out.congr (sF_all hh hl n m)
              have hi1 : (Try.prog.info? 81).map (·.size) = some (bl (sF hh hl n m)).length := by rw [(zero_of_info info25).2, bl_len]
              clear HR HQ
              go_wp2_with (refine wpList_load_mid rfl 81 (.tmp 7) rfl w1.heap.size 0 rfl (bl (sF hh hl n m)) _ RX.1 Try.underlying81 rfl hi1 ?_)
              (with_reducible refine (refhead_c (sF hh hl n m) _).mono ?_)
              rintro e w5 ⟨rfl, hb⟩
              have BE := Lib.hid (HB.out.trans (hb.mono HB.out.size))
              have Y := (Zero2.on hb HZ.out).out
              clear hb RX HZ HB hi1
              go_wp2
              exact bodyPost_ret (v := .agg #[.int .u64 (uv (num (sF hh hl n m) 64 64)), .int .u64 (uv (num (sF hh hl n m) 0 64))]) (by simp [results, Try.results20, go_sem, Y]) rfl ⟨rfl, BE.out.trans ((sets2 _ _ _ _).mono (by omega))⟩
end Go.Proofs

namespace Go.Proofs.Hd
open Go.RowKit
theorem care_eq {n m : Nat} {vh vl ch cl : BitVec 64} (h : Go.Proofs.StB n m 3 vh vl ch cl) : eq2 (uv ch) (uv cl) 18446744073692774400 0 = true := by
  obtain ⟨e1, e2⟩ := head_ext (h := ch) (l := cl) (h' := 18446744073692774400#64) (l' := 0#64) fun j hj => by
    rw [(h j hj).1]
    revert j
    decide +kernel
  subst e1 e2
  exact eq2_self 18446744073692774400 0
theorem st_snd {n m : Nat} {vh vl ch cl : BitVec 64} (h : Go.Proofs.StB n m 3 vh vl ch cl) : sndB vh vl ch cl = true := by
  refine (snd_bits _ _ _ _).2 fun j hj h1 => ?_
  rw [(h j hj).2] at h1
  rw [(h j hj).1]
  exact (Bool.and_eq_true _ _ ▸ h1 : _ ∧ _).1
end Go.Proofs.Hd
namespace Go.Proofs
open Go.RowKit Go.Proofs.Hd Go.Lib
theorem text4 {n m : Nat} (cvh cvl cch ccl : BitVec 64) (w : World) (h : StB n m 3 cvh cvl cch ccl) : Calls Try.prog 18 #[.agg #[.int .u64 (uv cvh), .int .u64 (uv cvl), .int .u64 (uv cch), .int .u64 (uv ccl)]] w fun e w' => ∃ s, e = .returned (.tuple #[.string s, .bool true]) ∧ Below w.heap.size w w' :=
  (text_yes ⟨cvh, cvl, cch, ccl⟩ w (st_snd h)).mono fun _ _ h => ⟨_, h⟩
attribute [local go_sem high] run_eq2
set_option maxRecDepth 100000 in
set_option maxHeartbeats 8000000 in
theorem cstl_c (tv pv wv bv : Value) (T : List (List Pt)) (ten : Int) (P : List (Int × Int)) (Q : List Wa) (BB : List (List (List Rl))) (a b ver : Int) (hh hl : BitVec 64) (w : World) (hT : PsT w tv T) (hP : Pe w pv P) (hQ : Wy w wv Q) (hB : RuQ w bv BB) : Calls Try.prog 5 #[.agg #[tv, .int .i64 ten, pv, wv, bv], .agg #[.int .i64 a, .int .i64 b], .int .i64 ver, .agg #[.int .u64 (uv hh), .int .u64 (uv hl)]] w fun e w' => e = .returned (.bool true) ∧ Below w.heap.size w w' := by
  have HT := Lib.hid hT
  have HP := Lib.hid hP
  have HQ := Lib.hid hQ
  have HBQ := Lib.hid hB
  obtain ⟨A, cap, rfl, -, -⟩ := hT
  obtain ⟨pA, pc, rfl, -, -⟩ := hP
  obtain ⟨wA, wcp, rfl, -, -⟩ := hQ
  obtain ⟨bA, bc, rfl, -, -⟩ := hB
  obtain ⟨z, hz⟩ : ∃ z, cfgT T ten P Q BB = z := ⟨_, rfl⟩
  have HZ := Lib.hid hz
  clear hz
  obtain ⟨ed, hed⟩ : ∃ ed, edgT T a b = ed := ⟨_, rfl⟩
  have HED := Lib.hid hed
  clear hed
  have HB1 : Hid (Below w.heap.size w (((w.alloc (.cells #[.slice A T.length cap, .int .i64 ten, .slice pA P.length pc, .slice wA Q.length wcp, .slice bA BB.length bc] 31)).alloc (.cells #[.int .i64 a, .int .i64 b] 41)).alloc (.cells #[.int .u64 (uv hh), .int .u64 (uv hl)] 44))) := below3 w _ _ _
  have N1 : Hid (Blk (((w.alloc (.cells #[.slice A T.length cap, .int .i64 ten, .slice pA P.length pc, .slice wA Q.length wcp, .slice bA BB.length bc] 31)).alloc (.cells #[.int .i64 a, .int .i64 b] 41)).alloc (.cells #[.int .u64 (uv hh), .int .u64 (uv hl)] 44)) w.heap.size 31 #[.slice A T.length cap, .int .i64 ten, .slice pA P.length pc, .slice wA Q.length wcp, .slice bA BB.length bc]) := ((Blk.new w _ _).on (below1 _ _)).on (below1 _ _)
  have M1 : Hid (Blk (((w.alloc (.cells #[.slice A T.length cap, .int .i64 ten, .slice pA P.length pc, .slice wA Q.length wcp, .slice bA BB.length bc] 31)).alloc (.cells #[.int .i64 a, .int .i64 b] 41)).alloc (.cells #[.int .u64 (uv hh), .int .u64 (uv hl)] 44)) (w.heap.size + 1) 41 #[.int .i64 a, .int .i64 b]) := (Blk.new2 w _ _ _).on (below1 _ _)
  have K1 : Hid (Blk (((w.alloc (.cells #[.slice A T.length cap, .int .i64 ten, .slice pA P.length pc, .slice wA Q.length wcp, .slice bA BB.length bc] 31)).alloc (.cells #[.int .i64 a, .int .i64 b] 41)).alloc (.cells #[.int .u64 (uv hh), .int .u64 (uv hl)] 44)) (w.heap.size + 1 + 1) 44 #[.int .u64 (uv hh), .int .u64 (uv hl)]) := by
    have h := Blk.new2 (w.alloc (.cells #[.slice A T.length cap, .int .i64 ten, .slice pA P.length pc, .slice wA Q.length wcp, .slice bA BB.length bc] 31)) (.cells #[.int .i64 a, .int .i64 b] 41) 44 #[.int .u64 (uv hh), .int .u64 (uv hl)]
    show Blk _ _ _ _
    simpa only [World.size_alloc] using h
  go_enter Try.func5, Try.ntmps5
  go_upto_region 1 with (fail)
  generalize (((w.alloc (.cells #[.slice A T.length cap, .int .i64 ten, .slice pA P.length pc, .slice wA Q.length wcp, .slice bA BB.length bc] 31)).alloc (.cells #[.int .i64 a, .int .i64 b] 41)).alloc (.cells #[.int .u64 (uv hh), .int .u64 (uv hl)] 44)) = w1 at HB1 N1 M1 K1 ⊢
  obtain ⟨d0, d1, d2, d3, d4⟩ := N1.out.five
  obtain ⟨s0, s1⟩ := M1.out.both
  go_wp2_with fail
  (with_reducible refine (stamp_c _ _ _ _ T ten P Q BB a b ver _ (HT.out.on HB1.out) (HP.out.on HB1.out) (HQ.out.on HB1.out) (HBQ.out.on HB1.out)).mono ?_)
  rintro e w2 ⟨hst, hb⟩
  rw [HZ.out] at hst
  by_cases hz : z = 0
  · subst hz
    by_cases hv1 : ver < 0
    · obtain rfl := hst.2.1 rfl (by omega)
      clear hst
      have bx := below1 w2 (.cells #[.int .u64 0, .int .u64 0, .int .u64 0, .int .u64 0] 46)
      have X3 := Lib.hid (Blk.new w2 46 #[.int .u64 0, .int .u64 0, .int .u64 0, .int .u64 0])
      have hw := hb.trans (bx.mono hb.size)
      have HB3 := Lib.hid (HB1.out.trans (hw.mono HB1.out.size))
      have N3 := Lib.hid (N1.out.on hw)
      have M3 := Lib.hid (M1.out.on hw)
      have K3 := Lib.hid (K1.out.on hw)
      clear hb bx hw HB1 N1 M1 K1 d0 d1 d2 d3 d4 s0 s1
      go_upto_region 2 with (fail)
      generalize w2.alloc (.cells #[.int .u64 0, .int .u64 0, .int .u64 0, .int .u64 0] 46) = w3 at HB3 N3 M3 K3 X3 ⊢
      obtain ⟨d0, d1, d2, d3, d4⟩ := N3.out.five
      go_wp2_with fail
      (with_reducible refine (rcsound_c _ _ _ _ T ten P Q BB _ (HT.out.on HB3.out) (HP.out.on HB3.out) (HQ.out.on HB3.out) (HBQ.out.on HB3.out)).mono ?_)
      rintro e w4 ⟨rfl, hb⟩
      rw [HZ.out]
      have HB4 := Lib.hid (HB3.out.trans (hb.mono HB3.out.size))
      have N4 := Lib.hid (N3.out.on hb)
      have M4 := Lib.hid (M3.out.on hb)
      have K4 := Lib.hid (K3.out.on hb)
      have X4 := Lib.hid (X3.out.on hb)
      clear hb HB3 N3 M3 K3 X3 d0 d1 d2 d3 d4
      obtain ⟨d0, d1, d2, d3, d4⟩ := N4.out.five
      obtain ⟨s0, s1⟩ := M4.out.both
      go_wp2_with fail
      (with_reducible refine (awake8_c _).mono ?_)
      rintro e w6 ⟨rfl, hb⟩
      have HB6 := Lib.hid (HB4.out.trans (hb.mono HB4.out.size))
      have X6 := Lib.hid (X4.out.on hb)
      obtain ⟨c0, c1, c2, c3⟩ := X6.out.four
      clear hb HB4 X4
      go_wp2
      go_ret
      exact ⟨rfl, HB6.out⟩
    by_cases hv2 : 255 < ver
    · obtain rfl := hst.2.1 rfl (by omega)
      clear hst
      have bx := below1 w2 (.cells #[.int .u64 0, .int .u64 0, .int .u64 0, .int .u64 0] 46)
      have X3 := Lib.hid (Blk.new w2 46 #[.int .u64 0, .int .u64 0, .int .u64 0, .int .u64 0])
      have hw := hb.trans (bx.mono hb.size)
      have HB3 := Lib.hid (HB1.out.trans (hw.mono HB1.out.size))
      have N3 := Lib.hid (N1.out.on hw)
      have M3 := Lib.hid (M1.out.on hw)
      have K3 := Lib.hid (K1.out.on hw)
      clear hb bx hw HB1 N1 M1 K1 d0 d1 d2 d3 d4 s0 s1
      go_upto_region 2 with (fail)
      generalize w2.alloc (.cells #[.int .u64 0, .int .u64 0, .int .u64 0, .int .u64 0] 46) = w3 at HB3 N3 M3 K3 X3 ⊢
      obtain ⟨d0, d1, d2, d3, d4⟩ := N3.out.five
      go_wp2_with fail
      (with_reducible refine (rcsound_c _ _ _ _ T ten P Q BB _ (HT.out.on HB3.out) (HP.out.on HB3.out) (HQ.out.on HB3.out) (HBQ.out.on HB3.out)).mono ?_)
      rintro e w4 ⟨rfl, hb⟩
      rw [HZ.out]
      have HB4 := Lib.hid (HB3.out.trans (hb.mono HB3.out.size))
      have N4 := Lib.hid (N3.out.on hb)
      have M4 := Lib.hid (M3.out.on hb)
      have K4 := Lib.hid (K3.out.on hb)
      have X4 := Lib.hid (X3.out.on hb)
      clear hb HB3 N3 M3 K3 X3 d0 d1 d2 d3 d4
      obtain ⟨d0, d1, d2, d3, d4⟩ := N4.out.five
      obtain ⟨s0, s1⟩ := M4.out.both
      go_wp2_with fail
      (with_reducible refine (awake8_c _).mono ?_)
      rintro e w6 ⟨rfl, hb⟩
      have HB6 := Lib.hid (HB4.out.trans (hb.mono HB4.out.size))
      have X6 := Lib.hid (X4.out.on hb)
      obtain ⟨c0, c1, c2, c3⟩ := X6.out.four
      clear hb HB4 X4
      go_wp2
      go_ret
      exact ⟨rfl, HB6.out⟩
    by_cases hed : ed < 0
    · obtain rfl := hst.2.2.1 rfl ⟨by omega, by omega⟩ (by rw [HED.out]; exact hed)
      clear hst
      have bx := below1 w2 (.cells #[.int .u64 0, .int .u64 0, .int .u64 0, .int .u64 0] 46)
      have X3 := Lib.hid (Blk.new w2 46 #[.int .u64 0, .int .u64 0, .int .u64 0, .int .u64 0])
      have hw := hb.trans (bx.mono hb.size)
      have HB3 := Lib.hid (HB1.out.trans (hw.mono HB1.out.size))
      have N3 := Lib.hid (N1.out.on hw)
      have M3 := Lib.hid (M1.out.on hw)
      have K3 := Lib.hid (K1.out.on hw)
      clear hb bx hw HB1 N1 M1 K1 d0 d1 d2 d3 d4 s0 s1
      go_upto_region 2 with (fail)
      generalize w2.alloc (.cells #[.int .u64 0, .int .u64 0, .int .u64 0, .int .u64 0] 46) = w3 at HB3 N3 M3 K3 X3 ⊢
      obtain ⟨d0, d1, d2, d3, d4⟩ := N3.out.five
      go_wp2_with fail
      (with_reducible refine (rcsound_c _ _ _ _ T ten P Q BB _ (HT.out.on HB3.out) (HP.out.on HB3.out) (HQ.out.on HB3.out) (HBQ.out.on HB3.out)).mono ?_)
      rintro e w4 ⟨rfl, hb⟩
      rw [HZ.out]
      have HB4 := Lib.hid (HB3.out.trans (hb.mono HB3.out.size))
      have N4 := Lib.hid (N3.out.on hb)
      have M4 := Lib.hid (M3.out.on hb)
      have K4 := Lib.hid (K3.out.on hb)
      have X4 := Lib.hid (X3.out.on hb)
      clear hb HB3 N3 M3 K3 X3 d0 d1 d2 d3 d4
      obtain ⟨d0, d1, d2, d3, d4⟩ := N4.out.five
      obtain ⟨s0, s1⟩ := M4.out.both
      go_wp2_with fail
      (with_reducible refine (redge_c _ T a b _ (HT.out.on HB4.out)).mono ?_)
      rintro e w5 ⟨rfl, hb⟩
      rw [HED.out]
      have HB5 := Lib.hid (HB4.out.trans (hb.mono HB4.out.size))
      have N5 := Lib.hid (N4.out.on hb)
      have M5 := Lib.hid (M4.out.on hb)
      have K5 := Lib.hid (K4.out.on hb)
      have X5 := Lib.hid (X4.out.on hb)
      clear hb HB4 N4 M4 K4 X4 d0 d1 d2 d3 d4 s0 s1
      go_wp2_with fail
      (with_reducible refine (awake8_c _).mono ?_)
      rintro e w6 ⟨rfl, hb⟩
      have HB6 := Lib.hid (HB5.out.trans (hb.mono HB5.out.size))
      have X6 := Lib.hid (X5.out.on hb)
      obtain ⟨c0, c1, c2, c3⟩ := X6.out.four
      clear hb HB5 X5
      go_wp2
      go_ret
      exact ⟨rfl, HB6.out⟩
    · obtain ⟨n, m, cvh, cvl, cch, ccl, hn, hm, he, hve, rfl, hs⟩ := hst.2.2.2 rfl ⟨by omega, by omega⟩ (by rw [HED.out]; exact hed)
      clear hst
      rw [HED.out] at he
      subst he hve
      have HS := Lib.hid hs
      clear hs
      have bx := below1 w2 (.cells #[.int .u64 (uv cvh), .int .u64 (uv cvl), .int .u64 (uv cch), .int .u64 (uv ccl)] 46)
      have X3 := Lib.hid (Blk.new w2 46 #[.int .u64 (uv cvh), .int .u64 (uv cvl), .int .u64 (uv cch), .int .u64 (uv ccl)])
      have hw := hb.trans (bx.mono hb.size)
      have HB3 := Lib.hid (HB1.out.trans (hw.mono HB1.out.size))
      have N3 := Lib.hid (N1.out.on hw)
      have M3 := Lib.hid (M1.out.on hw)
      have K3 := Lib.hid (K1.out.on hw)
      clear hb bx hw HB1 N1 M1 K1 d0 d1 d2 d3 d4 s0 s1
      go_upto_region 2 with (fail)
      generalize w2.alloc (.cells #[.int .u64 (uv cvh), .int .u64 (uv cvl), .int .u64 (uv cch), .int .u64 (uv ccl)] 46) = w3 at HB3 N3 M3 K3 X3 ⊢
      obtain ⟨d0, d1, d2, d3, d4⟩ := N3.out.five
      go_wp2_with fail
      (with_reducible refine (rcsound_c _ _ _ _ T ten P Q BB _ (HT.out.on HB3.out) (HP.out.on HB3.out) (HQ.out.on HB3.out) (HBQ.out.on HB3.out)).mono ?_)
      rintro e w4 ⟨rfl, hb⟩
      rw [HZ.out]
      have HB4 := Lib.hid (HB3.out.trans (hb.mono HB3.out.size))
      have N4 := Lib.hid (N3.out.on hb)
      have M4 := Lib.hid (M3.out.on hb)
      have K4 := Lib.hid (K3.out.on hb)
      have X4 := Lib.hid (X3.out.on hb)
      clear hb HB3 N3 M3 K3 X3 d0 d1 d2 d3 d4
      obtain ⟨d0, d1, d2, d3, d4⟩ := N4.out.five
      obtain ⟨s0, s1⟩ := M4.out.both
      go_wp2_with fail
      (with_reducible refine (redge_c _ T a b _ (HT.out.on HB4.out)).mono ?_)
      rintro e w5 ⟨rfl, hb⟩
      rw [HED.out]
      have HB5 := Lib.hid (HB4.out.trans (hb.mono HB4.out.size))
      have N5 := Lib.hid (N4.out.on hb)
      have M5 := Lib.hid (M4.out.on hb)
      have K5 := Lib.hid (K4.out.on hb)
      have X5 := Lib.hid (X4.out.on hb)
      clear hb HB4 N4 M4 K4 X4 d0 d1 d2 d3 d4 s0 s1
      obtain ⟨c0, c1, c2, c3⟩ := X5.out.four
      go_wp2_with fail
      (with_reducible refine (text4 cvh cvl cch ccl _ HS.out).mono ?_)
      rintro e w6 ⟨tx, rfl, hb⟩
      have HB6 := Lib.hid (HB5.out.trans (hb.mono HB5.out.size))
      have N6 := Lib.hid (N5.out.on hb)
      have M6 := Lib.hid (M5.out.on hb)
      have K6 := Lib.hid (K5.out.on hb)
      have X6 := Lib.hid (X5.out.on hb)
      clear hb HB5 N5 M5 K5 X5 c0 c1 c2 c3
      have KP : ∀ W, Below w6.heap.size w6 W → (Below w6.heap.size w6 W ∧ W.cell? ⟨w.heap.size, 0, none⟩ = some (.slice A T.length cap) ∧ W.cell? ⟨w.heap.size + 1, 0, none⟩ = some (.int .i64 a) ∧ W.cell? ⟨w.heap.size + 1, 1, none⟩ = some (.int .i64 b) ∧ W.cell? ⟨w.heap.size + 1 + 1, 0, none⟩ = some (.int .u64 (uv hh)) ∧ W.cell? ⟨w.heap.size + 1 + 1, 1, none⟩ = some (.int .u64 (uv hl)) ∧ W.cell? ⟨w2.heap.size, 0, none⟩ = some (.int .u64 (uv cvh)) ∧ W.cell? ⟨w2.heap.size, 1, none⟩ = some (.int .u64 (uv cvl)) ∧ W.cell? ⟨w2.heap.size, 2, none⟩ = some (.int .u64 (uv cch)) ∧ W.cell? ⟨w2.heap.size, 3, none⟩ = some (.int .u64 (uv ccl))) := fun W hb => ⟨hb, (N6.out.on hb).five.1, (M6.out.on hb).both.1, (M6.out.on hb).both.2, (K6.out.on hb).both.1, (K6.out.on hb).both.2, (X6.out.on hb).four⟩
      have HKP := Lib.hid KP
      have hq := care_eq HS.out
      obtain ⟨sh, hsh⟩ : ∃ sh, num (sF hh hl n m) 64 64 = sh := ⟨_, rfl⟩
      obtain ⟨sl, hsl⟩ : ∃ sl, num (sF hh hl n m) 0 64 = sl := ⟨_, rfl⟩
      have HSET : Hid (∀ u : World, Calls Try.prog 19 #[.agg #[.int .u64 (uv hh), .int .u64 (uv hl)], .agg #[.int .u64 (uv cvh), .int .u64 (uv cvl), .int .u64 (uv cch), .int .u64 (uv ccl)]] u fun e w' => e = .returned (.agg #[.int .u64 (uv sh), .int .u64 (uv sl)]) ∧ Below u.heap.size u w') := fun u => by
        have h := rset_c hh hl cvh cvl cch ccl u
        rw [← (set_stamp HS.out hh hl).1, ← (set_stamp HS.out hh hl).2, hsh, hsl] at h
        exact h
      have HSTM : Hid (∀ u : World, Calls Try.prog 20 #[.agg #[.int .u64 (uv hh), .int .u64 (uv hl)], .int .i64 (n : Int), .int .i64 (m : Int)] u fun e w' => e = .returned (.agg #[.int .u64 (uv sh), .int .u64 (uv sl)]) ∧ Below u.heap.size u w') := fun u => by
        have h := rstamp_c hh hl n m hn hm u
        rw [hsh, hsl] at h
        exact h
      have hqs := eq2_self (uv sh) (uv sl)
      clear KP hsh hsl
      go_upto_region 11 with (fail)
      refine wp_region_held_drew (S := fun w' => Below w6.heap.size w6 w' ∧ w'.cell? ⟨w.heap.size, 0, none⟩ = some (.slice A T.length cap) ∧ w'.cell? ⟨w.heap.size + 1, 0, none⟩ = some (.int .i64 a) ∧ w'.cell? ⟨w.heap.size + 1, 1, none⟩ = some (.int .i64 b) ∧ w'.cell? ⟨w.heap.size + 1 + 1, 0, none⟩ = some (.int .u64 (uv hh)) ∧ w'.cell? ⟨w.heap.size + 1 + 1, 1, none⟩ = some (.int .u64 (uv hl)) ∧ w'.cell? ⟨w2.heap.size, 0, none⟩ = some (.int .u64 (uv cvh)) ∧ w'.cell? ⟨w2.heap.size, 1, none⟩ = some (.int .u64 (uv cvl)) ∧ w'.cell? ⟨w2.heap.size, 2, none⟩ = some (.int .u64 (uv cch)) ∧ w'.cell? ⟨w2.heap.size, 3, none⟩ = some (.int .u64 (uv ccl))) (by kernel_rfl) (HKP.out _ (Below.refl _ w6).drew) (fun hHeld => ?_)
      refine wpAnyH_ready (rs := [0]) (by kernel_rfl) (by simp) ?_
      refine AllReadyH.cons (o := ⟨some 57, _, _, _, _, _⟩) rfl (fun K hK => ?_) AllReadyH.nil
      go_simp
      (with_reducible refine (awake8_c _).mono ?_)
      rintro e w7 ⟨rfl, hb⟩
      (try dsimp only)
      refine hK.out _ _ (HKP.out _ (hHeld.1.trans (hb.mono hHeld.1.size))) (fun hNext => ?_)
      clear hK K hHeld
      have hHeld := hNext
      clear hNext
      try simp only [Act.put, List.setIfInBounds_toArray, List.set_cons_zero, List.set_cons_succ]
      refine wpAnyH_take (i := 1) (oi := ⟨some 58, _, _, _, _, _⟩) (v := ?vlt1) rfl (by kernel_rfl) (by kernel_rfl) (by kernel_rfl) (fun _ _ _ h => h) (Or.inl ⟨by rfl, ?ylt1⟩) hHeld ?rlt1
      case ylt1 => (intro w' hSw; (try dsimp only at hSw); go_simp; try (with_reducible rfl))
      simp only [Act.put, List.setIfInBounds_toArray, List.set_cons_zero, List.set_cons_succ]
      refine wpAnyH_take (i := 2) (oi := ⟨some 59, _, _, _, _, _⟩) (v := ?vlt2) rfl (by kernel_rfl) (by kernel_rfl) (by kernel_rfl) (fun _ _ _ h => h) (Or.inl ⟨by rfl, ?ylt2⟩) hHeld ?rlt2
      case ylt2 => (intro w' hSw; (try dsimp only at hSw); go_simp; try (with_reducible rfl))
      simp only [Act.put, List.setIfInBounds_toArray, List.set_cons_zero, List.set_cons_succ]
      refine wpAnyH_take (i := 3) (oi := ⟨some 60, _, _, _, _, _⟩) (v := ?vlt3) rfl (by kernel_rfl) (by kernel_rfl) (by kernel_rfl) (fun _ _ _ h => h) (Or.inl ⟨by rfl, ?ylt3⟩) hHeld ?rlt3
      case ylt3 => (intro w' hSw; (try dsimp only at hSw); go_simp; try (with_reducible rfl))
      simp only [Act.put, List.setIfInBounds_toArray, List.set_cons_zero, List.set_cons_succ]
      refine wpAnyH_take (i := 4) (oi := ⟨some 61, _, _, _, _, _⟩) (v := ?vlt4) rfl (by kernel_rfl) (by kernel_rfl) (by kernel_rfl) (fun _ _ _ h => h) (Or.inl ⟨by rfl, ?ylt4⟩) hHeld ?rlt4
      case ylt4 => (intro w' hSw; (try dsimp only at hSw); go_simp; try (with_reducible rfl))
      simp only [Act.put, List.setIfInBounds_toArray, List.set_cons_zero, List.set_cons_succ]
      refine wpAnyH_take (i := 5) (oi := ⟨some 62, _, _, _, _, _⟩) (v := ?vlt5) rfl (by kernel_rfl) (by kernel_rfl) (by kernel_rfl) (fun _ _ _ h => h) (Or.inl ⟨by rfl, ?ylt5⟩) hHeld ?rlt5
      case ylt5 => (intro w' hSw; (try dsimp only at hSw); go_simp; try (with_reducible rfl))
      simp only [Act.put, List.setIfInBounds_toArray, List.set_cons_zero, List.set_cons_succ]
      refine wpAnyH_take (i := 6) (oi := ⟨some 63, _, _, _, _, _⟩) (v := ?vlt6) rfl (by kernel_rfl) (by kernel_rfl) (by kernel_rfl) (fun _ _ _ h => h) (Or.inl ⟨by rfl, ?ylt6⟩) hHeld ?rlt6
      case ylt6 => (intro w' hSw; (try dsimp only at hSw); go_simp; try (with_reducible rfl))
      simp only [Act.put, List.setIfInBounds_toArray, List.set_cons_zero, List.set_cons_succ]
      refine wpAnyH_take (i := 7) (oi := ⟨some 64, _, _, _, _, _⟩) (v := ?vlt7) rfl (by kernel_rfl) (by kernel_rfl) (by kernel_rfl) (fun _ _ _ h => h) (Or.inl ⟨by rfl, ?ylt7⟩) hHeld ?rlt7
      case ylt7 => (intro w' hSw; (try dsimp only at hSw); go_simp; try (with_reducible rfl))
      simp only [Act.put, List.setIfInBounds_toArray, List.set_cons_zero, List.set_cons_succ]
      refine wpAnyH_take (i := 8) (oi := ⟨some 65, _, _, _, _, _⟩) (v := ?vlt8) rfl (by kernel_rfl) (by kernel_rfl) (by kernel_rfl) (fun _ _ _ h => h) (Or.inl ⟨by rfl, ?ylt8⟩) hHeld ?rlt8
      case ylt8 => (intro w' hSw; (try dsimp only at hSw); go_simp; try (with_reducible rfl))
      simp only [Act.put, List.setIfInBounds_toArray, List.set_cons_zero, List.set_cons_succ]
      refine wpAnyH_take (i := 9) (oi := ⟨some 66, _, _, _, _, _⟩) (v := ?vlt9) rfl (by kernel_rfl) (by kernel_rfl) (by kernel_rfl) (fun _ _ _ h => h) (Or.inl ⟨by rfl, ?ylt9⟩) hHeld ?rlt9
      case ylt9 => (intro w' hSw; (try dsimp only at hSw); go_simp; try (with_reducible rfl))
      simp only [Act.put, List.setIfInBounds_toArray, List.set_cons_zero, List.set_cons_succ]
      refine wpAnyH_take (i := 10) (oi := ⟨some 67, _, _, _, _, _⟩) (v := ?vlt10) rfl (by kernel_rfl) (by kernel_rfl) (by kernel_rfl) (fun _ _ _ h => h) (Or.inl ⟨by rfl, ?ylt10⟩) hHeld ?rlt10
      case ylt10 => (intro w' hSw; (try dsimp only at hSw); go_simp; try (with_reducible rfl))
      simp only [Act.put, List.setIfInBounds_toArray, List.set_cons_zero, List.set_cons_succ]
      refine wpAnyH_take (i := 11) (oi := ⟨some 68, _, _, _, _, _⟩) (v := ?vlt11) rfl (by kernel_rfl) (by kernel_rfl) (by kernel_rfl) (fun _ _ _ h => h) (Or.inl ⟨by rfl, ?ylt11⟩) hHeld ?rlt11
      case ylt11 => (intro w' hSw; (try dsimp only at hSw); go_simp; try (with_reducible rfl))
      simp only [Act.put, List.setIfInBounds_toArray, List.set_cons_zero, List.set_cons_succ]
      refine wpAnyH_take (i := 12) (oi := ⟨some 69, _, _, _, _, _⟩) (v := ?vlt12) rfl (by kernel_rfl) (by kernel_rfl) (by kernel_rfl) (fun _ _ _ h => h) (Or.inl ⟨by rfl, ?ylt12⟩) hHeld ?rlt12
      case ylt12 => (intro w' hSw; (try dsimp only at hSw); go_simp; try (with_reducible rfl))
      simp only [Act.put, List.setIfInBounds_toArray, List.set_cons_zero, List.set_cons_succ]
      refine wpAnyH_take (i := 13) (oi := ⟨some 70, _, _, _, _, _⟩) (v := ?vlt13) rfl (by kernel_rfl) (by kernel_rfl) (by kernel_rfl) (fun _ _ _ h => h) (Or.inl ⟨by rfl, ?ylt13⟩) hHeld ?rlt13
      case ylt13 => (intro w' hSw; (try dsimp only at hSw); go_simp; try (with_reducible rfl))
      simp only [Act.put, List.setIfInBounds_toArray, List.set_cons_zero, List.set_cons_succ]
      refine wpAnyH_take (i := 14) (oi := ⟨some 71, _, _, _, _, _⟩) (v := ?vlt14) rfl (by kernel_rfl) (by kernel_rfl) (by kernel_rfl) (fun _ _ _ h => h) (Or.inl ⟨by rfl, ?ylt14⟩) hHeld ?rlt14
      case ylt14 => (intro w' hSw; (try dsimp only at hSw); go_simp; try (with_reducible rfl))
      simp only [Act.put, List.setIfInBounds_toArray, List.set_cons_zero, List.set_cons_succ]
      refine wpAnyH_take (i := 15) (oi := ⟨some 72, _, _, _, _, _⟩) (v := ?vlt15) rfl (by kernel_rfl) (by kernel_rfl) (by kernel_rfl) (fun _ _ _ h => h) (Or.inl ⟨by rfl, ?ylt15⟩) hHeld ?rlt15
      case ylt15 => (intro w' hSw; (try dsimp only at hSw); go_simp; try (with_reducible rfl))
      simp only [Act.put, List.setIfInBounds_toArray, List.set_cons_zero, List.set_cons_succ]
      refine wpAnyH_take (i := 16) (oi := ⟨some 73, _, _, _, _, _⟩) (v := ?vlt16) rfl (by kernel_rfl) (by kernel_rfl) (by kernel_rfl) (fun _ _ _ h => h) (Or.inl ⟨by rfl, ?ylt16⟩) hHeld ?rlt16
      case ylt16 => (intro w' hSw; (try dsimp only at hSw); go_simp; try (with_reducible rfl))
      simp only [Act.put, List.setIfInBounds_toArray, List.set_cons_zero, List.set_cons_succ]
      refine wpAnyH_take (i := 18) (oi := ⟨some 75, _, _, _, _, _⟩) (v := ?vlt18) rfl (by kernel_rfl) (by kernel_rfl) (by kernel_rfl) (fun _ _ _ h => h) (Or.inl ⟨by rfl, ?ylt18⟩) hHeld ?rlt18
      case ylt18 => (intro w' hSw; (try dsimp only at hSw); go_simp; try (with_reducible rfl))
      simp only [Act.put, List.setIfInBounds_toArray, List.set_cons_zero, List.set_cons_succ]
      refine wpAnyH_take (i := 19) (oi := ⟨some 76, _, _, _, _, _⟩) (v := ?vlt19) rfl (by kernel_rfl) (by kernel_rfl) (by kernel_rfl) (fun _ _ _ h => h) (Or.inl ⟨by rfl, ?ylt19⟩) hHeld ?rlt19
      case ylt19 => (intro w' hSw; (try dsimp only at hSw); go_simp; try (with_reducible rfl))
      simp only [Act.put, List.setIfInBounds_toArray, List.set_cons_zero, List.set_cons_succ]
      refine wpAnyH_take (i := 20) (oi := ⟨some 77, _, _, _, _, _⟩) (v := ?vlt20) rfl (by kernel_rfl) (by kernel_rfl) (by kernel_rfl) (fun _ _ _ h => h) (Or.inl ⟨by rfl, ?ylt20⟩) hHeld ?rlt20
      case ylt20 => (intro w' hSw; (try dsimp only at hSw); go_simp; try (with_reducible rfl))
      simp only [Act.put, List.setIfInBounds_toArray, List.set_cons_zero, List.set_cons_succ]
      refine wpAnyH_take (i := 21) (oi := ⟨some 78, _, _, _, _, _⟩) (v := ?vlt21) rfl (by kernel_rfl) (by kernel_rfl) (by kernel_rfl) (fun _ _ _ h => h) (Or.inl ⟨by rfl, ?ylt21⟩) hHeld ?rlt21
      case ylt21 => (intro w' hSw; (try dsimp only at hSw); go_simp; try (with_reducible rfl))
      simp only [Act.put, List.setIfInBounds_toArray, List.set_cons_zero, List.set_cons_succ]
      refine wpAnyH_take (i := 23) (oi := ⟨some 80, _, _, _, _, _⟩) (v := ?vlt23) rfl (by kernel_rfl) (by kernel_rfl) (by kernel_rfl) (fun _ _ _ h => h) (Or.inl ⟨by rfl, ?ylt23⟩) hHeld ?rlt23
      case ylt23 => (intro w' hSw; (try dsimp only at hSw); go_simp; try (with_reducible rfl))
      simp only [Act.put, List.setIfInBounds_toArray, List.set_cons_zero, List.set_cons_succ]
      refine wpAnyH_ready (rs := [17]) (by kernel_rfl) (by simp) ?_
      refine AllReadyH.cons (o := ⟨some 74, _, _, _, _, _⟩) rfl (fun K hK => ?_) AllReadyH.nil
      go_simp
      (with_reducible refine (HSET.out _).mono ?_)
      rintro e w8 ⟨rfl, hb⟩
      (try dsimp only)
      refine hK.out _ _ (HKP.out _ (hHeld.1.trans (hb.mono hHeld.1.size))) (fun hNext => ?_)
      clear hK K hHeld
      have hHeld := hNext
      clear hNext
      try simp only [Act.put, List.setIfInBounds_toArray, List.set_cons_zero, List.set_cons_succ]
      refine wpAnyH_ready (rs := [22]) (by kernel_rfl) (by simp) ?_
      refine AllReadyH.cons (o := ⟨some 79, _, _, _, _, _⟩) rfl (fun K hK => ?_) AllReadyH.nil
      go_simp
      (with_reducible refine (redge_c _ T a b _ (HT.out.on (HB6.out.trans (hHeld.1.mono HB6.out.size)))).mono ?_)
      rintro e w9 ⟨rfl, hb⟩
      rw [HED.out]
      (try dsimp only)
      refine hK.out _ _ (HKP.out _ (hHeld.1.trans (hb.mono hHeld.1.size))) (fun hNext => ?_)
      clear hK K hHeld
      have hHeld := hNext
      clear hNext
      try simp only [Act.put, List.setIfInBounds_toArray, List.set_cons_zero, List.set_cons_succ]
      refine wpAnyH_ready (rs := [24]) (by kernel_rfl) (by simp) ?_
      refine AllReadyH.cons (o := ⟨some 81, _, _, _, _, _⟩) rfl (fun K hK => ?_) AllReadyH.nil
      go_simp
      (with_reducible refine (HSTM.out _).mono ?_)
      rintro e w10 ⟨rfl, hb⟩
      (try dsimp only)
      refine hK.out _ _ (HKP.out _ (hHeld.1.trans (hb.mono hHeld.1.size))) (fun hNext => ?_)
      clear hK K hHeld
      have hHeld := hNext
      clear hNext
      try simp only [Act.put, List.setIfInBounds_toArray, List.set_cons_zero, List.set_cons_succ]
      refine wpAnyH_take (i := 25) (oi := ⟨some 82, _, _, _, _, _⟩) (v := ?vlt25) rfl (by kernel_rfl) (by kernel_rfl) (by kernel_rfl) (fun _ _ _ h => h) (Or.inl ⟨by rfl, ?ylt25⟩) hHeld ?rlt25
      case ylt25 => (intro w' hSw; (try dsimp only at hSw); go_simp; try (with_reducible rfl))
      simp only [Act.put, List.setIfInBounds_toArray, List.set_cons_zero, List.set_cons_succ]
      refine wpAnyH_take (i := 26) (oi := ⟨some 83, _, _, _, _, _⟩) (v := ?vlt26) rfl (by kernel_rfl) (by kernel_rfl) (by kernel_rfl) (fun _ _ _ h => h) (Or.inl ⟨by rfl, ?ylt26⟩) hHeld ?rlt26
      case ylt26 => (intro w' hSw; (try dsimp only at hSw); go_simp; try (with_reducible rfl))
      simp only [Act.put, List.setIfInBounds_toArray, List.set_cons_zero, List.set_cons_succ]
      refine wpAnyH_take (i := 27) (oi := ⟨some 8, _, _, _, _, _⟩) (v := ?vlt27) rfl (by kernel_rfl) (by kernel_rfl) (by kernel_rfl) (fun _ _ _ h => h) (Or.inl ⟨by rfl, ?ylt27⟩) hHeld ?rlt27
      case ylt27 => (intro w' hSw; (try dsimp only at hSw); go_simp; try (with_reducible rfl))
      simp only [Act.put, List.setIfInBounds_toArray, List.set_cons_zero, List.set_cons_succ]
      refine wpAnyH_done (by kernel_rfl) ?_ _
      have HBE := Lib.hid (HB6.out.trans (hHeld.1.mono HB6.out.size))
      clear hHeld HKP
      go_wp2
      go_ret
      exact ⟨rfl, HBE.out⟩
  · obtain rfl := hst.1 hz
    clear hst
    have bx := below1 w2 (.cells #[.int .u64 0, .int .u64 0, .int .u64 0, .int .u64 0] 46)
    have X3 := Lib.hid (Blk.new w2 46 #[.int .u64 0, .int .u64 0, .int .u64 0, .int .u64 0])
    have hw := hb.trans (bx.mono hb.size)
    have HB3 := Lib.hid (HB1.out.trans (hw.mono HB1.out.size))
    have N3 := Lib.hid (N1.out.on hw)
    have M3 := Lib.hid (M1.out.on hw)
    have K3 := Lib.hid (K1.out.on hw)
    clear hb bx hw HB1 N1 M1 K1 d0 d1 d2 d3 d4 s0 s1
    go_upto_region 2 with (fail)
    generalize w2.alloc (.cells #[.int .u64 0, .int .u64 0, .int .u64 0, .int .u64 0] 46) = w3 at HB3 N3 M3 K3 X3 ⊢
    obtain ⟨d0, d1, d2, d3, d4⟩ := N3.out.five
    go_wp2_with fail
    (with_reducible refine (rcsound_c _ _ _ _ T ten P Q BB _ (HT.out.on HB3.out) (HP.out.on HB3.out) (HQ.out.on HB3.out) (HBQ.out.on HB3.out)).mono ?_)
    rintro e w4 ⟨rfl, hb⟩
    rw [HZ.out]
    have HB4 := Lib.hid (HB3.out.trans (hb.mono HB3.out.size))
    have N4 := Lib.hid (N3.out.on hb)
    have M4 := Lib.hid (M3.out.on hb)
    have K4 := Lib.hid (K3.out.on hb)
    have X4 := Lib.hid (X3.out.on hb)
    clear hb HB3 N3 M3 K3 X3 d0 d1 d2 d3 d4
    obtain ⟨d0, d1, d2, d3, d4⟩ := N4.out.five
    obtain ⟨s0, s1⟩ := M4.out.both
    go_wp2_with fail
    (with_reducible refine (awake8_c _).mono ?_)
    rintro e w6 ⟨rfl, hb⟩
    have HB6 := Lib.hid (HB4.out.trans (hb.mono HB4.out.size))
    have X6 := Lib.hid (X4.out.on hb)
    obtain ⟨c0, c1, c2, c3⟩ := X6.out.four
    clear hb HB4 X4
    go_wp2
    go_ret
    exact ⟨rfl, HB6.out⟩
end Go.Proofs

namespace Go.Proofs.Ytfmfbkfppfohbaa
open Go.ChangeShapes Go.WideShapes Go.ChangeAt Go.RowKit Go.Joins Go.Proofs.Hd

theorem laidOut_cstp : laidOutB Try.prog = true := by kernel_rfl
set_option maxRecDepth 100000 in
theorem cstp_lifted (os : Os) (started : os.Started) (H : Type) (enc : TypeId × Value → H) :
    ReturnsInHanded {} Try.checked os 5 .any (Rows.configStampsSpec.pre6 enc Try.prog Try.f5 Rows.configStampsRow.domain false) (Rows.configStampsSpec.post enc Try.prog Try.f5 false true false false) := by
  refine returnsInHanded_of_change (C := Try.checked) own started (by kernel_rfl) Try.func5
    (ChangeSpec.witness6 (enc := enc) (C := Try.checked) false ⟨#[], #[.agg #[.slice none 0 0, .int .i64 0, .slice none 0 0, .slice none 0 0, .slice none 0 0], .agg #[.int .i64 0, .int .i64 0], .int .i64 0, .agg #[.int .u64 0, .int .u64 0]], []⟩ 8 (by kernel_rfl) (by kernel_rfl) (by kernel_rfl) (by kernel_rfl)) ?_
  intro W base args ds gs before hval0 hW hcnd _
  have hval : ∀ (j : Nat) t v, Try.f5.params[j]? = some t → args[j]? = some v → Value.okWide Try.prog W .any base t v := hval0
  have hW' := hW
  obtain ⟨p, q, hA0, hV, rfl, hfz, hnd⟩ := hW
  have hA : DataW.TrodAll enc Try.prog W 0 (fun _ => true) true Try.f5.params.toList args.toList ds p := hA0
  rw [Try.params5] at hA hval
  obtain ⟨v0, vs0, d0, ds0, p0, q0, hargs, rfl, rfl, h0, r0⟩ := trodAll_cons hA
  obtain ⟨v1, vs1, d1, ds1, p1, q1, rfl, rfl, rfl, h1, r1⟩ := trodAll_cons r0
  obtain ⟨v2, vs2, d2, ds2, p2, q2, rfl, rfl, rfl, h2, r2⟩ := trodAll_cons r1
  obtain ⟨v3, vs3, d3, ds3, p3, q3, rfl, rfl, rfl, h3, r3⟩ := trodAll_cons r2
  obtain ⟨rfl, rfl, rfl⟩ := trodAll_nil r3
  obtain rfl : args = #[v0, v1, v2, v3] := by cases args; simp_all
  obtain ⟨rfl, rfl⟩ := trodVars_none hV
  have k0 := h0
  have lt0 : ∀ x ∈ p0, x.block < W.heap.size := by obtain ⟨m, hm⟩ := k0; exact DataW.trod_lt m _ _ _ hm
  obtain ⟨ctv, cT, cn, cpv, cP, cwv, cQ, cbv, cB, rfl, chT, chP, chQ, chB, cz⟩ := open_cfg (hval 0 31 v0 rfl rfl) h0
  have k1 := h1
  have lt1 : ∀ x ∈ p1, x.block < W.heap.size := by obtain ⟨m, hm⟩ := k1; exact DataW.trod_lt m _ _ _ hm
  obtain ⟨sa, sb, rfl⟩ := open_spot (hval 1 41 v1 rfl rfl) h1
  obtain ⟨v, rfl, rfl, rfl, wf2⟩ := open_int Try.underlying3 (hval 2 3 v2 rfl rfl) h2
  obtain ⟨hh, hl, rfl, rfl, rfl, s3⟩ := open_head (hval 3 44 v3 rfl rfl) h3
  clear hA0 hval0
  obtain ⟨bv1, bv2⟩ := bounds_i64 wf2
  refine (cstl_c ctv cpv cwv cbv cT cn cP cQ cB sa sb v hh hl W chT chP chQ chB).mono fun e W' ⟨he, hg⟩ => ?_
  subst he
  exact ⟨_, rfl, _, _, _, [], _, [], hW', trodAll_mk1 (shut_bool Try.underlying4 _), (trodAll_cons_mk (Below.trod laidOut_cstp (by kernel_rfl) (of_decide_eq_true (by kernel_rfl)) k0 hg lt0) (trodAll_cons_mk (Below.trod laidOut_cstp (by kernel_rfl) (of_decide_eq_true (by kernel_rfl)) k1 hg lt1) (trodAll_cons_mk (shut_int Try.underlying3 wf2) (trodAll_cons_mk (s3 _ _) trodAll_mk0)))), rfl, hg.frame _, (fun h => by cases h)⟩

theorem cstp_holds : Rows.ConfigStampsSaid :=
  OpenClaim.holds_of_wide 5 Try.f5 rfl rfl rfl rfl rfl rfl rfl ⟨rfl, rfl, rfl, rfl, rfl⟩ rfl rfl rfl rfl rfl (by kernel_rfl) Try.func5 (by kernel_rfl)
    (of_decide_eq_true (by kernel_rfl)) (by unfold Func.isWrapper; first | (rw [if_pos (by decide +kernel)]; kernel_rfl) | (rw [if_neg (by decide +kernel)]; exact ⟨rfl, rfl⟩))
    (fun os started H enc _ => cstp_lifted os started H enc)
#print axioms cstp_holds
end Go.Proofs.Ytfmfbkfppfohbaa
