/-
  Stamps as bits; contract of package config: stamped. Conditions as each theorem lists them.
  Contracts of slices.Equal at pairs, ways, ports. Conditions as each theorem lists them.
  Contracts of slices.Index and slices.Contains at spots. Conditions as each theorem lists them.
  Contract of package config: Stamp. Conditions as the theorem lists them.
  Contracts of walk.lookup and walk.One. Conditions as each theorem lists them.
  What a call changes at most. No program in sight. No conditions.
-/
import Derived.Test.YtgoenjpllepdjaaJ7
import Derived.Deep.LoopGhost
import Derived.Deep.RegionHeld3
import Derived.Deep.DeepCutAuto
import Derived.Lib.Hide
namespace Go.Proofs
open Go.RowKit Go.Proofs.Hd
/-- Where the fields of a stamp end. -/
def stE (k : Nat) : Nat := if k = 0 then 88 else if k = 1 then 112 else if k = 2 then 120 else 128
/-- The bits of a stamp. -/
def stF (n m : Nat) (j : Nat) : Bool := if j < 112 then (n + 1).testBit (j - 88) else if j < 120 then m.testBit (j - 112) else false
/-- What is known behind k fields of a stamp. -/
def StB (n m k : Nat) (vh vl ch cl : BitVec 64) : Prop := ∀ j, j < 128 → hbit ch cl j = (decide (88 ≤ j) && decide (j < stE k)) ∧ hbit vh vl j = ((decide (88 ≤ j) && decide (j < stE k)) && stF n m j)
/-- The cube of a field. -/
def FldB (a n q : Nat) (vh vl ch cl : BitVec 64) : Prop := ∀ j, j < 128 → hbit ch cl j = (decide (a ≤ j) && decide (j < a + n)) ∧ hbit vh vl j = ((decide (a ≤ j) && decide (j < a + n)) && q.testBit (j - a))
theorem fld_bits (a n q : Nat) (hn : a + n ≤ 128) (h64 : n ≤ 64) : FldB a n q (putH 0#64 a n (BitVec.ofNat 64 q) &&& maskH a n) (putL 0#64 a n (BitVec.ofNat 64 q) &&& maskL a n) (maskH a n) (maskL a n) := fun j hj => by
  refine ⟨mask_bit a n j hn hj, ?_⟩
  rw [hbit_and, put_bit _ _ _ _ _ _ h64 hj, mask_bit a n j hn hj]
  have hz : hbit 0#64 0#64 j = false := by unfold hbit; split <;> simp
  rw [hz, BitVec.getLsbD_ofNat]
  by_cases h1 : a ≤ j
  · by_cases h2 : j < a + n
    · have h3 : j - a < 64 := by omega
      simp [h1, h2, h3]
    · simp [h1, h2]
  · simp [h1]
theorem st_step {n m k q len : Nat} {avh avl ach acl bvh bvl bch bcl : BitVec 64} (hs : StB n m k avh avl ach acl) (hf : FldB (stE k) len q bvh bvl bch bcl) (he : stE k + len = stE (k + 1)) (h88 : 88 ≤ stE k) (hq : ∀ i, i < len → q.testBit i = stF n m (stE k + i)) :
    metB avh avl ach acl bvh bvl bch bcl = true ∧ StB n m (k + 1) (avh ||| bvh) (avl ||| bvl) (ach ||| bch) (acl ||| bcl) := by
  refine ⟨?_, fun j hj => ?_⟩
  · unfold metB
    rw [Bool.and_eq_true, Bool.and_eq_true]
    refine ⟨(snd_bits _ _ _ _).2 fun j hj h => ?_, (snd_bits _ _ _ _).2 fun j hj h => ?_, (agr_bits _ _ _ _ _ _ _ _).2 fun j hj h1 h2 => ?_⟩
    · rw [(hs j hj).2] at h
      rw [(hs j hj).1]
      exact (Bool.and_eq_true _ _ ▸ h : _ ∧ _).1
    · rw [(hf j hj).2] at h
      rw [(hf j hj).1]
      exact (Bool.and_eq_true _ _ ▸ h : _ ∧ _).1
    · rw [(hs j hj).1] at h1
      rw [(hf j hj).1] at h2
      simp at h1 h2
      omega
  · rw [hbit_or, hbit_or, (hs j hj).1, (hs j hj).2, (hf j hj).1, (hf j hj).2]
    by_cases h1 : 88 ≤ j
    · by_cases h2 : j < stE k
      · have h3 : j < stE (k + 1) := by omega
        have h4 : ¬ stE k ≤ j := by omega
        simp [h1, h2, h3, h4]
      · have h4 : stE k ≤ j := by omega
        by_cases h3 : j < stE (k + 1)
        · have h5 : j < stE k + len := by omega
          have h6 := hq (j - stE k) (by omega)
          rw [show stE k + (j - stE k) = j by omega] at h6
          simp [h1, h2, h3, h4, h5, h6]
        · have h5 : ¬ j < stE k + len := by omega
          simp [h2, h3, h5]
    · have h2 : ¬ stE k ≤ j := by omega
      simp [h1, h2]
theorem st_zero (n m : Nat) : StB n m 0 0#64 0#64 0#64 0#64 := fun j _ => by
  have hz : hbit 0#64 0#64 j = false := by unfold hbit; split <;> simp
  rw [hz]
  have h : (decide (88 ≤ j) && decide (j < stE 0)) = false := by
    have e : stE 0 = 88 := rfl
    rw [e]
    by_cases h1 : 88 ≤ j
    · have h2 : ¬ j < 88 := by omega
      simp [h2]
    · simp [h1]
  rw [h]
  exact ⟨rfl, rfl⟩
theorem quad {w : World} {g : Nat} {t : TypeId} {x0 x1 x2 x3 : Value} (h : Blk w g t #[x0, x1, x2, x3]) : w.cell? ⟨g, 0, none⟩ = some x0 ∧ w.cell? ⟨g, 1, none⟩ = some x1 ∧ w.cell? ⟨g, 2, none⟩ = some x2 ∧ w.cell? ⟨g, 3, none⟩ = some x3 :=
  ⟨(h.cell 0).trans rfl, (h.cell 1).trans rfl, (h.cell 2).trans rfl, (h.cell 3).trans rfl⟩
theorem trio {w : World} {g : Nat} {t : TypeId} {x0 x1 x2 : Value} (h : Blk w g t #[x0, x1, x2]) : w.cell? ⟨g, 0, none⟩ = some x0 ∧ w.cell? ⟨g, 1, none⟩ = some x1 ∧ w.cell? ⟨g, 2, none⟩ = some x2 :=
  ⟨(h.cell 0).trans rfl, (h.cell 1).trans rfl, (h.cell 2).trans rfl⟩
theorem put4 {w : World} {g : Nat} {t : TypeId} {x0 x1 x2 x3 : Value} (h : Blk w g t #[x0, x1, x2, x3]) (a0 a1 a2 a3 : Value) : Blk ((((w.setCell ⟨g, 0, none⟩ a0).setCell ⟨g, 1, none⟩ a1).setCell ⟨g, 2, none⟩ a2).setCell ⟨g, 3, none⟩ a3) g t #[a0, a1, a2, a3] := by
  have h1 := (((h.set 0 a0).set 1 a1).set 2 a2).set 3 a3
  simpa using h1
theorem free4 {w : World} {g : Nat} {t : TypeId} {cs : Array Value} (h : Blk w g t cs) : w.frozen? ⟨g, 0, none⟩ = false ∧ w.frozen? ⟨g, 1, none⟩ = false ∧ w.frozen? ⟨g, 2, none⟩ = false ∧ w.frozen? ⟨g, 3, none⟩ = false := ⟨h.free 0, h.free 1, h.free 2, h.free 3⟩
attribute [local go_sem] uv_nonneg
theorem field_f (a n q : Nat) (w : World) (hn : a + n ≤ 128) (h64 : n ≤ 63) (hq : q < 2 ^ n) : Calls Try.prog 57 #[.int .i64 a, .int .i64 n, .int .u64 (q : Int), .int .i64 n] w fun e w' => ∃ vh vl ch cl : BitVec 64, e = .returned (.tuple #[.agg #[.int .u64 (uv vh), .int .u64 (uv vl), .int .u64 (uv ch), .int .u64 (uv cl)], .int .i64 0]) ∧ FldB a n q vh vl ch cl ∧ Below w.heap.size w w' := by
  have h2 : 2 ^ n < 2 ^ 64 := Nat.pow_lt_pow_right (by decide) (by omega)
  have e : uv (BitVec.ofNat 64 q) = (q : Int) := by unfold uv; rw [BitVec.toNat_ofNat, Nat.mod_eq_of_lt (by omega)]
  have hv : ¬ uv (low n) < uv (BitVec.ofNat 64 q) := by rw [e]; unfold uv; rw [low_nat n (by omega)]; omega
  have h := cfield_yes a n n (BitVec.ofNat 64 q) w hn (by omega) hv (Nat.le_refl _)
  rw [e, Nat.add_sub_cancel] at h
  exact h.mono fun _ _ h => ⟨_, _, _, _, h.1, fld_bits a n q hn (by omega), h.2⟩
theorem meet_f {n m k q len : Nat} {avh avl ach acl bvh bvl bch bcl : BitVec 64} (hs : StB n m k avh avl ach acl) (hf : FldB (stE k) len q bvh bvl bch bcl) (he : stE k + len = stE (k + 1)) (h88 : 88 ≤ stE k) (hq : ∀ i, i < len → q.testBit i = stF n m (stE k + i)) (w : World) :
    Calls Try.prog 58 #[.agg #[.int .u64 (uv avh), .int .u64 (uv avl), .int .u64 (uv ach), .int .u64 (uv acl)], .agg #[.int .u64 (uv bvh), .int .u64 (uv bvl), .int .u64 (uv bch), .int .u64 (uv bcl)]] w fun e w' => ∃ cvh cvl cch ccl : BitVec 64, e = .returned (.tuple #[.agg #[.int .u64 (uv cvh), .int .u64 (uv cvl), .int .u64 (uv cch), .int .u64 (uv ccl)], .bool true]) ∧ StB n m (k + 1) cvh cvl cch ccl ∧ Below w.heap.size w w' := by
  obtain ⟨h1, h2⟩ := st_step hs hf he h88 hq
  have h := meet_c avh avl ach acl bvh bvl bch bcl w
  rw [h1] at h
  simp only [sel_t] at h
  exact h.mono fun _ _ h => ⟨_, _, _, _, h.1, h2, h.2⟩
theorem fld0 (n : Nat) (hn : n ≤ 3) (w : World) : Calls Try.prog 57 #[.int .i64 88, .int .i64 24, .int .u64 ((n : Int) + 1), .int .i64 24] w fun e w' => ∃ vh vl ch cl : BitVec 64, e = .returned (.tuple #[.agg #[.int .u64 (uv vh), .int .u64 (uv vl), .int .u64 (uv ch), .int .u64 (uv cl)], .int .i64 0]) ∧ FldB (stE 0) 24 (n + 1) vh vl ch cl ∧ Below w.heap.size w w' := field_f 88 24 (n + 1) w (by omega) (by omega) (by omega)
theorem st0q (n m : Nat) : ∀ i, i < 24 → Nat.testBit (n + 1) i = stF n m (stE 0 + i) := fun i hi => by
  unfold stF
  have e : stE 0 = 88 := rfl
  rw [e]
  rw [if_pos (by omega), show 88 + i - 88 = i by omega]
theorem fld1 (m : Nat) (hm : m ≤ 255) (w : World) : Calls Try.prog 57 #[.int .i64 112, .int .i64 8, .int .u64 (m : Int), .int .i64 8] w fun e w' => ∃ vh vl ch cl : BitVec 64, e = .returned (.tuple #[.agg #[.int .u64 (uv vh), .int .u64 (uv vl), .int .u64 (uv ch), .int .u64 (uv cl)], .int .i64 0]) ∧ FldB (stE 1) 8 m vh vl ch cl ∧ Below w.heap.size w w' := field_f 112 8 m w (by omega) (by omega) (by omega)
theorem st1q (n m : Nat) : ∀ i, i < 8 → Nat.testBit m i = stF n m (stE 1 + i) := fun i hi => by
  unfold stF
  have e : stE 1 = 112 := rfl
  rw [e]
  rw [if_neg (by omega), if_pos (by omega), show 112 + i - 112 = i by omega]
theorem fld2 (w : World) : Calls Try.prog 57 #[.int .i64 120, .int .i64 8, .int .u64 0, .int .i64 8] w fun e w' => ∃ vh vl ch cl : BitVec 64, e = .returned (.tuple #[.agg #[.int .u64 (uv vh), .int .u64 (uv vl), .int .u64 (uv ch), .int .u64 (uv cl)], .int .i64 0]) ∧ FldB (stE 2) 8 0 vh vl ch cl ∧ Below w.heap.size w w' := field_f 120 8 0 w (by omega) (by omega) (by omega)
theorem st2q (n m : Nat) : ∀ i, i < 8 → Nat.testBit 0 i = stF n m (stE 2 + i) := fun i hi => by
  unfold stF
  have e : stE 2 = 120 := rfl
  rw [e]
  rw [if_neg (by omega), if_neg (by omega), Nat.zero_testBit]
set_option maxRecDepth 100000 in
set_option maxHeartbeats 4000000 in
theorem stamped_c (n m : Nat) (hn : n ≤ 3) (hm : m ≤ 255) (w : World) : Calls Try.prog 39 #[.int .i64 (n : Int), .int .i64 (m : Int)] w fun e w' => ∃ cvh cvl cch ccl : BitVec 64, e = .returned (.tuple #[.agg #[.int .u64 (uv cvh), .int .u64 (uv cvl), .int .u64 (uv cch), .int .u64 (uv ccl)], .int .i64 0]) ∧ StB n m 3 cvh cvl cch ccl ∧ Below w.heap.size w w' := by
  have hnz : (n : Int) ≤ 3 := by omega
  have hmz : (m : Int) ≤ 255 := by omega
  have b0 := below1 w (.cells #[.int .u64 0, .int .u64 0, .int .u64 0, .int .u64 0] 34)
  have Z0 := Blk.new w 34 #[.int .u64 0, .int .u64 0, .int .u64 0, .int .u64 0]
  go_enter Try.func39, Try.ntmps39
  go_wp2_with fail
  (with_reducible refine (all_c _).mono ?_)
  rintro e w1 ⟨rfl, hb1⟩
  have B1 := Lib.hid (b0.trans (hb1.mono b0.size))
  have Z1 := Lib.hid (Z0.on hb1)
  clear hb1 Z0 b0
  go_wp2
  have N6 : Hid (Blk ((w1.alloc (.cells #[.int .u64 0, .int .u64 0, .int .u64 0, .int .u64 0] 34)).alloc (.cells #[.int .i64 88, .int .i64 24, .int .i64 ((n : Int) + 1), .int .i64 112, .int .i64 8, .int .i64 (m : Int), .int .i64 120, .int .i64 8, .int .i64 0] 113)) w1.heap.size 34 #[.int .u64 (uv 0#64), .int .u64 (uv 0#64), .int .u64 (uv 0#64), .int .u64 (uv 0#64)]) := (Blk.new w1 _ _).on (below1 _ _)
  have N9 : Hid (Blk ((w1.alloc (.cells #[.int .u64 0, .int .u64 0, .int .u64 0, .int .u64 0] 34)).alloc (.cells #[.int .i64 88, .int .i64 24, .int .i64 ((n : Int) + 1), .int .i64 112, .int .i64 8, .int .i64 (m : Int), .int .i64 120, .int .i64 8, .int .i64 0] 113)) (w1.heap.size + 1) 113 #[.int .i64 88, .int .i64 24, .int .i64 ((n : Int) + 1), .int .i64 112, .int .i64 8, .int .i64 (m : Int), .int .i64 120, .int .i64 8, .int .i64 0]) := by
    have h := Blk.new (w1.alloc (.cells #[.int .u64 0, .int .u64 0, .int .u64 0, .int .u64 0] 34)) 113 #[.int .i64 88, .int .i64 24, .int .i64 ((n : Int) + 1), .int .i64 112, .int .i64 8, .int .i64 (m : Int), .int .i64 120, .int .i64 8, .int .i64 0]
    have e : (w1.alloc (.cells #[.int .u64 0, .int .u64 0, .int .u64 0, .int .u64 0] 34)).heap.size = w1.heap.size + 1 := by simp
    rw [e] at h
    exact h
  have B2 : Hid (Below w1.heap.size w1 ((w1.alloc (.cells #[.int .u64 0, .int .u64 0, .int .u64 0, .int .u64 0] 34)).alloc (.cells #[.int .i64 88, .int .i64 24, .int .i64 ((n : Int) + 1), .int .i64 112, .int .i64 8, .int .i64 (m : Int), .int .i64 120, .int .i64 8, .int .i64 0] 113))) := below2 w1 _ _
  generalize ((w1.alloc (.cells #[.int .u64 0, .int .u64 0, .int .u64 0, .int .u64 0] 34)).alloc (.cells #[.int .i64 88, .int .i64 24, .int .i64 ((n : Int) + 1), .int .i64 112, .int .i64 8, .int .i64 (m : Int), .int .i64 120, .int .i64 8, .int .i64 0] 113)) = w2 at N6 N9 B2 ⊢
  go_loopg [8, 9, 10, 20] 3 (fun gk _ _ _ s20 wr => ∃ (k : Nat) (kz : Int) (avh avl ach acl : BitVec 64), k ≤ 3 ∧ gk = 3 - k ∧ s20 = .int .i64 kz ∧ Hid (kz = (k : Int)) ∧ Hid (StB n m k avh avl ach acl) ∧ Hid (Blk wr w1.heap.size 34 #[.int .u64 (uv avh), .int .u64 (uv avl), .int .u64 (uv ach), .int .u64 (uv acl)]) ∧ Hid (Blk wr (w1.heap.size + 1) 113 #[.int .i64 88, .int .i64 24, .int .i64 ((n : Int) + 1), .int .i64 112, .int .i64 8, .int .i64 (m : Int), .int .i64 120, .int .i64 8, .int .i64 0]) ∧ Hid (Below w1.heap.size w1 wr))
  case atStart => exact ⟨0, 0, _, _, _, _, Nat.zero_le _, rfl, rfl, rfl, st_zero n m, N6, N9, B2⟩
  case round =>
    clear N6 N9 B2
    obtain ⟨k, kz, avh, avl, ach, acl, hk, rfl, rfl, HKZ, HS, N6, N9, HB⟩ := hrel
    have hl9 : w1.heap.size < wr.heap.size := N6.out.lt
    have hk4 : k = 0 ∨ k = 1 ∨ k = 2 ∨ k = 3 := by omega
    rcases hk4 with rfl | rfl | rfl | rfl
    · obtain rfl : kz = 0 := HKZ.out
      have c0 := (N9.out.cell 0).trans rfl
      have c1 := (N9.out.cell 1).trans rfl
      have c2 := (N9.out.cell 2).trans rfl
      have bS := below1 wr (.cells #[.int .i64 88, .int .i64 24, .int .i64 ((n : Int) + 1)] 113)
      have nS := Blk.new wr 113 #[.int .i64 88, .int .i64 24, .int .i64 ((n : Int) + 1)]
      have hlt : wr.heap.size < (wr.alloc (.cells #[.int .i64 88, .int .i64 24, .int .i64 ((n : Int) + 1)] 113)).heap.size := by simp
      go_upto_region 5 with (fail)
      generalize wr.alloc (.cells #[.int .i64 88, .int .i64 24, .int .i64 ((n : Int) + 1)] 113) = w5 at bS nS hlt ⊢
      obtain ⟨s0, s1, s2⟩ := trio nS
      have HBS := Lib.hid bS
      clear bS nS c0 c1 c2
      go_wp2_with fail
      (with_reducible refine (fld0 n hn _).mono ?_)
      rintro e w6 ⟨bvh, bvl, bch, bcl, rfl, hF, hb6⟩
      have HF := Lib.hid hF
      have HB6 := Lib.hid (HBS.out.trans (hb6.mono HBS.out.size))
      clear hF hb6 HBS s0 s1 s2
      have bO := below1 w6 (.cells #[.int .u64 (uv bvh), .int .u64 (uv bvl), .int .u64 (uv bch), .int .u64 (uv bcl)] 34)
      have nO := Blk.new w6 34 #[.int .u64 (uv bvh), .int .u64 (uv bvl), .int .u64 (uv bch), .int .u64 (uv bcl)]
      have HB7 := Lib.hid (HB6.out.trans (bO.mono HB6.out.size))
      have M6 := N6.out.on HB7.out
      have M9 := N9.out.on HB7.out
      have HBB := Lib.hid (HB.out.trans (HB7.out.mono HB.out.size))
      go_upto_region 6 with (fail)
      generalize w6.alloc (.cells #[.int .u64 (uv bvh), .int .u64 (uv bvl), .int .u64 (uv bch), .int .u64 (uv bcl)] 34) = w7 at bO nO M6 M9 HBB ⊢
      obtain ⟨t0, t1, t2, t3⟩ := quad nO
      obtain ⟨u0, u1, u2, u3⟩ := quad M6
      have HM6 := Lib.hid M6
      have HM9 := Lib.hid M9
      clear bO nO M6 M9 HB6 HB7
      go_wp2_with fail
      (with_reducible refine (meet_f HS.out HF.out rfl (by decide) (st0q n m) _).mono ?_)
      rintro e w8 ⟨cvh, cvl, cch, ccl, rfl, hS, hb8⟩
      have HS2 := Lib.hid hS
      have M6 := HM6.out.on hb8
      have M9 := Lib.hid (HM9.out.on hb8)
      have HB8 := Lib.hid (HBB.out.trans (hb8.mono HBB.out.size))
      obtain ⟨f0, f1, f2, f3⟩ := free4 M6
      obtain ⟨z0, z1, z2, z3⟩ := quad M6
      have N62 := Lib.hid (put4 M6 (.int .u64 (uv cvh)) (.int .u64 (uv cvl)) (.int .u64 (uv cch)) (.int .u64 (uv ccl)))
      have B9 := Lib.hid (HB8.out.trans (sets4 w8 w1.heap.size (.int .u64 (uv cvh)) (.int .u64 (uv cvl)) (.int .u64 (uv cch)) (.int .u64 (uv ccl))))
      have N92 : Hid (Blk ((((w8.setCell ⟨w1.heap.size, 0, none⟩ (.int .u64 (uv cvh))).setCell ⟨w1.heap.size, 1, none⟩ (.int .u64 (uv cvl))).setCell ⟨w1.heap.size, 2, none⟩ (.int .u64 (uv cch))).setCell ⟨w1.heap.size, 3, none⟩ (.int .u64 (uv ccl))) (w1.heap.size + 1) 113 #[.int .i64 88, .int .i64 24, .int .i64 ((n : Int) + 1), .int .i64 112, .int .i64 8, .int .i64 (m : Int), .int .i64 120, .int .i64 8, .int .i64 0]) := (((M9.out.far (Nat.succ_ne_self _) _).far (Nat.succ_ne_self _) _).far (Nat.succ_ne_self _) _).far (Nat.succ_ne_self _) _
      clear hS hb8 M6 t0 t1 t2 t3 u0 u1 u2 u3 HF HS
      go_wp2
      go_roundg (3 - (0 + 1))
      case measure => omega
      case rel => exact ⟨0 + 1, 0 + 1, cvh, cvl, cch, ccl, by omega, rfl, by go_num, (by show (0 : Int) + 1 = ((0 + 1 : Nat) : Int); rfl), HS2, N62, N92, B9⟩
    · obtain rfl : kz = 1 := HKZ.out
      have c0 := (N9.out.cell 3).trans rfl
      have c1 := (N9.out.cell 4).trans rfl
      have c2 := (N9.out.cell 5).trans rfl
      have bS := below1 wr (.cells #[.int .i64 112, .int .i64 8, .int .i64 (m : Int)] 113)
      have nS := Blk.new wr 113 #[.int .i64 112, .int .i64 8, .int .i64 (m : Int)]
      have hlt : wr.heap.size < (wr.alloc (.cells #[.int .i64 112, .int .i64 8, .int .i64 (m : Int)] 113)).heap.size := by simp
      go_upto_region 5 with (fail)
      generalize wr.alloc (.cells #[.int .i64 112, .int .i64 8, .int .i64 (m : Int)] 113) = w5 at bS nS hlt ⊢
      obtain ⟨s0, s1, s2⟩ := trio nS
      have HBS := Lib.hid bS
      clear bS nS c0 c1 c2
      go_wp2_with fail
      (with_reducible refine (fld1 m hm _).mono ?_)
      rintro e w6 ⟨bvh, bvl, bch, bcl, rfl, hF, hb6⟩
      have HF := Lib.hid hF
      have HB6 := Lib.hid (HBS.out.trans (hb6.mono HBS.out.size))
      clear hF hb6 HBS s0 s1 s2
      have bO := below1 w6 (.cells #[.int .u64 (uv bvh), .int .u64 (uv bvl), .int .u64 (uv bch), .int .u64 (uv bcl)] 34)
      have nO := Blk.new w6 34 #[.int .u64 (uv bvh), .int .u64 (uv bvl), .int .u64 (uv bch), .int .u64 (uv bcl)]
      have HB7 := Lib.hid (HB6.out.trans (bO.mono HB6.out.size))
      have M6 := N6.out.on HB7.out
      have M9 := N9.out.on HB7.out
      have HBB := Lib.hid (HB.out.trans (HB7.out.mono HB.out.size))
      go_upto_region 6 with (fail)
      generalize w6.alloc (.cells #[.int .u64 (uv bvh), .int .u64 (uv bvl), .int .u64 (uv bch), .int .u64 (uv bcl)] 34) = w7 at bO nO M6 M9 HBB ⊢
      obtain ⟨t0, t1, t2, t3⟩ := quad nO
      obtain ⟨u0, u1, u2, u3⟩ := quad M6
      have HM6 := Lib.hid M6
      have HM9 := Lib.hid M9
      clear bO nO M6 M9 HB6 HB7
      go_wp2_with fail
      (with_reducible refine (meet_f HS.out HF.out rfl (by decide) (st1q n m) _).mono ?_)
      rintro e w8 ⟨cvh, cvl, cch, ccl, rfl, hS, hb8⟩
      have HS2 := Lib.hid hS
      have M6 := HM6.out.on hb8
      have M9 := Lib.hid (HM9.out.on hb8)
      have HB8 := Lib.hid (HBB.out.trans (hb8.mono HBB.out.size))
      obtain ⟨f0, f1, f2, f3⟩ := free4 M6
      obtain ⟨z0, z1, z2, z3⟩ := quad M6
      have N62 := Lib.hid (put4 M6 (.int .u64 (uv cvh)) (.int .u64 (uv cvl)) (.int .u64 (uv cch)) (.int .u64 (uv ccl)))
      have B9 := Lib.hid (HB8.out.trans (sets4 w8 w1.heap.size (.int .u64 (uv cvh)) (.int .u64 (uv cvl)) (.int .u64 (uv cch)) (.int .u64 (uv ccl))))
      have N92 : Hid (Blk ((((w8.setCell ⟨w1.heap.size, 0, none⟩ (.int .u64 (uv cvh))).setCell ⟨w1.heap.size, 1, none⟩ (.int .u64 (uv cvl))).setCell ⟨w1.heap.size, 2, none⟩ (.int .u64 (uv cch))).setCell ⟨w1.heap.size, 3, none⟩ (.int .u64 (uv ccl))) (w1.heap.size + 1) 113 #[.int .i64 88, .int .i64 24, .int .i64 ((n : Int) + 1), .int .i64 112, .int .i64 8, .int .i64 (m : Int), .int .i64 120, .int .i64 8, .int .i64 0]) := (((M9.out.far (Nat.succ_ne_self _) _).far (Nat.succ_ne_self _) _).far (Nat.succ_ne_self _) _).far (Nat.succ_ne_self _) _
      clear hS hb8 M6 t0 t1 t2 t3 u0 u1 u2 u3 HF HS
      go_wp2
      go_roundg (3 - (1 + 1))
      case measure => omega
      case rel => exact ⟨1 + 1, 1 + 1, cvh, cvl, cch, ccl, by omega, rfl, by go_num, (by show (1 : Int) + 1 = ((1 + 1 : Nat) : Int); rfl), HS2, N62, N92, B9⟩
    · obtain rfl : kz = 2 := HKZ.out
      have c0 := (N9.out.cell 6).trans rfl
      have c1 := (N9.out.cell 7).trans rfl
      have c2 := (N9.out.cell 8).trans rfl
      have bS := below1 wr (.cells #[.int .i64 120, .int .i64 8, .int .i64 0] 113)
      have nS := Blk.new wr 113 #[.int .i64 120, .int .i64 8, .int .i64 0]
      have hlt : wr.heap.size < (wr.alloc (.cells #[.int .i64 120, .int .i64 8, .int .i64 0] 113)).heap.size := by simp
      go_upto_region 5 with (fail)
      generalize wr.alloc (.cells #[.int .i64 120, .int .i64 8, .int .i64 0] 113) = w5 at bS nS hlt ⊢
      obtain ⟨s0, s1, s2⟩ := trio nS
      have HBS := Lib.hid bS
      clear bS nS c0 c1 c2
      go_wp2_with fail
      (with_reducible refine (fld2 _).mono ?_)
      rintro e w6 ⟨bvh, bvl, bch, bcl, rfl, hF, hb6⟩
      have HF := Lib.hid hF
      have HB6 := Lib.hid (HBS.out.trans (hb6.mono HBS.out.size))
      clear hF hb6 HBS s0 s1 s2
      have bO := below1 w6 (.cells #[.int .u64 (uv bvh), .int .u64 (uv bvl), .int .u64 (uv bch), .int .u64 (uv bcl)] 34)
      have nO := Blk.new w6 34 #[.int .u64 (uv bvh), .int .u64 (uv bvl), .int .u64 (uv bch), .int .u64 (uv bcl)]
      have HB7 := Lib.hid (HB6.out.trans (bO.mono HB6.out.size))
      have M6 := N6.out.on HB7.out
      have M9 := N9.out.on HB7.out
      have HBB := Lib.hid (HB.out.trans (HB7.out.mono HB.out.size))
      go_upto_region 6 with (fail)
      generalize w6.alloc (.cells #[.int .u64 (uv bvh), .int .u64 (uv bvl), .int .u64 (uv bch), .int .u64 (uv bcl)] 34) = w7 at bO nO M6 M9 HBB ⊢
      obtain ⟨t0, t1, t2, t3⟩ := quad nO
      obtain ⟨u0, u1, u2, u3⟩ := quad M6
      have HM6 := Lib.hid M6
      have HM9 := Lib.hid M9
      clear bO nO M6 M9 HB6 HB7
      go_wp2_with fail
      (with_reducible refine (meet_f HS.out HF.out rfl (by decide) (st2q n m) _).mono ?_)
      rintro e w8 ⟨cvh, cvl, cch, ccl, rfl, hS, hb8⟩
      have HS2 := Lib.hid hS
      have M6 := HM6.out.on hb8
      have M9 := Lib.hid (HM9.out.on hb8)
      have HB8 := Lib.hid (HBB.out.trans (hb8.mono HBB.out.size))
      obtain ⟨f0, f1, f2, f3⟩ := free4 M6
      obtain ⟨z0, z1, z2, z3⟩ := quad M6
      have N62 := Lib.hid (put4 M6 (.int .u64 (uv cvh)) (.int .u64 (uv cvl)) (.int .u64 (uv cch)) (.int .u64 (uv ccl)))
      have B9 := Lib.hid (HB8.out.trans (sets4 w8 w1.heap.size (.int .u64 (uv cvh)) (.int .u64 (uv cvl)) (.int .u64 (uv cch)) (.int .u64 (uv ccl))))
      have N92 : Hid (Blk ((((w8.setCell ⟨w1.heap.size, 0, none⟩ (.int .u64 (uv cvh))).setCell ⟨w1.heap.size, 1, none⟩ (.int .u64 (uv cvl))).setCell ⟨w1.heap.size, 2, none⟩ (.int .u64 (uv cch))).setCell ⟨w1.heap.size, 3, none⟩ (.int .u64 (uv ccl))) (w1.heap.size + 1) 113 #[.int .i64 88, .int .i64 24, .int .i64 ((n : Int) + 1), .int .i64 112, .int .i64 8, .int .i64 (m : Int), .int .i64 120, .int .i64 8, .int .i64 0]) := (((M9.out.far (Nat.succ_ne_self _) _).far (Nat.succ_ne_self _) _).far (Nat.succ_ne_self _) _).far (Nat.succ_ne_self _) _
      clear hS hb8 M6 t0 t1 t2 t3 u0 u1 u2 u3 HF HS
      go_wp2
      go_roundg (3 - (2 + 1))
      case measure => omega
      case rel => exact ⟨2 + 1, 2 + 1, cvh, cvl, cch, ccl, by omega, rfl, by go_num, (by show (2 : Int) + 1 = ((2 + 1 : Nat) : Int); rfl), HS2, N62, N92, B9⟩
    · obtain rfl : kz = 3 := HKZ.out
      obtain ⟨y0, y1, y2, y3⟩ := quad N6.out
      have Z4 := Z1.out.on HB.out
      obtain ⟨f0, f1, f2, f3⟩ := free4 Z4
      obtain ⟨z0, z1, z2, z3⟩ := quad Z4
      obtain ⟨q0, q1, q2, q3⟩ := quad (put4 Z4 (.int .u64 (uv avh)) (.int .u64 (uv avl)) (.int .u64 (uv ach)) (.int .u64 (uv acl)))
      have B5 := Lib.hid (B1.out.trans (HB.out.mono B1.out.size))
      have B6 := Lib.hid (B5.out.trans (sets4 wr w.heap.size (.int .u64 (uv avh)) (.int .u64 (uv avl)) (.int .u64 (uv ach)) (.int .u64 (uv acl))))
      clear Z4
      go_wp2
      exact bodyPost_ret (v := .tuple #[.agg #[.int .u64 (uv avh), .int .u64 (uv avl), .int .u64 (uv ach), .int .u64 (uv acl)], .int .i64 0]) (by simp [results, Try.results39, go_sem, q0, q1, q2, q3]) rfl ⟨avh, avl, ach, acl, rfl, HS.out, B6.out⟩
end Go.Proofs

namespace Go.Proofs.Hd
open Go.RowKit
/-- Are two pairs the same? -/
def eqA (a b : Int × Int) : Bool := (a.1 == b.1) && (a.2 == b.2)
theorem eqA_iff {a b : Int × Int} : eqA a b = true ↔ a = b := by
  cases a; cases b
  simp [eqA]
/-- Are two ways the same? -/
def eqW (a b : Wa) : Bool := (a.frm == b.frm) && ((a.too == b.too) && (a.via == b.via))
end Go.Proofs.Hd
namespace Go.Proofs
open Go.RowKit Go.Proofs.Hd Go.Lib
set_option maxRecDepth 100000 in
theorem run_eqA (w : World) (a0 a1 b0 b1 : Int) : (Op.equalIn 10000 102 (.agg #[.int .i64 a0, .int .i64 a1]) (.agg #[.int .i64 b0, .int .i64 b1])).run Try.prog w = .ok (eqA (a0, a1) (b0, b1)) w := by
  have e0 : ∀ u, (Op.equalIn 9999 3 (.int .i64 a0) (.int .i64 b0)).run Try.prog u = .ok (a0 == b0) u := fun u => run_equalIn_int u 9998 _ .i64 .i64 _ _ Try.underlying3
  have e1 : ∀ u, (Op.equalIn 9999 3 (.int .i64 a1) (.int .i64 b1)).run Try.prog u = .ok (a1 == b1) u := fun u => run_equalIn_int u 9998 _ .i64 .i64 _ _ Try.underlying3
  have hu := Try.underlying102
  unfold eqA
  show Sem.run Try.prog (Op.equalIn (9999 + 1) _ _ _) _ = _
  generalize 9999 = d at e0 e1 ⊢
  cases h0 : a0 == b0 <;> cases h1 : a1 == b1 <;> rw [h0] at e0 <;> rw [h1] at e1 <;>
  simp [Op.equalIn, run_underlying hu, Std.Legacy.Range.forIn_eq_forIn_range', List.range', part, e0, e1, Try.sizeOf3, go_sem]
set_option maxRecDepth 100000 in
theorem run_eqW (w : World) (a0 a1 a2 b0 b1 b2 : Int) : (Op.equalIn 10000 104 (.agg #[.int .i64 a0, .int .i64 a1, .int .i64 a2]) (.agg #[.int .i64 b0, .int .i64 b1, .int .i64 b2])).run Try.prog w = .ok (eqW ⟨a0, a1, a2⟩ ⟨b0, b1, b2⟩) w := by
  unfold eqW
  cases h1 : a0 == b0
  · go_simp
  cases h2 : a1 == b1
  · go_simp
  cases h3 : a2 == b2 <;> go_simp
attribute [irreducible] eqA eqW
attribute [local go_sem high] run_eqA run_eqW run_eqP
end Go.Proofs

namespace Go.Proofs.Hd
open Go.RowKit
/-- Is (a, b) among the spots E? -/
def isSp (E : List Rc) (a b : Int) : Prop := ∃ y ∈ E, (y.1 : Int) = a ∧ (y.2 : Int) = b
end Go.Proofs.Hd
namespace Go.Proofs
open Go.RowKit Go.Proofs.Hd Go.Lib
set_option maxRecDepth 100000 in
theorem run_eqSp (w : World) (a b c d : Int) : (Op.equalIn 10000 51 (.agg #[.int .i64 a, .int .i64 b]) (.agg #[.int .i64 c, .int .i64 d])).run Try.prog w = .ok (eqA (a, b) (c, d)) w := by
  unfold eqA
  cases h1 : a == c
  · go_simp
  cases h2 : b == d <;> go_simp
attribute [local go_sem high] run_eqSp
set_option maxRecDepth 100000 in
set_option maxHeartbeats 2000000 in
theorem idx_spot (v : Value) (E : List Rc) (a b : Int) (w : World) (hv : Spt w v E) (hE : E.length ≤ 2000000) : Calls Try.prog 55 #[v, .agg #[.int .i64 a, .int .i64 b]] w fun e w' => ∃ r : Int, e = .returned (.int .i64 r) ∧ (0 ≤ r ↔ isSp E a b) ∧ Below w.heap.size w w' := by
  obtain ⟨A, cap, rfl, hA⟩ := hv
  have HA := Lib.hid hA
  have hEz : (E.length : Int) ≤ 2000000 := by omega
  have B0 : Hid (Below w.heap.size w (w.alloc (.cells #[.int .i64 a, .int .i64 b] 51))) := below1 w _
  have N0 : Hid (Blk (w.alloc (.cells #[.int .i64 a, .int .i64 b] 51)) w.heap.size 51 #[.int .i64 a, .int .i64 b]) := Blk.new w _ _
  clear hA
  go_enter Try.func55, Try.ntmps55
  go_wp2
  generalize w.alloc (.cells #[.int .i64 a, .int .i64 b] 51) = w1 at B0 N0 ⊢
  go_loopg [5, 8] E.length (fun gk _ s8 wr => ∃ k : Nat, k ≤ E.length ∧ gk = E.length - k ∧ s8 = .int .i64 k ∧ Hid (∀ (j : Nat) (y : Rc), j < k → E[j]? = some y → ¬ ((y.1 : Int) = a ∧ (y.2 : Int) = b)) ∧ Hid (Below w1.heap.size w1 wr))
  case atStart => exact ⟨0, Nat.zero_le _, rfl, rfl, fun j y hj => absurd hj (Nat.not_lt_zero _), Below.refl _ _⟩
  case round =>
    obtain ⟨k, hk, rfl, rfl, HO, HW⟩ := hrel
    by_cases hlt : k < E.length
    · have hltz : (k : Int) < (E.length : Int) := by omega
      obtain ⟨y, hy⟩ : ∃ y, E[k]? = some y := ⟨_, List.getElem?_eq_getElem hlt⟩
      obtain ⟨eb, rfl, hec⟩ := HA.out (by rintro rfl; simp at hlt)
      have HBW := Lib.hid (B0.out.trans (HW.out.mono B0.out.size))
      have x0 := on_some HBW.out (hec k y hy).1
      have x1 := on_some HBW.out (hec k y hy).2
      obtain ⟨s0, s1⟩ := (N0.out.on HW.out).both
      have HXX := Lib.hid hy
      obtain ⟨ya, yb⟩ := y
      simp only at x0 x1
      clear hec hy
      cases hq : eqA (a, b) ((ya : Int), (yb : Int)) with
      | true =>
        have HQ : Hid (0 ≤ (k : Int) ↔ isSp E a b) := by
          have e := eqA_iff.1 hq
          injection e with e1 e2
          exact ⟨fun _ => ⟨(ya, yb), List.mem_of_getElem? HXX.out, e1.symm, e2.symm⟩, fun _ => by omega⟩
        go_wp2_with fail
        go_quiet (fail)
        have HW2 := Lib.hid (bldrewN HBW.out nq)
        go_wp2
        go_ret
        exact ⟨_, rfl, HQ.out, HW2.out⟩
      | false =>
        have HO2 : Hid (∀ (j : Nat) (y : Rc), j < k + 1 → E[j]? = some y → ¬ ((y.1 : Int) = a ∧ (y.2 : Int) = b)) := fun j z hj hz => by
          by_cases e : j = k
          · subst e
            rw [HXX.out] at hz
            injection hz with hz
            subst hz
            rintro ⟨h1, h2⟩
            rw [eqA_iff.2 (by rw [← h1, ← h2])] at hq
            cases hq
          · exact HO.out j z (by omega) hz
        go_wp2_with fail
        go_quiet (fail)
        have HW2 := Lib.hid (bldrewN HW.out nq)
        go_wp2
        go_roundg (E.length - (k + 1))
        case measure => omega
        case rel => exact ⟨k + 1, by omega, rfl, by go_num, HO2, HW2⟩
    · have hltz : ¬ (k : Int) < (E.length : Int) := by omega
      have HQ : Hid ((0 : Int) ≤ -1 ↔ isSp E a b) := by
        refine ⟨fun h => by omega, ?_⟩
        rintro ⟨y, hy, h⟩
        obtain ⟨j, hj⟩ := List.getElem?_of_mem hy
        exact absurd h (HO.out j y (by have := (List.getElem?_eq_some_iff.1 hj).1; omega) hj)
      go_wp2
      go_ret
      exact ⟨_, rfl, HQ.out, B0.out.trans (HW.out.mono B0.out.size)⟩
set_option maxRecDepth 100000 in
theorem has_spot (x : Bool) (v : Value) (E : List Rc) (a b : Int) (w : World) (hv : Spt w v E) (hE : E.length ≤ 2000000) (hx : x = true ↔ isSp E a b) : Calls Try.prog 37 #[v, .agg #[.int .i64 a, .int .i64 b]] w fun e w' => e = .returned (.bool x) ∧ Below w.heap.size w w' := by
  have B0 : Hid (Below w.heap.size w (w.alloc (.cells #[.int .i64 a, .int .i64 b] 51))) := below1 w _
  have N0 := (Blk.new w 51 #[.int .i64 a, .int .i64 b]).both
  have hv1 : Spt (w.alloc (.cells #[.int .i64 a, .int .i64 b] 51)) v E := by
    obtain ⟨A, cap, e, h⟩ := hv
    refine ⟨A, cap, e, fun hne => ?_⟩
    obtain ⟨b, e2, hc⟩ := h hne
    exact ⟨b, e2, fun k x hk => ⟨on_some B0.out (hc k x hk).1, on_some B0.out (hc k x hk).2⟩⟩
  have hcon := idx_spot v E a b _ hv1 hE
  have HX := Lib.hid hx
  clear hx hv hv1
  obtain ⟨n0, n1⟩ := N0
  go_enter Try.func37, Try.ntmps37
  go_wp2_with fail
  (with_reducible refine hcon.mono ?_)
  rintro e w1 ⟨r, rfl, hr, hb⟩
  have HB := Lib.hid (B0.out.trans (hb.mono B0.out.size))
  have HR := Lib.hid hr
  clear hr hb hcon n0 n1
  by_cases h0 : 0 ≤ r
  · have HE : Hid (x = true) := HX.out.2 (HR.out.1 h0)
    go_wp2
    go_ret
    exact ⟨by rw [HE.out]; rfl, HB.out⟩
  · have HE : Hid (x = false) := by
      show _ = _
      cases hxx : x with
      | false => rfl
      | true => exact absurd (HR.out.2 (HX.out.1 hxx)) h0
    have hd : decide (0 ≤ r) = false := decide_eq_false h0
    clear h0
    go_wp2
    go_ret
    exact ⟨by rw [HE.out]; rfl, HB.out⟩
end Go.Proofs

namespace Go.Proofs.Hd
open Go.RowKit
theorem there4 {w : World} {g : Nat} {t : TypeId} {cs : Array Value} (h : Blk w g t cs) : w.there g 0 cs.size := fun j hj => by
  rw [Nat.zero_add, h.cell j, h.free j]
  simp [hj]
theorem cellS {b : Nat} {p : Addr} (hp : b ≠ p.block) : ∀ (vs : List Value) (o : Nat) (w : World), (w.setCells b o vs).cell? p = w.cell? p
  | [], _, _ => rfl
  | v :: vs, o, w => (cellS hp vs (o + 1) _).trans (World.cell?_of_block (Below.heap_setCell w ⟨b, o, none⟩ v p.block (fun e => hp e.symm)))
theorem edge_sound {T : List (List Pt)} {L : List Pt} {n i : Nat} {p : Pt} (h : sTp T = 0) (hL : T[n]? = some L) (hp : L[i]? = some p) (hk : p.kind = 1) : ∃ t : Nat, t ≤ 3 ∧ p.ten = (t : Int) := by
  have h1 := (sTp_zero h).2 n i L p (List.getElem?_eq_some_iff.1 hL).1 hL hp
  unfold okP at h1
  rw [if_pos hk, Bool.and_eq_true] at h1
  have h2 := h1.1
  unfold inB at h2
  simp at h2
  exact ⟨p.ten.toNat, by omega, by omega⟩
theorem not_edge {T : List (List Pt)} {a b : Int} (h : ¬ isSp (eTo T T.length) a b) : edgT T a b = -1 := by
  unfold edgT
  cases hp : ptAt T a b with
  | none => rfl
  | some p =>
    simp only
    obtain ⟨n, i, L, rfl, rfl, hL, hi⟩ := ptAt_some hp
    rw [if_neg]
    intro hk
    exact h ⟨(n, i), eTo_mem.2 ⟨L, p, hL, hi, hk⟩, rfl, rfl⟩
/-- What Stamp answers. -/
def stmR (T : List (List Pt)) (z : Int) (a b ver : Int) (e : Ending) : Prop :=
  (z ≠ 0 → e = .returned (.tuple #[.agg #[.int .u64 0, .int .u64 0, .int .u64 0, .int .u64 0], .int .i64 z])) ∧
  (z = 0 → ¬ (0 ≤ ver ∧ ver ≤ 255) → e = .returned (.tuple #[.agg #[.int .u64 0, .int .u64 0, .int .u64 0, .int .u64 0], .int .i64 4])) ∧
  (z = 0 → 0 ≤ ver ∧ ver ≤ 255 → edgT T a b < 0 → e = .returned (.tuple #[.agg #[.int .u64 0, .int .u64 0, .int .u64 0, .int .u64 0], .int .i64 7])) ∧
  (z = 0 → 0 ≤ ver ∧ ver ≤ 255 → ¬ edgT T a b < 0 → ∃ (n m : Nat) (cvh cvl cch ccl : BitVec 64), n ≤ 3 ∧ m ≤ 255 ∧ edgT T a b = (n : Int) ∧ ver = (m : Int) ∧ e = .returned (.tuple #[.agg #[.int .u64 (uv cvh), .int .u64 (uv cvl), .int .u64 (uv cch), .int .u64 (uv ccl)], .int .i64 0]) ∧ StB n m 3 cvh cvl cch ccl)
theorem stmR_bad {T : List (List Pt)} {z a b ver : Int} (h : z ≠ 0) : stmR T z a b ver (.returned (.tuple #[.agg #[.int .u64 0, .int .u64 0, .int .u64 0, .int .u64 0], .int .i64 z])) := ⟨fun _ => rfl, fun e => absurd e h, fun e => absurd e h, fun e => absurd e h⟩
theorem stmR_ver {T : List (List Pt)} {a b ver : Int} (h : ¬ (0 ≤ ver ∧ ver ≤ 255)) : stmR T 0 a b ver (.returned (.tuple #[.agg #[.int .u64 0, .int .u64 0, .int .u64 0, .int .u64 0], .int .i64 4])) := ⟨fun e => absurd rfl e, fun _ _ => rfl, fun _ e => absurd e h, fun _ e => absurd e h⟩
theorem stmR_none {T : List (List Pt)} {a b ver : Int} (h : 0 ≤ ver ∧ ver ≤ 255) (h2 : edgT T a b < 0) : stmR T 0 a b ver (.returned (.tuple #[.agg #[.int .u64 0, .int .u64 0, .int .u64 0, .int .u64 0], .int .i64 7])) := ⟨fun e => absurd rfl e, fun _ e => absurd h e, fun _ _ _ => rfl, fun _ _ e => absurd h2 e⟩
theorem stmR_yes {T : List (List Pt)} {a b : Int} {n m : Nat} {cvh cvl cch ccl : BitVec 64} (hn : n ≤ 3) (hm : m ≤ 255) (h2 : edgT T a b = (n : Int)) (h : StB n m 3 cvh cvl cch ccl) : stmR T 0 a b m (.returned (.tuple #[.agg #[.int .u64 (uv cvh), .int .u64 (uv cvl), .int .u64 (uv cch), .int .u64 (uv ccl)], .int .i64 0])) := ⟨fun e => absurd rfl e, fun _ e => absurd (⟨by omega, by omega⟩ : 0 ≤ (m : Int) ∧ (m : Int) ≤ 255) e, fun _ _ e => by omega, fun _ _ _ => ⟨n, m, cvh, cvl, cch, ccl, hn, hm, h2, rfl, rfl, h⟩⟩
end Go.Proofs.Hd
namespace Go.Proofs
open Go.RowKit Go.Proofs.Hd Go.Lib
theorem infoCubeS : (Try.prog.info? 34).map (·.size) = some 4 := by kernel_rfl
set_option maxRecDepth 100000 in
set_option maxHeartbeats 4000000 in
theorem stamp_c (tv pv wv bv : Value) (T : List (List Pt)) (ten : Int) (P : List (Int × Int)) (Q : List Wa) (BB : List (List (List Rl))) (a b ver : Int) (w : World) (hT : PsT w tv T) (hP : Pe w pv P) (hQ : Wy w wv Q) (hB : RuQ w bv BB) : Calls Try.prog 24 #[.agg #[tv, .int .i64 ten, pv, wv, bv], .agg #[.int .i64 a, .int .i64 b], .int .i64 ver] w fun e w' => stmR T (cfgT T ten P Q BB) a b ver e ∧ Below w.heap.size w w' := by
  have HT := Lib.hid hT
  have HP := Lib.hid hP
  have HQ := Lib.hid hQ
  have HBQ := Lib.hid hB
  obtain ⟨A, cap, rfl, htm, hA⟩ := hT
  obtain ⟨pA, pc, rfl, -, -⟩ := hP
  obtain ⟨wA, wc, rfl, -, -⟩ := hQ
  obtain ⟨bA, bc, rfl, -, -⟩ := hB
  have HA := Lib.hid hA
  clear hA
  have B1 : Hid (Below w.heap.size w (((w.alloc (.cells #[.slice A T.length cap, .int .i64 ten, .slice pA P.length pc, .slice wA Q.length wc, .slice bA BB.length bc] 49)).alloc (.cells #[.int .i64 a, .int .i64 b] 51)).alloc (.cells #[.int .u64 0, .int .u64 0, .int .u64 0, .int .u64 0] 34))) := below3 w _ _ _
  have N1 : Hid (Blk (((w.alloc (.cells #[.slice A T.length cap, .int .i64 ten, .slice pA P.length pc, .slice wA Q.length wc, .slice bA BB.length bc] 49)).alloc (.cells #[.int .i64 a, .int .i64 b] 51)).alloc (.cells #[.int .u64 0, .int .u64 0, .int .u64 0, .int .u64 0] 34)) w.heap.size 49 #[.slice A T.length cap, .int .i64 ten, .slice pA P.length pc, .slice wA Q.length wc, .slice bA BB.length bc]) := ((Blk.new w _ _).on (below1 _ _)).on (below1 _ _)
  have S1 : Hid (Blk (((w.alloc (.cells #[.slice A T.length cap, .int .i64 ten, .slice pA P.length pc, .slice wA Q.length wc, .slice bA BB.length bc] 49)).alloc (.cells #[.int .i64 a, .int .i64 b] 51)).alloc (.cells #[.int .u64 0, .int .u64 0, .int .u64 0, .int .u64 0] 34)) (w.heap.size + 1) 51 #[.int .i64 a, .int .i64 b]) := (Blk.new2 w _ _ _).on (below1 _ _)
  have R1 : Hid (Blk (((w.alloc (.cells #[.slice A T.length cap, .int .i64 ten, .slice pA P.length pc, .slice wA Q.length wc, .slice bA BB.length bc] 49)).alloc (.cells #[.int .i64 a, .int .i64 b] 51)).alloc (.cells #[.int .u64 0, .int .u64 0, .int .u64 0, .int .u64 0] 34)) (w.heap.size + 1 + 1) 34 #[.int .u64 0, .int .u64 0, .int .u64 0, .int .u64 0]) := Blk.new3 w _ _ _ _
  go_enter Try.func24, Try.ntmps24
  obtain ⟨d0, d1, d2, d3, d4⟩ := N1.out.five
  go_upto_region 1 with (fail)
  clear d0 d1 d2 d3 d4
  generalize (((w.alloc (.cells #[.slice A T.length cap, .int .i64 ten, .slice pA P.length pc, .slice wA Q.length wc, .slice bA BB.length bc] 49)).alloc (.cells #[.int .i64 a, .int .i64 b] 51)).alloc (.cells #[.int .u64 0, .int .u64 0, .int .u64 0, .int .u64 0] 34)) = w1 at B1 N1 S1 R1 ⊢
  obtain ⟨d0, d1, d2, d3, d4⟩ := N1.out.five
  go_wp2_with fail
  (with_reducible refine (csound_c _ _ _ _ T ten P Q BB _ (HT.out.on B1.out) (HP.out.on B1.out) (HQ.out.on B1.out) (HBQ.out.on B1.out)).mono ?_)
  rintro e w2 ⟨rfl, hb2⟩
  have HB2 := Lib.hid (B1.out.trans (hb2.mono B1.out.size))
  have N2 := Lib.hid (N1.out.on hb2)
  have S2 := Lib.hid (S1.out.on hb2)
  have R2 := Lib.hid (R1.out.on hb2)
  clear hb2 B1 N1 S1 R1 d0 d1 d2 d3 d4
  obtain ⟨z, hz⟩ : ∃ z, cfgT T ten P Q BB = z := ⟨_, rfl⟩
  rw [hz]
  have HZ := Lib.hid hz
  clear hz
  obtain ⟨f0, f1, f2, f3⟩ := free4 R2.out
  obtain ⟨z0, z1, z2, z3⟩ := quad R2.out
  obtain ⟨q0, q1, q2, q3⟩ := quad (put4 R2.out (.int .u64 0) (.int .u64 0) (.int .u64 0) (.int .u64 0))
  have B6 := Lib.hid (HB2.out.trans ((sets4 w2 (w.heap.size + 1 + 1) (.int .u64 0) (.int .u64 0) (.int .u64 0) (.int .u64 0)).mono (by omega)))
  by_cases hz0 : z = 0
  · subst hz0
    have HTS : Hid (sTp T = 0) := by
      show _ = _
      have h := HZ.out
      unfold cfgT at h
      by_cases hs : sTp T = 0
      · exact hs
      · rw [if_neg hs] at h; exact h
    by_cases hv1 : ver < 0
    · have HR : Hid (¬ (0 ≤ ver ∧ ver ≤ 255)) := fun h => by omega
      go_wp2
      exact bodyPost_ret (v := .tuple #[.agg #[.int .u64 0, .int .u64 0, .int .u64 0, .int .u64 0], .int .i64 4]) (by simp [results, Try.results24, go_sem, q0, q1, q2, q3]) rfl ⟨by rw [HZ.out]; exact stmR_ver HR.out, B6.out⟩
    · by_cases hv2 : 255 < ver
      · have HR : Hid (¬ (0 ≤ ver ∧ ver ≤ 255)) := fun h => by omega
        go_wp2
        exact bodyPost_ret (v := .tuple #[.agg #[.int .u64 0, .int .u64 0, .int .u64 0, .int .u64 0], .int .i64 4]) (by simp [results, Try.results24, go_sem, q0, q1, q2, q3]) rfl ⟨by rw [HZ.out]; exact stmR_ver HR.out, B6.out⟩
      · obtain ⟨m, rfl⟩ : ∃ m : Nat, ver = (m : Int) := ⟨ver.toNat, by omega⟩
        have hm5 : m ≤ 255 := by omega
        have HR : Hid (0 ≤ (m : Int) ∧ (m : Int) ≤ 255) := ⟨by omega, by omega⟩
        have hb1 : decide ((m : Int) < 0) = false := decide_eq_false hv1
        have hb2 : decide ((255 : Int) < (m : Int)) = false := decide_eq_false hv2
        have hn := ports_sound HTS.out
        have hEl : (eTo T T.length).length ≤ 2000000 := Nat.le_trans (eTo_len T T.length (Nat.le_refl _)) (Nat.le_trans (take_le T _) hn)
        obtain ⟨d0, d1, d2, d3, d4⟩ := N2.out.five
        obtain ⟨e0, e1⟩ := S2.out.both
        by_cases his : isSp (eTo T T.length) a b
        · obtain ⟨⟨ya, yb⟩, hmem, rfl, rfl⟩ := id his
          obtain ⟨L, p, hL, hp, hkd⟩ := eTo_mem.1 hmem
          simp only at hL hp
          obtain ⟨n, hn3, hpt⟩ := edge_sound HTS.out hL hp hkd
          have HED : Hid (edgT T ya yb = (n : Int)) := (edgT_edge hL hp hkd).trans hpt
          have hxa := (List.getElem?_eq_some_iff.1 hL).1
          have hxb := (List.getElem?_eq_some_iff.1 hp).1
          have KP : ∀ W, Below w2.heap.size w2 W → (Below w2.heap.size w2 W ∧ W.cell? ⟨w.heap.size, 0, none⟩ = some (.slice A T.length cap) ∧ W.cell? ⟨w.heap.size + 1, 0, none⟩ = some (.int .i64 (ya : Int)) ∧ W.cell? ⟨w.heap.size + 1, 1, none⟩ = some (.int .i64 (yb : Int))) := fun W hb => ⟨hb, on_some hb d0, on_some hb e0, on_some hb e1⟩
          have HKP := Lib.hid KP
          have HIS : Hid (isSp (eTo T T.length) ya yb) := his
          have HL := Lib.hid hL
          have HPP := Lib.hid hp
          have HPT := Lib.hid hpt
          have HEL := Lib.hid hEl
          have HN := Lib.hid hn
          clear KP d0 d1 d2 d3 d4 e0 e1 hmem his hL hp hpt hkd hEl hn
          go_upto_region 6 with (fail)
          refine wp_region_held_drew (S := fun w' => Below w2.heap.size w2 w' ∧ w'.cell? ⟨w.heap.size, 0, none⟩ = some (.slice A T.length cap) ∧ w'.cell? ⟨w.heap.size + 1, 0, none⟩ = some (.int .i64 (ya : Int)) ∧ w'.cell? ⟨w.heap.size + 1, 1, none⟩ = some (.int .i64 (yb : Int))) (by kernel_rfl) (HKP.out _ (Below.refl _ w2).drew) (fun hHeld => ?_)
          refine wpAnyH_take (i := 0) (oi := ⟨some 22, _, _, _, _, _⟩) (v := ?va0) rfl (by kernel_rfl) (by kernel_rfl) (by kernel_rfl) (fun _ _ _ h => h) (Or.inl ⟨by rfl, ?ya0⟩) hHeld ?ra0
          case ya0 => (intro w' hSw; (try dsimp only at hSw); go_simp; try (with_reducible rfl))
          simp only [Act.put, List.setIfInBounds_toArray, List.set_cons_zero, List.set_cons_succ]
          refine wpAnyH_take (i := 1) (oi := ⟨some 23, _, _, _, _, _⟩) (v := ?va1) rfl (by kernel_rfl) (by kernel_rfl) (by kernel_rfl) (fun _ _ _ h => h) (Or.inl ⟨by rfl, ?ya1⟩) hHeld ?ra1
          case ya1 => (intro w' hSw; (try dsimp only at hSw); go_simp; try (with_reducible rfl))
          simp only [Act.put, List.setIfInBounds_toArray, List.set_cons_zero, List.set_cons_succ]
          refine wpAnyH_take (i := 3) (oi := ⟨some 25, _, _, _, _, _⟩) (v := ?va3) rfl (by kernel_rfl) (by kernel_rfl) (by kernel_rfl) (fun _ _ _ h => h) (Or.inl ⟨by rfl, ?ya3⟩) hHeld ?ra3
          case ya3 => (intro w' hSw; (try dsimp only at hSw); go_simp; try (with_reducible rfl))
          simp only [Act.put, List.setIfInBounds_toArray, List.set_cons_zero, List.set_cons_succ]
          refine wpAnyH_ready (rs := [2]) (by kernel_rfl) (by simp) ?_
          refine AllReadyH.cons (o := ⟨some 24, _, _, _, _, _⟩) rfl (fun K hK => ?_) AllReadyH.nil
          go_simp
          (with_reducible refine (edges_c _ T _ (HT.out.on (HB2.out.trans (hHeld.1.mono HB2.out.size))) HN.out).mono ?_)
          rintro e w5 ⟨ev, rfl, OE, hb⟩
          obtain ⟨eA, ec, rfl, hE⟩ := Spt.of OE
          have hE2 : Spt w5 (.slice eA (eTo T T.length).length ec) (eTo T T.length) := ⟨_, _, rfl, hE⟩
          (try dsimp only)
          refine hK.out _ _ (HKP.out _ (hHeld.1.trans (hb.mono hHeld.1.size))) (fun hNext => ?_)
          clear hK K hHeld
          have hHeld := hNext
          clear hNext
          try simp only [Act.put, List.setIfInBounds_toArray, List.set_cons_zero, List.set_cons_succ]
          refine wpAnyH_ready (rs := [4]) (by kernel_rfl) (by simp) ?_
          refine AllReadyH.cons (o := ⟨some 26, _, _, _, _, _⟩) rfl (fun K hK => ?_) AllReadyH.nil
          go_simp
          (with_reducible refine (has_spot true _ (eTo T T.length) ya yb _ hE2 HEL.out ⟨fun _ => HIS.out, fun _ => rfl⟩).mono ?_)
          rintro e w6 ⟨rfl, hb⟩
          (try dsimp only)
          refine hK.out _ _ (HKP.out _ (hHeld.1.trans (hb.mono hHeld.1.size))) (fun hNext => ?_)
          clear hK K hHeld
          have hHeld := hNext
          clear hNext
          try simp only [Act.put, List.setIfInBounds_toArray, List.set_cons_zero, List.set_cons_succ]
          refine wpAnyH_take (i := 5) (oi := ⟨some 27, _, _, _, _, _⟩) (v := ?va5) rfl (by kernel_rfl) (by kernel_rfl) (by kernel_rfl) (fun _ _ _ h => h) (Or.inl ⟨by rfl, ?ya5⟩) hHeld ?ra5
          case ya5 => (intro w' hSw; (try dsimp only at hSw); go_simp; try (with_reducible rfl))
          simp only [Act.put, List.setIfInBounds_toArray, List.set_cons_zero, List.set_cons_succ]
          refine wpAnyH_done (by kernel_rfl) ?_ _
          have HB4 := Lib.hid (HB2.out.trans (hHeld.1.mono HB2.out.size))
          have N4 := N2.out.on hHeld.1
          have S4 := S2.out.on hHeld.1
          have R4 := R2.out.on hHeld.1
          clear hHeld HKP HIS f0 f1 f2 f3 z0 z1 z2 z3 q0 q1 q2 q3 B6 hE hE2 hb OE
          obtain ⟨tb, tof, rfl, htb, htc⟩ := HA.out (by rintro rfl; simp at hxa)
          obtain ⟨s, hs, A3, c3, rfl, hLm, hA3⟩ := htc ya L HL.out
          obtain ⟨b3, o3, rfl, hb3, hpc⟩ := hA3 (by rintro rfl; simp at hxb)
          have hap := (hpc yb p HPP.out).2.1
          rw [HPT.out] at hap
          have cs := on_some HB4.out hs
          have cp := on_some HB4.out hap
          obtain ⟨d0, d1, d2, d3, d4⟩ := N4.five
          obtain ⟨e0, e1⟩ := S4.both
          have KP : ∀ W W', (Below w.heap.size w W ∧ W.cell? ⟨w.heap.size, 0, none⟩ = some (.slice (some ⟨tb, tof, none⟩) T.length cap) ∧ W.cell? ⟨w.heap.size + 1, 0, none⟩ = some (.int .i64 (ya : Int)) ∧ W.cell? ⟨w.heap.size + 1, 1, none⟩ = some (.int .i64 (yb : Int)) ∧ W.cell? ⟨tb, tof + ya, none⟩ = some (.slice (some ⟨b3, o3, none⟩) L.length c3) ∧ W.cell? ⟨b3, o3 + yb * 5 + 1, none⟩ = some (.int .i64 (n : Int)) ∧ ∃ x0 x1 x2 x3, Blk W (w.heap.size + 1 + 1) 34 #[x0, x1, x2, x3]) → Below W.heap.size W W' → (Below w.heap.size w W' ∧ W'.cell? ⟨w.heap.size, 0, none⟩ = some (.slice (some ⟨tb, tof, none⟩) T.length cap) ∧ W'.cell? ⟨w.heap.size + 1, 0, none⟩ = some (.int .i64 (ya : Int)) ∧ W'.cell? ⟨w.heap.size + 1, 1, none⟩ = some (.int .i64 (yb : Int)) ∧ W'.cell? ⟨tb, tof + ya, none⟩ = some (.slice (some ⟨b3, o3, none⟩) L.length c3) ∧ W'.cell? ⟨b3, o3 + yb * 5 + 1, none⟩ = some (.int .i64 (n : Int)) ∧ ∃ x0 x1 x2 x3, Blk W' (w.heap.size + 1 + 1) 34 #[x0, x1, x2, x3]) := fun W W' h hb => ⟨h.1.trans (hb.mono h.1.size), on_some hb h.2.1, on_some hb h.2.2.1, on_some hb h.2.2.2.1, on_some hb h.2.2.2.2.1, on_some hb h.2.2.2.2.2.1, (by obtain ⟨x0, x1, x2, x3, hx⟩ := h.2.2.2.2.2.2; exact ⟨x0, x1, x2, x3, hx.on hb⟩)⟩
          have HKP := Lib.hid KP
          have KS : ∀ W (v0 v1 v2 v3 : Value), (Below w.heap.size w W ∧ W.cell? ⟨w.heap.size, 0, none⟩ = some (.slice (some ⟨tb, tof, none⟩) T.length cap) ∧ W.cell? ⟨w.heap.size + 1, 0, none⟩ = some (.int .i64 (ya : Int)) ∧ W.cell? ⟨w.heap.size + 1, 1, none⟩ = some (.int .i64 (yb : Int)) ∧ W.cell? ⟨tb, tof + ya, none⟩ = some (.slice (some ⟨b3, o3, none⟩) L.length c3) ∧ W.cell? ⟨b3, o3 + yb * 5 + 1, none⟩ = some (.int .i64 (n : Int)) ∧ ∃ x0 x1 x2 x3, Blk W (w.heap.size + 1 + 1) 34 #[x0, x1, x2, x3]) → (Below w.heap.size w (W.setCells (w.heap.size + 1 + 1) 0 [v0, v1, v2, v3]) ∧ (W.setCells (w.heap.size + 1 + 1) 0 [v0, v1, v2, v3]).cell? ⟨w.heap.size, 0, none⟩ = some (.slice (some ⟨tb, tof, none⟩) T.length cap) ∧ (W.setCells (w.heap.size + 1 + 1) 0 [v0, v1, v2, v3]).cell? ⟨w.heap.size + 1, 0, none⟩ = some (.int .i64 (ya : Int)) ∧ (W.setCells (w.heap.size + 1 + 1) 0 [v0, v1, v2, v3]).cell? ⟨w.heap.size + 1, 1, none⟩ = some (.int .i64 (yb : Int)) ∧ (W.setCells (w.heap.size + 1 + 1) 0 [v0, v1, v2, v3]).cell? ⟨tb, tof + ya, none⟩ = some (.slice (some ⟨b3, o3, none⟩) L.length c3) ∧ (W.setCells (w.heap.size + 1 + 1) 0 [v0, v1, v2, v3]).cell? ⟨b3, o3 + yb * 5 + 1, none⟩ = some (.int .i64 (n : Int)) ∧ ∃ x0 x1 x2 x3, Blk (W.setCells (w.heap.size + 1 + 1) 0 [v0, v1, v2, v3]) (w.heap.size + 1 + 1) 34 #[x0, x1, x2, x3]) := fun W v0 v1 v2 v3 h => ⟨Below.setCells _ _ _ h.1 (by omega), (cellS (by simp only; omega) _ _ _).trans h.2.1, (cellS (by simp only; omega) _ _ _).trans h.2.2.1, (cellS (by simp only; omega) _ _ _).trans h.2.2.2.1, (cellS (by simp only; omega) _ _ _).trans h.2.2.2.2.1, (cellS (by simp only; omega) _ _ _).trans h.2.2.2.2.2.1, (by obtain ⟨x0, x1, x2, x3, hx⟩ := h.2.2.2.2.2.2; exact ⟨v0, v1, v2, v3, Blk.putC [v0, v1, v2, v3] 0 _ _ hx⟩)⟩
          have HKS := Lib.hid KS
          have HS0 : Hid (Below w.heap.size w w6 ∧ w6.cell? ⟨w.heap.size, 0, none⟩ = some (.slice (some ⟨tb, tof, none⟩) T.length cap) ∧ w6.cell? ⟨w.heap.size + 1, 0, none⟩ = some (.int .i64 (ya : Int)) ∧ w6.cell? ⟨w.heap.size + 1, 1, none⟩ = some (.int .i64 (yb : Int)) ∧ w6.cell? ⟨tb, tof + ya, none⟩ = some (.slice (some ⟨b3, o3, none⟩) L.length c3) ∧ w6.cell? ⟨b3, o3 + yb * 5 + 1, none⟩ = some (.int .i64 (n : Int)) ∧ ∃ x0 x1 x2 x3, Blk w6 (w.heap.size + 1 + 1) 34 #[x0, x1, x2, x3]) := ⟨HB4.out, d0, e0, e1, cs, cp, _, _, _, _, R4⟩
          have hxaz : (ya : Int) < (T.length : Int) := by omega
          have hxbz : (yb : Int) < (L.length : Int) := by omega
          have hn3z : (n : Int) ≤ 3 := by omega
          clear KP KS d0 d1 d2 d3 d4 e0 e1 cs cp N4 S4 R4 hs hap htc hA3 hpc
          go_upto_region 8 with (fail)
          refine wp_region_held_drew (S := fun w' => Below w.heap.size w w' ∧ w'.cell? ⟨w.heap.size, 0, none⟩ = some (.slice (some ⟨tb, tof, none⟩) T.length cap) ∧ w'.cell? ⟨w.heap.size + 1, 0, none⟩ = some (.int .i64 (ya : Int)) ∧ w'.cell? ⟨w.heap.size + 1, 1, none⟩ = some (.int .i64 (yb : Int)) ∧ w'.cell? ⟨tb, tof + ya, none⟩ = some (.slice (some ⟨b3, o3, none⟩) L.length c3) ∧ w'.cell? ⟨b3, o3 + yb * 5 + 1, none⟩ = some (.int .i64 (n : Int)) ∧ ∃ x0 x1 x2 x3, Blk w' (w.heap.size + 1 + 1) 34 #[x0, x1, x2, x3]) (by kernel_rfl) (HKP.out _ _ HS0.out (Below.refl _ w6).drew) (fun hHeld => ?_)
          refine wpAnyH_take (i := 0) (oi := ⟨some 29, _, _, _, _, _⟩) (v := ?vs0) rfl (by kernel_rfl) (by kernel_rfl) (by kernel_rfl) (fun _ _ _ h => h) (Or.inl ⟨by rfl, ?ys0⟩) hHeld ?rs0
          case ys0 => (intro w' hSw; (try dsimp only at hSw); go_simp; try (with_reducible rfl))
          simp only [Act.put, List.setIfInBounds_toArray, List.set_cons_zero, List.set_cons_succ]
          refine wpAnyH_take (i := 1) (oi := ⟨some 30, _, _, _, _, _⟩) (v := ?vs1) rfl (by kernel_rfl) (by kernel_rfl) (by kernel_rfl) (fun _ _ _ h => h) (Or.inl ⟨by rfl, ?ys1⟩) hHeld ?rs1
          case ys1 => (intro w' hSw; (try dsimp only at hSw); go_simp; try (with_reducible rfl))
          simp only [Act.put, List.setIfInBounds_toArray, List.set_cons_zero, List.set_cons_succ]
          refine wpAnyH_take (i := 2) (oi := ⟨some 31, _, _, _, _, _⟩) (v := ?vs2) rfl (by kernel_rfl) (by kernel_rfl) (by kernel_rfl) (fun _ _ _ h => h) (Or.inl ⟨by rfl, ?ys2⟩) hHeld ?rs2
          case ys2 => (intro w' hSw; (try dsimp only at hSw); go_simp; try (with_reducible rfl))
          simp only [Act.put, List.setIfInBounds_toArray, List.set_cons_zero, List.set_cons_succ]
          refine wpAnyH_take (i := 3) (oi := ⟨some 32, _, _, _, _, _⟩) (v := ?vs3) rfl (by kernel_rfl) (by kernel_rfl) (by kernel_rfl) (fun _ _ _ h => h) (Or.inl ⟨by rfl, ?ys3⟩) hHeld ?rs3
          case ys3 => (intro w' hSw; (try dsimp only at hSw); go_simp; try (with_reducible rfl))
          simp only [Act.put, List.setIfInBounds_toArray, List.set_cons_zero, List.set_cons_succ]
          refine wpAnyH_take (i := 4) (oi := ⟨some 33, _, _, _, _, _⟩) (v := ?vs4) rfl (by kernel_rfl) (by kernel_rfl) (by kernel_rfl) (fun _ _ _ h => h) (Or.inl ⟨by rfl, ?ys4⟩) hHeld ?rs4
          case ys4 => (intro w' hSw; (try dsimp only at hSw); go_simp; try (with_reducible rfl))
          simp only [Act.put, List.setIfInBounds_toArray, List.set_cons_zero, List.set_cons_succ]
          refine wpAnyH_take (i := 5) (oi := ⟨some 34, _, _, _, _, _⟩) (v := ?vs5) rfl (by kernel_rfl) (by kernel_rfl) (by kernel_rfl) (fun _ _ _ h => h) (Or.inl ⟨by rfl, ?ys5⟩) hHeld ?rs5
          case ys5 => (intro w' hSw; (try dsimp only at hSw); go_simp; try (with_reducible rfl))
          simp only [Act.put, List.setIfInBounds_toArray, List.set_cons_zero, List.set_cons_succ]
          refine wpAnyH_take (i := 6) (oi := ⟨some 35, _, _, _, _, _⟩) (v := ?vs6) rfl (by kernel_rfl) (by kernel_rfl) (by kernel_rfl) (fun _ _ _ h => h) (Or.inl ⟨by rfl, ?ys6⟩) hHeld ?rs6
          case ys6 => (intro w' hSw; (try dsimp only at hSw); go_simp; try (with_reducible rfl))
          simp only [Act.put, List.setIfInBounds_toArray, List.set_cons_zero, List.set_cons_succ]
          refine wpAnyH_take (i := 7) (oi := ⟨some 36, _, _, _, _, _⟩) (v := ?vs7) rfl (by kernel_rfl) (by kernel_rfl) (by kernel_rfl) (fun _ _ _ h => h) (Or.inl ⟨by rfl, ?ys7⟩) hHeld ?rs7
          case ys7 => (intro w' hSw; (try dsimp only at hSw); go_simp; try (with_reducible rfl))
          simp only [Act.put, List.setIfInBounds_toArray, List.set_cons_zero, List.set_cons_succ]
          refine wpAnyH_take (i := 8) (oi := ⟨some 37, _, _, _, _, _⟩) (v := ?vs8) rfl (by kernel_rfl) (by kernel_rfl) (by kernel_rfl) (fun _ _ _ h => h) (Or.inl ⟨by rfl, ?ys8⟩) hHeld ?rs8
          case ys8 => (intro w' hSw; (try dsimp only at hSw); go_simp; try (with_reducible rfl))
          simp only [Act.put, List.setIfInBounds_toArray, List.set_cons_zero, List.set_cons_succ]
          refine wpAnyH_take (i := 9) (oi := ⟨some 38, _, _, _, _, _⟩) (v := ?vs9) rfl (by kernel_rfl) (by kernel_rfl) (by kernel_rfl) (fun _ _ _ h => h) (Or.inl ⟨by rfl, ?ys9⟩) hHeld ?rs9
          case ys9 => (intro w' hSw; (try dsimp only at hSw); go_simp; try (with_reducible rfl))
          simp only [Act.put, List.setIfInBounds_toArray, List.set_cons_zero, List.set_cons_succ]
          refine wpAnyH_take (i := 10) (oi := ⟨some 39, _, _, _, _, _⟩) (v := ?vs10) rfl (by kernel_rfl) (by kernel_rfl) (by kernel_rfl) (fun _ _ _ h => h) (Or.inl ⟨by rfl, ?ys10⟩) hHeld ?rs10
          case ys10 => (intro w' hSw; (try dsimp only at hSw); go_simp; try (with_reducible rfl))
          simp only [Act.put, List.setIfInBounds_toArray, List.set_cons_zero, List.set_cons_succ]
          refine wpAnyH_take (i := 11) (oi := ⟨some 40, _, _, _, _, _⟩) (v := ?vs11) rfl (by kernel_rfl) (by kernel_rfl) (by kernel_rfl) (fun _ _ _ h => h) (Or.inl ⟨by rfl, ?ys11⟩) hHeld ?rs11
          case ys11 => (intro w' hSw; (try dsimp only at hSw); go_simp; try (with_reducible rfl))
          simp only [Act.put, List.setIfInBounds_toArray, List.set_cons_zero, List.set_cons_succ]
          refine wpAnyH_take (i := 12) (oi := ⟨some 41, _, _, _, _, _⟩) (v := ?vs12) rfl (by kernel_rfl) (by kernel_rfl) (by kernel_rfl) (fun _ _ _ h => h) (Or.inl ⟨by rfl, ?ys12⟩) hHeld ?rs12
          case ys12 => (intro w' hSw; (try dsimp only at hSw); go_simp; try (with_reducible rfl))
          simp only [Act.put, List.setIfInBounds_toArray, List.set_cons_zero, List.set_cons_succ]
          refine wpAnyH_ready (rs := [13]) (by kernel_rfl) (by simp) ?_
          refine AllReadyH.cons (o := ⟨some 42, _, _, _, _, _⟩) rfl (fun K hK => ?_) AllReadyH.nil
          go_simp
          (with_reducible refine (stamped_c n m hn3 hm5 _).mono ?_)
          rintro e w8 ⟨cvh, cvl, cch, ccl, rfl, hS, hb⟩
          have HSB := Lib.hid hS
          (try dsimp only)
          refine hK.out _ _ (HKP.out _ _ hHeld hb) (fun hNext => ?_)
          clear hK K hHeld
          have hHeld := hNext
          clear hNext
          try simp only [Act.put, List.setIfInBounds_toArray, List.set_cons_zero, List.set_cons_succ]
          refine wpAnyH_take (i := 14) (oi := ⟨some 43, _, _, _, _, _⟩) (v := ?vs14) rfl (by kernel_rfl) (by kernel_rfl) (by kernel_rfl) (fun _ _ _ h => h) (Or.inl ⟨by rfl, ?ys14⟩) hHeld ?rs14
          case ys14 => (intro w' hSw; (try dsimp only at hSw); go_simp; try (with_reducible rfl))
          simp only [Act.put, List.setIfInBounds_toArray, List.set_cons_zero, List.set_cons_succ]
          refine wpAnyH_take (i := 15) (oi := ⟨some 44, _, _, _, _, _⟩) (v := ?vs15) rfl (by kernel_rfl) (by kernel_rfl) (by kernel_rfl) (fun _ _ _ h => h) (Or.inl ⟨by rfl, ?ys15⟩) hHeld ?rs15
          case ys15 => (intro w' hSw; (try dsimp only at hSw); go_simp; try (with_reducible rfl))
          simp only [Act.put, List.setIfInBounds_toArray, List.set_cons_zero, List.set_cons_succ]
          refine wpAnyH_ready (rs := [16]) (by kernel_rfl) (by simp) ?_
          refine AllReadyH.cons (o := ⟨none, _, _, _, _, _⟩) rfl (fun K hK => ?_) AllReadyH.nil
          obtain ⟨x0, x1, x2, x3, KR⟩ := hHeld.2.2.2.2.2.2
          rw [if_pos (by rfl)]
          refine wp_store_mid 34 _ _ rfl (w.heap.size + 1 + 1) 0 #[.int .u64 (uv cvh), .int .u64 (uv cvl), .int .u64 (uv cch), .int .u64 (uv ccl)] rfl rfl (show World.there _ _ _ 4 from there4 KR) infoCubeS (by simp [Value.oneCell']) ?_
          (try dsimp only)
          refine hK.out _ _ (HKS.out _ _ _ _ _ hHeld) (fun hNext => ?_)
          clear hK K hHeld
          have hHeld := hNext
          clear hNext
          try simp only [Act.put]
          refine wpAnyH_take (i := 17) (oi := ⟨some 7, _, _, _, _, _⟩) (v := ?vs17) rfl (by kernel_rfl) (by kernel_rfl) (by kernel_rfl) (fun _ _ _ h => h) (Or.inl ⟨by rfl, ?ys17⟩) hHeld ?rs17
          case ys17 => (intro w' hSw; (try dsimp only at hSw); go_simp; try (with_reducible rfl))
          simp only [Act.put, List.setIfInBounds_toArray, List.set_cons_zero, List.set_cons_succ]
          refine wpAnyH_done (by kernel_rfl) ?_ _
          have HBE := Lib.hid hHeld.1
          have KE := Blk.putC [.int .u64 (uv cvh), .int .u64 (uv cvl), .int .u64 (uv cch), .int .u64 (uv ccl)] 0 _ _ KR
          obtain ⟨q0, q1, q2, q3⟩ := quad KE
          clear hHeld HKP HKS HS0 KE KR
          go_wp2
          exact bodyPost_ret (v := .tuple #[.agg #[.int .u64 (uv cvh), .int .u64 (uv cvl), .int .u64 (uv cch), .int .u64 (uv ccl)], .int .i64 0]) (by simp [results, Try.results24, go_sem, q0, q1, q2, q3]) rfl ⟨by rw [HZ.out]; exact stmR_yes hn3 hm5 HED.out HSB.out, HBE.out⟩
        · have HED : Hid (edgT T a b < 0) := by show _ < _; rw [not_edge his]; decide
          have KP : ∀ W, Below w2.heap.size w2 W → (Below w2.heap.size w2 W ∧ W.cell? ⟨w.heap.size, 0, none⟩ = some (.slice A T.length cap) ∧ W.cell? ⟨w.heap.size + 1, 0, none⟩ = some (.int .i64 a) ∧ W.cell? ⟨w.heap.size + 1, 1, none⟩ = some (.int .i64 b)) := fun W hb => ⟨hb, on_some hb d0, on_some hb e0, on_some hb e1⟩
          have HKP := Lib.hid KP
          have HIS : Hid (¬ isSp (eTo T T.length) a b) := his
          have HEL := Lib.hid hEl
          have HN := Lib.hid hn
          clear KP d0 d1 d2 d3 d4 e0 e1 his hEl hn
          go_upto_region 6 with (fail)
          refine wp_region_held_drew (S := fun w' => Below w2.heap.size w2 w' ∧ w'.cell? ⟨w.heap.size, 0, none⟩ = some (.slice A T.length cap) ∧ w'.cell? ⟨w.heap.size + 1, 0, none⟩ = some (.int .i64 a) ∧ w'.cell? ⟨w.heap.size + 1, 1, none⟩ = some (.int .i64 b)) (by kernel_rfl) (HKP.out _ (Below.refl _ w2).drew) (fun hHeld => ?_)
          refine wpAnyH_take (i := 0) (oi := ⟨some 22, _, _, _, _, _⟩) (v := ?vb0) rfl (by kernel_rfl) (by kernel_rfl) (by kernel_rfl) (fun _ _ _ h => h) (Or.inl ⟨by rfl, ?yb0⟩) hHeld ?rb0
          case yb0 => (intro w' hSw; (try dsimp only at hSw); go_simp; try (with_reducible rfl))
          simp only [Act.put, List.setIfInBounds_toArray, List.set_cons_zero, List.set_cons_succ]
          refine wpAnyH_take (i := 1) (oi := ⟨some 23, _, _, _, _, _⟩) (v := ?vb1) rfl (by kernel_rfl) (by kernel_rfl) (by kernel_rfl) (fun _ _ _ h => h) (Or.inl ⟨by rfl, ?yb1⟩) hHeld ?rb1
          case yb1 => (intro w' hSw; (try dsimp only at hSw); go_simp; try (with_reducible rfl))
          simp only [Act.put, List.setIfInBounds_toArray, List.set_cons_zero, List.set_cons_succ]
          refine wpAnyH_take (i := 3) (oi := ⟨some 25, _, _, _, _, _⟩) (v := ?vb3) rfl (by kernel_rfl) (by kernel_rfl) (by kernel_rfl) (fun _ _ _ h => h) (Or.inl ⟨by rfl, ?yb3⟩) hHeld ?rb3
          case yb3 => (intro w' hSw; (try dsimp only at hSw); go_simp; try (with_reducible rfl))
          simp only [Act.put, List.setIfInBounds_toArray, List.set_cons_zero, List.set_cons_succ]
          refine wpAnyH_ready (rs := [2]) (by kernel_rfl) (by simp) ?_
          refine AllReadyH.cons (o := ⟨some 24, _, _, _, _, _⟩) rfl (fun K hK => ?_) AllReadyH.nil
          go_simp
          (with_reducible refine (edges_c _ T _ (HT.out.on (HB2.out.trans (hHeld.1.mono HB2.out.size))) HN.out).mono ?_)
          rintro e w5 ⟨ev, rfl, OE, hb⟩
          obtain ⟨eA, ec, rfl, hE⟩ := Spt.of OE
          have hE2 : Spt w5 (.slice eA (eTo T T.length).length ec) (eTo T T.length) := ⟨_, _, rfl, hE⟩
          (try dsimp only)
          refine hK.out _ _ (HKP.out _ (hHeld.1.trans (hb.mono hHeld.1.size))) (fun hNext => ?_)
          clear hK K hHeld
          have hHeld := hNext
          clear hNext
          try simp only [Act.put, List.setIfInBounds_toArray, List.set_cons_zero, List.set_cons_succ]
          refine wpAnyH_ready (rs := [4]) (by kernel_rfl) (by simp) ?_
          refine AllReadyH.cons (o := ⟨some 26, _, _, _, _, _⟩) rfl (fun K hK => ?_) AllReadyH.nil
          go_simp
          (with_reducible refine (has_spot false _ (eTo T T.length) a b _ hE2 HEL.out ⟨fun h => (by cases h), fun h => absurd h HIS.out⟩).mono ?_)
          rintro e w6 ⟨rfl, hb⟩
          (try dsimp only)
          refine hK.out _ _ (HKP.out _ (hHeld.1.trans (hb.mono hHeld.1.size))) (fun hNext => ?_)
          clear hK K hHeld
          have hHeld := hNext
          clear hNext
          try simp only [Act.put, List.setIfInBounds_toArray, List.set_cons_zero, List.set_cons_succ]
          refine wpAnyH_take (i := 5) (oi := ⟨some 27, _, _, _, _, _⟩) (v := ?vb5) rfl (by kernel_rfl) (by kernel_rfl) (by kernel_rfl) (fun _ _ _ h => h) (Or.inl ⟨by rfl, ?yb5⟩) hHeld ?rb5
          case yb5 => (intro w' hSw; (try dsimp only at hSw); go_simp; try (with_reducible rfl))
          simp only [Act.put, List.setIfInBounds_toArray, List.set_cons_zero, List.set_cons_succ]
          refine wpAnyH_done (by kernel_rfl) ?_ _
          have HB4 := Lib.hid (HB2.out.trans (hHeld.1.mono HB2.out.size))
          have R4 := R2.out.on hHeld.1
          clear hHeld HKP HIS f0 f1 f2 f3 z0 z1 z2 z3 q0 q1 q2 q3 B6 hE hE2 hb OE
          obtain ⟨f0, f1, f2, f3⟩ := free4 R4
          obtain ⟨z0, z1, z2, z3⟩ := quad R4
          obtain ⟨q0, q1, q2, q3⟩ := quad (put4 R4 (.int .u64 0) (.int .u64 0) (.int .u64 0) (.int .u64 0))
          have B6 := Lib.hid (HB4.out.trans ((sets4 w6 (w.heap.size + 1 + 1) (.int .u64 0) (.int .u64 0) (.int .u64 0) (.int .u64 0)).mono (by omega)))
          clear R4
          go_wp2
          exact bodyPost_ret (v := .tuple #[.agg #[.int .u64 0, .int .u64 0, .int .u64 0, .int .u64 0], .int .i64 7]) (by simp [results, Try.results24, go_sem, q0, q1, q2, q3]) rfl ⟨by rw [HZ.out]; exact stmR_none HR.out HED.out, B6.out⟩
  · have HNZ := Lib.hid hz0
    go_wp2
    exact bodyPost_ret (v := .tuple #[.agg #[.int .u64 0, .int .u64 0, .int .u64 0, .int .u64 0], .int .i64 z]) (by simp [results, Try.results24, go_sem, q0, q1, q2, q3]) rfl ⟨by rw [HZ.out]; exact stmR_bad HNZ.out, B6.out⟩
end Go.Proofs

namespace Go.Proofs.Hd
open Go.RowKit
end Go.Proofs.Hd
namespace Go.Proofs
open Go.RowKit Go.Proofs.Hd Go.Lib
attribute [local go_sem] uv_nonneg
theorem infoHeadS : (Try.prog.info? 25).map (·.size) = some 2 := by kernel_rfl
theorem rset_s (r : Rl) (hh hl : BitVec 64) (w : World) : Calls Try.prog 35 #[.agg #[.int .i64 r.pri, .int .u64 (uv r.m.vh), .int .u64 (uv r.m.vl), .int .u64 (uv r.m.ch), .int .u64 (uv r.m.cl), .int .i64 r.kind, .int .i64 r.port, .int .i64 r.tab, .int .u64 (uv r.s.vh), .int .u64 (uv r.s.vl), .int .u64 (uv r.s.ch), .int .u64 (uv r.s.cl)], .agg #[.int .u64 (uv hh), .int .u64 (uv hl)]] w fun e w' => e = .returned (.agg #[.int .u64 (uv (stH r hh)), .int .u64 (uv (stL r hl))]) ∧ Below w.heap.size w w' := rset_r r hh hl w
theorem find_s {v : Value} {L : List Rl} {hh hl : BitVec 64} {w : World} {z : Option Nat} (hn : L.length ≤ 4611686018427387904) (hv : Ru w v L) (hz : fndI L hh hl = z) : Calls Try.prog 34 #[v, .agg #[.int .u64 (uv hh), .int .u64 (uv hl)]] w fun e w' => e = .returned (.tuple #[.int .i64 (fz z), .bool z.isSome]) ∧ Below w.heap.size w w' := by
  have h := find_c v L hh hl w hn hv
  rwa [hz] at h
theorem find_yes {v : Value} {L : List Rl} {hh hl : BitVec 64} {w : World} {j : Nat} (hn : L.length ≤ 4611686018427387904) (hv : Ru w v L) (hz : fndI L hh hl = some j) : Calls Try.prog 34 #[v, .agg #[.int .u64 (uv hh), .int .u64 (uv hl)]] w fun e w' => e = .returned (.tuple #[.int .i64 (j : Int), .bool true]) ∧ Below w.heap.size w w' := find_s hn hv hz
theorem find_no {v : Value} {L : List Rl} {hh hl : BitVec 64} {w : World} (hn : L.length ≤ 4611686018427387904) (hv : Ru w v L) (hz : fndI L hh hl = none) : Calls Try.prog 34 #[v, .agg #[.int .u64 (uv hh), .int .u64 (uv hl)]] w fun e w' => e = .returned (.tuple #[.int .i64 0, .bool false]) ∧ Below w.heap.size w w' := find_s hn hv hz
set_option maxRecDepth 100000 in
set_option maxHeartbeats 4000000 in
theorem lookup_no {v : Value} {L : List Rl} {hh hl : BitVec 64} {w : World} (hn : L.length ≤ 4611686018427387904) (hv : Ru w v L) (hz : fndI L hh hl = none) : Calls Try.prog 18 #[v, .agg #[.int .u64 (uv hh), .int .u64 (uv hl)]] w fun e w' => e = .returned (.tuple #[.int .i64 0, .agg #[.int .u64 0, .int .u64 0], .bool false]) ∧ Below w.heap.size w w' := by
  have HB0 : Hid (Below w.heap.size w ((w.alloc (.cells #[.int .u64 (uv hh), .int .u64 (uv hl)] 25)).alloc (.cells #[.int .u64 0, .int .u64 0] 25))) := below2 w _ _
  have X0 : Hid (Blk ((w.alloc (.cells #[.int .u64 (uv hh), .int .u64 (uv hl)] 25)).alloc (.cells #[.int .u64 0, .int .u64 0] 25)) w.heap.size 25 #[.int .u64 (uv hh), .int .u64 (uv hl)]) := (Blk.new w _ _).on (below1 _ _)
  have Z0 : Hid (Blk ((w.alloc (.cells #[.int .u64 (uv hh), .int .u64 (uv hl)] 25)).alloc (.cells #[.int .u64 0, .int .u64 0] 25)) (w.heap.size + 1) 25 #[.int .u64 0, .int .u64 0]) := Blk.new2 w _ _ _
  obtain ⟨x0, x1⟩ := X0.out.both
  have HV := Lib.hid (hv.on HB0.out)
  have HZ := Lib.hid hz
  clear hz hv
  go_enter Try.func18, Try.ntmps18
  go_upto_region 1 with (fail)
  generalize ((w.alloc (.cells #[.int .u64 (uv hh), .int .u64 (uv hl)] 25)).alloc (.cells #[.int .u64 0, .int .u64 0] 25)) = w1 at HB0 X0 Z0 HV x0 x1 ⊢
  go_wp2_with fail
  (with_reducible refine (find_no hn HV.out HZ.out).mono ?_)
  rintro e w2 ⟨rfl, hb⟩
  have Z2 := Z0.out.on hb
  obtain ⟨z0, z1⟩ := Z2.both
  have K := Z2.put2 (.int .u64 0) (.int .u64 0)
  obtain ⟨q0, q1⟩ := K.both
  have f0 := Z2.free 0
  have f1 := Z2.free 1
  have HB2 := Lib.hid ((HB0.out.trans (hb.mono HB0.out.size)).trans (below_put2 (B := w.heap.size) (g := w.heap.size + 1) (by omega) (.int .u64 0) (.int .u64 0)))
  clear hb HB0 X0 Z0 HV x0 x1 Z2 K
  go_wp2
  exact bodyPost_ret (v := .tuple #[.int .i64 0, .agg #[.int .u64 0, .int .u64 0], .bool false]) (by simp [results, Try.results18, go_sem, q0, q1]) rfl ⟨rfl, HB2.out⟩
set_option maxRecDepth 100000 in
set_option maxHeartbeats 4000000 in
theorem lookup_yes {v : Value} {L : List Rl} {hh hl : BitVec 64} {w : World} {j : Nat} {r : Rl} (hn : L.length ≤ 4611686018427387904) (hv : Ru w v L) (hz : fndI L hh hl = some j) (hr : L[j]? = some r) : Calls Try.prog 18 #[v, .agg #[.int .u64 (uv hh), .int .u64 (uv hl)]] w fun e w' => e = .returned (.tuple #[.int .i64 (j : Int), .agg #[.int .u64 (uv (stH r hh)), .int .u64 (uv (stL r hl))], .bool true]) ∧ Below w.heap.size w w' := by
  have hj : j < L.length := (List.getElem?_eq_some_iff.1 hr).1
  obtain ⟨A, cap, rfl, hA⟩ := hv.form
  obtain ⟨b, off, rfl, hbl, hpc⟩ := hA (by rintro rfl; simp at hj)
  have hjz : (j : Int) < (L.length : Int) := by omega
  have HB0 : Hid (Below w.heap.size w ((w.alloc (.cells #[.int .u64 (uv hh), .int .u64 (uv hl)] 25)).alloc (.cells #[.int .u64 0, .int .u64 0] 25))) := below2 w _ _
  have X0 : Hid (Blk ((w.alloc (.cells #[.int .u64 (uv hh), .int .u64 (uv hl)] 25)).alloc (.cells #[.int .u64 0, .int .u64 0] 25)) w.heap.size 25 #[.int .u64 (uv hh), .int .u64 (uv hl)]) := (Blk.new w _ _).on (below1 _ _)
  have Z0 : Hid (Blk ((w.alloc (.cells #[.int .u64 (uv hh), .int .u64 (uv hl)] 25)).alloc (.cells #[.int .u64 0, .int .u64 0] 25)) (w.heap.size + 1) 25 #[.int .u64 0, .int .u64 0]) := Blk.new2 w _ _ _
  obtain ⟨x0, x1⟩ := X0.out.both
  have HV := Lib.hid (hv.on HB0.out)
  have HZ := Lib.hid hz
  have HAT := Lib.hid ((hpc j r hr).on HB0.out)
  clear hz hv hA hpc hr
  go_enter Try.func18, Try.ntmps18
  go_upto_region 1 with (fail)
  generalize ((w.alloc (.cells #[.int .u64 (uv hh), .int .u64 (uv hl)] 25)).alloc (.cells #[.int .u64 0, .int .u64 0] 25)) = w1 at HB0 X0 Z0 HV HAT x0 x1 ⊢
  go_wp2_with fail
  (with_reducible refine (find_yes hn HV.out HZ.out).mono ?_)
  rintro e w2 ⟨rfl, hb⟩
  have HS0 : Hid (Below w.heap.size w w2 ∧ w2.cell? ⟨b, off + j * 12, none⟩ = some (.int .i64 r.pri) ∧ w2.cell? ⟨b, off + j * 12 + 1, none⟩ = some (.int .u64 (uv r.m.vh)) ∧ w2.cell? ⟨b, off + j * 12 + 2, none⟩ = some (.int .u64 (uv r.m.vl)) ∧ w2.cell? ⟨b, off + j * 12 + 3, none⟩ = some (.int .u64 (uv r.m.ch)) ∧ w2.cell? ⟨b, off + j * 12 + 4, none⟩ = some (.int .u64 (uv r.m.cl)) ∧ w2.cell? ⟨b, off + j * 12 + 5, none⟩ = some (.int .i64 r.kind) ∧ w2.cell? ⟨b, off + j * 12 + 6, none⟩ = some (.int .i64 r.port) ∧ w2.cell? ⟨b, off + j * 12 + 7, none⟩ = some (.int .i64 r.tab) ∧ w2.cell? ⟨b, off + j * 12 + 8, none⟩ = some (.int .u64 (uv r.s.vh)) ∧ w2.cell? ⟨b, off + j * 12 + 9, none⟩ = some (.int .u64 (uv r.s.vl)) ∧ w2.cell? ⟨b, off + j * 12 + 10, none⟩ = some (.int .u64 (uv r.s.ch)) ∧ w2.cell? ⟨b, off + j * 12 + 11, none⟩ = some (.int .u64 (uv r.s.cl)) ∧ w2.cell? ⟨w.heap.size, 0, none⟩ = some (.int .u64 (uv hh)) ∧ w2.cell? ⟨w.heap.size, 1, none⟩ = some (.int .u64 (uv hl)) ∧ (∃ x0 x1, Blk w2 (w.heap.size + 1) 25 #[x0, x1])) := by
    obtain ⟨c0, c1, c2, c3, c4, c5, c6, c7, c8, c9, c10, c11⟩ := (HAT.out.on hb).out
    obtain ⟨y0, y1⟩ := (X0.out.on hb).both
    exact ⟨HB0.out.trans (hb.mono HB0.out.size), c0, c1, c2, c3, c4, c5, c6, c7, c8, c9, c10, c11, y0, y1, _, _, Z0.out.on hb⟩
  clear hb HB0 X0 Z0 HV HAT x0 x1
  have KP : Hid (∀ W W', (Below w.heap.size w W ∧ W.cell? ⟨b, off + j * 12, none⟩ = some (.int .i64 r.pri) ∧ W.cell? ⟨b, off + j * 12 + 1, none⟩ = some (.int .u64 (uv r.m.vh)) ∧ W.cell? ⟨b, off + j * 12 + 2, none⟩ = some (.int .u64 (uv r.m.vl)) ∧ W.cell? ⟨b, off + j * 12 + 3, none⟩ = some (.int .u64 (uv r.m.ch)) ∧ W.cell? ⟨b, off + j * 12 + 4, none⟩ = some (.int .u64 (uv r.m.cl)) ∧ W.cell? ⟨b, off + j * 12 + 5, none⟩ = some (.int .i64 r.kind) ∧ W.cell? ⟨b, off + j * 12 + 6, none⟩ = some (.int .i64 r.port) ∧ W.cell? ⟨b, off + j * 12 + 7, none⟩ = some (.int .i64 r.tab) ∧ W.cell? ⟨b, off + j * 12 + 8, none⟩ = some (.int .u64 (uv r.s.vh)) ∧ W.cell? ⟨b, off + j * 12 + 9, none⟩ = some (.int .u64 (uv r.s.vl)) ∧ W.cell? ⟨b, off + j * 12 + 10, none⟩ = some (.int .u64 (uv r.s.ch)) ∧ W.cell? ⟨b, off + j * 12 + 11, none⟩ = some (.int .u64 (uv r.s.cl)) ∧ W.cell? ⟨w.heap.size, 0, none⟩ = some (.int .u64 (uv hh)) ∧ W.cell? ⟨w.heap.size, 1, none⟩ = some (.int .u64 (uv hl)) ∧ (∃ x0 x1, Blk W (w.heap.size + 1) 25 #[x0, x1])) → Below W.heap.size W W' → (Below w.heap.size w W' ∧ W'.cell? ⟨b, off + j * 12, none⟩ = some (.int .i64 r.pri) ∧ W'.cell? ⟨b, off + j * 12 + 1, none⟩ = some (.int .u64 (uv r.m.vh)) ∧ W'.cell? ⟨b, off + j * 12 + 2, none⟩ = some (.int .u64 (uv r.m.vl)) ∧ W'.cell? ⟨b, off + j * 12 + 3, none⟩ = some (.int .u64 (uv r.m.ch)) ∧ W'.cell? ⟨b, off + j * 12 + 4, none⟩ = some (.int .u64 (uv r.m.cl)) ∧ W'.cell? ⟨b, off + j * 12 + 5, none⟩ = some (.int .i64 r.kind) ∧ W'.cell? ⟨b, off + j * 12 + 6, none⟩ = some (.int .i64 r.port) ∧ W'.cell? ⟨b, off + j * 12 + 7, none⟩ = some (.int .i64 r.tab) ∧ W'.cell? ⟨b, off + j * 12 + 8, none⟩ = some (.int .u64 (uv r.s.vh)) ∧ W'.cell? ⟨b, off + j * 12 + 9, none⟩ = some (.int .u64 (uv r.s.vl)) ∧ W'.cell? ⟨b, off + j * 12 + 10, none⟩ = some (.int .u64 (uv r.s.ch)) ∧ W'.cell? ⟨b, off + j * 12 + 11, none⟩ = some (.int .u64 (uv r.s.cl)) ∧ W'.cell? ⟨w.heap.size, 0, none⟩ = some (.int .u64 (uv hh)) ∧ W'.cell? ⟨w.heap.size, 1, none⟩ = some (.int .u64 (uv hl)) ∧ (∃ x0 x1, Blk W' (w.heap.size + 1) 25 #[x0, x1]))) := fun W W' h hb => ⟨h.1.trans (hb.mono h.1.size), on_some hb h.2.1, on_some hb h.2.2.1, on_some hb h.2.2.2.1, on_some hb h.2.2.2.2.1, on_some hb h.2.2.2.2.2.1, on_some hb h.2.2.2.2.2.2.1, on_some hb h.2.2.2.2.2.2.2.1, on_some hb h.2.2.2.2.2.2.2.2.1, on_some hb h.2.2.2.2.2.2.2.2.2.1, on_some hb h.2.2.2.2.2.2.2.2.2.2.1, on_some hb h.2.2.2.2.2.2.2.2.2.2.2.1, on_some hb h.2.2.2.2.2.2.2.2.2.2.2.2.1, on_some hb h.2.2.2.2.2.2.2.2.2.2.2.2.2.1, on_some hb h.2.2.2.2.2.2.2.2.2.2.2.2.2.2.1, (by obtain ⟨x0, x1, hx⟩ := h.2.2.2.2.2.2.2.2.2.2.2.2.2.2.2; exact ⟨x0, x1, hx.on hb⟩)⟩
  have KS : Hid (∀ W (v0 v1 : Value), (Below w.heap.size w W ∧ W.cell? ⟨b, off + j * 12, none⟩ = some (.int .i64 r.pri) ∧ W.cell? ⟨b, off + j * 12 + 1, none⟩ = some (.int .u64 (uv r.m.vh)) ∧ W.cell? ⟨b, off + j * 12 + 2, none⟩ = some (.int .u64 (uv r.m.vl)) ∧ W.cell? ⟨b, off + j * 12 + 3, none⟩ = some (.int .u64 (uv r.m.ch)) ∧ W.cell? ⟨b, off + j * 12 + 4, none⟩ = some (.int .u64 (uv r.m.cl)) ∧ W.cell? ⟨b, off + j * 12 + 5, none⟩ = some (.int .i64 r.kind) ∧ W.cell? ⟨b, off + j * 12 + 6, none⟩ = some (.int .i64 r.port) ∧ W.cell? ⟨b, off + j * 12 + 7, none⟩ = some (.int .i64 r.tab) ∧ W.cell? ⟨b, off + j * 12 + 8, none⟩ = some (.int .u64 (uv r.s.vh)) ∧ W.cell? ⟨b, off + j * 12 + 9, none⟩ = some (.int .u64 (uv r.s.vl)) ∧ W.cell? ⟨b, off + j * 12 + 10, none⟩ = some (.int .u64 (uv r.s.ch)) ∧ W.cell? ⟨b, off + j * 12 + 11, none⟩ = some (.int .u64 (uv r.s.cl)) ∧ W.cell? ⟨w.heap.size, 0, none⟩ = some (.int .u64 (uv hh)) ∧ W.cell? ⟨w.heap.size, 1, none⟩ = some (.int .u64 (uv hl)) ∧ (∃ x0 x1, Blk W (w.heap.size + 1) 25 #[x0, x1])) → (Below w.heap.size w (W.setCells (w.heap.size + 1) 0 [v0, v1]) ∧ (W.setCells (w.heap.size + 1) 0 [v0, v1]).cell? ⟨b, off + j * 12, none⟩ = some (.int .i64 r.pri) ∧ (W.setCells (w.heap.size + 1) 0 [v0, v1]).cell? ⟨b, off + j * 12 + 1, none⟩ = some (.int .u64 (uv r.m.vh)) ∧ (W.setCells (w.heap.size + 1) 0 [v0, v1]).cell? ⟨b, off + j * 12 + 2, none⟩ = some (.int .u64 (uv r.m.vl)) ∧ (W.setCells (w.heap.size + 1) 0 [v0, v1]).cell? ⟨b, off + j * 12 + 3, none⟩ = some (.int .u64 (uv r.m.ch)) ∧ (W.setCells (w.heap.size + 1) 0 [v0, v1]).cell? ⟨b, off + j * 12 + 4, none⟩ = some (.int .u64 (uv r.m.cl)) ∧ (W.setCells (w.heap.size + 1) 0 [v0, v1]).cell? ⟨b, off + j * 12 + 5, none⟩ = some (.int .i64 r.kind) ∧ (W.setCells (w.heap.size + 1) 0 [v0, v1]).cell? ⟨b, off + j * 12 + 6, none⟩ = some (.int .i64 r.port) ∧ (W.setCells (w.heap.size + 1) 0 [v0, v1]).cell? ⟨b, off + j * 12 + 7, none⟩ = some (.int .i64 r.tab) ∧ (W.setCells (w.heap.size + 1) 0 [v0, v1]).cell? ⟨b, off + j * 12 + 8, none⟩ = some (.int .u64 (uv r.s.vh)) ∧ (W.setCells (w.heap.size + 1) 0 [v0, v1]).cell? ⟨b, off + j * 12 + 9, none⟩ = some (.int .u64 (uv r.s.vl)) ∧ (W.setCells (w.heap.size + 1) 0 [v0, v1]).cell? ⟨b, off + j * 12 + 10, none⟩ = some (.int .u64 (uv r.s.ch)) ∧ (W.setCells (w.heap.size + 1) 0 [v0, v1]).cell? ⟨b, off + j * 12 + 11, none⟩ = some (.int .u64 (uv r.s.cl)) ∧ (W.setCells (w.heap.size + 1) 0 [v0, v1]).cell? ⟨w.heap.size, 0, none⟩ = some (.int .u64 (uv hh)) ∧ (W.setCells (w.heap.size + 1) 0 [v0, v1]).cell? ⟨w.heap.size, 1, none⟩ = some (.int .u64 (uv hl)) ∧ (∃ x0 x1, Blk (W.setCells (w.heap.size + 1) 0 [v0, v1]) (w.heap.size + 1) 25 #[x0, x1]))) := fun W v0 v1 h => ⟨Below.setCells _ _ _ h.1 (by omega), (cellS (by simp only; omega) _ _ _).trans h.2.1, (cellS (by simp only; omega) _ _ _).trans h.2.2.1, (cellS (by simp only; omega) _ _ _).trans h.2.2.2.1, (cellS (by simp only; omega) _ _ _).trans h.2.2.2.2.1, (cellS (by simp only; omega) _ _ _).trans h.2.2.2.2.2.1, (cellS (by simp only; omega) _ _ _).trans h.2.2.2.2.2.2.1, (cellS (by simp only; omega) _ _ _).trans h.2.2.2.2.2.2.2.1, (cellS (by simp only; omega) _ _ _).trans h.2.2.2.2.2.2.2.2.1, (cellS (by simp only; omega) _ _ _).trans h.2.2.2.2.2.2.2.2.2.1, (cellS (by simp only; omega) _ _ _).trans h.2.2.2.2.2.2.2.2.2.2.1, (cellS (by simp only; omega) _ _ _).trans h.2.2.2.2.2.2.2.2.2.2.2.1, (cellS (by simp only; omega) _ _ _).trans h.2.2.2.2.2.2.2.2.2.2.2.2.1, (cellS (by simp only; omega) _ _ _).trans h.2.2.2.2.2.2.2.2.2.2.2.2.2.1, (cellS (by simp only; omega) _ _ _).trans h.2.2.2.2.2.2.2.2.2.2.2.2.2.2.1, (by obtain ⟨x0, x1, hx⟩ := h.2.2.2.2.2.2.2.2.2.2.2.2.2.2.2; exact ⟨v0, v1, Blk.putC [v0, v1] 0 _ _ hx⟩)⟩
  go_upto_region 4 with (fail)
  refine wp_region_held_drew (S := fun w' => Below w.heap.size w w' ∧ w'.cell? ⟨b, off + j * 12, none⟩ = some (.int .i64 r.pri) ∧ w'.cell? ⟨b, off + j * 12 + 1, none⟩ = some (.int .u64 (uv r.m.vh)) ∧ w'.cell? ⟨b, off + j * 12 + 2, none⟩ = some (.int .u64 (uv r.m.vl)) ∧ w'.cell? ⟨b, off + j * 12 + 3, none⟩ = some (.int .u64 (uv r.m.ch)) ∧ w'.cell? ⟨b, off + j * 12 + 4, none⟩ = some (.int .u64 (uv r.m.cl)) ∧ w'.cell? ⟨b, off + j * 12 + 5, none⟩ = some (.int .i64 r.kind) ∧ w'.cell? ⟨b, off + j * 12 + 6, none⟩ = some (.int .i64 r.port) ∧ w'.cell? ⟨b, off + j * 12 + 7, none⟩ = some (.int .i64 r.tab) ∧ w'.cell? ⟨b, off + j * 12 + 8, none⟩ = some (.int .u64 (uv r.s.vh)) ∧ w'.cell? ⟨b, off + j * 12 + 9, none⟩ = some (.int .u64 (uv r.s.vl)) ∧ w'.cell? ⟨b, off + j * 12 + 10, none⟩ = some (.int .u64 (uv r.s.ch)) ∧ w'.cell? ⟨b, off + j * 12 + 11, none⟩ = some (.int .u64 (uv r.s.cl)) ∧ w'.cell? ⟨w.heap.size, 0, none⟩ = some (.int .u64 (uv hh)) ∧ w'.cell? ⟨w.heap.size, 1, none⟩ = some (.int .u64 (uv hl)) ∧ (∃ x0 x1, Blk w' (w.heap.size + 1) 25 #[x0, x1])) (by kernel_rfl) (KP.out _ _ HS0.out (Below.refl _ w2).drew) (fun hHeld => ?_)
  refine wpAnyH_take (i := 0) (oi := ⟨some 18, _, _, _, _, _⟩) (v := ?vlk0) rfl (by kernel_rfl) (by kernel_rfl) (by kernel_rfl) (fun _ _ _ h => h) (Or.inl ⟨by rfl, ?ylk0⟩) hHeld ?rlk0
  case ylk0 => (intro w' hSw; (try dsimp only at hSw); go_simp; try (with_reducible rfl))
  simp only [Act.put, List.setIfInBounds_toArray, List.set_cons_zero, List.set_cons_succ]
  refine wpAnyH_take (i := 1) (oi := ⟨some 19, _, _, _, _, _⟩) (v := ?vlk1) rfl (by kernel_rfl) (by kernel_rfl) (by kernel_rfl) (fun _ _ _ h => h) (Or.inl ⟨by rfl, ?ylk1⟩) hHeld ?rlk1
  case ylk1 => (intro w' hSw; (try dsimp only at hSw); go_simp; try (with_reducible rfl))
  simp only [Act.put, List.setIfInBounds_toArray, List.set_cons_zero, List.set_cons_succ]
  refine wpAnyH_take (i := 2) (oi := ⟨some 20, _, _, _, _, _⟩) (v := ?vlk2) rfl (by kernel_rfl) (by kernel_rfl) (by kernel_rfl) (fun _ _ _ h => h) (Or.inl ⟨by rfl, ?ylk2⟩) hHeld ?rlk2
  case ylk2 => (intro w' hSw; (try dsimp only at hSw); go_simp; try (with_reducible rfl))
  simp only [Act.put, List.setIfInBounds_toArray, List.set_cons_zero, List.set_cons_succ]
  refine wpAnyH_take (i := 3) (oi := ⟨some 21, _, _, _, _, _⟩) (v := ?vlk3) rfl (by kernel_rfl) (by kernel_rfl) (by kernel_rfl) (fun _ _ _ h => h) (Or.inl ⟨by rfl, ?ylk3⟩) hHeld ?rlk3
  case ylk3 => (intro w' hSw; (try dsimp only at hSw); go_simp; try (with_reducible rfl))
  simp only [Act.put, List.setIfInBounds_toArray, List.set_cons_zero, List.set_cons_succ]
  refine wpAnyH_take (i := 4) (oi := ⟨some 22, _, _, _, _, _⟩) (v := ?vlk4) rfl (by kernel_rfl) (by kernel_rfl) (by kernel_rfl) (fun _ _ _ h => h) (Or.inl ⟨by rfl, ?ylk4⟩) hHeld ?rlk4
  case ylk4 => (intro w' hSw; (try dsimp only at hSw); go_simp; try (with_reducible rfl))
  simp only [Act.put, List.setIfInBounds_toArray, List.set_cons_zero, List.set_cons_succ]
  refine wpAnyH_take (i := 5) (oi := ⟨some 23, _, _, _, _, _⟩) (v := ?vlk5) rfl (by kernel_rfl) (by kernel_rfl) (by kernel_rfl) (fun _ _ _ h => h) (Or.inl ⟨by rfl, ?ylk5⟩) hHeld ?rlk5
  case ylk5 => (intro w' hSw; (try dsimp only at hSw); go_simp; try (with_reducible rfl))
  simp only [Act.put, List.setIfInBounds_toArray, List.set_cons_zero, List.set_cons_succ]
  refine wpAnyH_ready (rs := [6]) (by kernel_rfl) (by simp) ?_
  refine AllReadyH.cons (o := ⟨some 24, _, _, _, _, _⟩) rfl (fun K hK => ?_) AllReadyH.nil
  go_simp
  (with_reducible refine (rset_s r hh hl _).mono ?_)
  rintro e w8 ⟨rfl, hb⟩
  (try dsimp only)
  refine hK.out _ _ (KP.out _ _ hHeld hb) (fun hNext => ?_)
  clear hK K hHeld hb
  have hHeld := hNext
  clear hNext
  try simp only [Act.put, List.setIfInBounds_toArray, List.set_cons_zero, List.set_cons_succ]
  refine wpAnyH_take (i := 7) (oi := ⟨some 4, _, _, _, _, _⟩) (v := ?vlk7) rfl (by kernel_rfl) (by kernel_rfl) (by kernel_rfl) (fun _ _ _ h => h) (Or.inl ⟨by rfl, ?ylk7⟩) hHeld ?rlk7
  case ylk7 => (intro w' hSw; (try dsimp only at hSw); go_simp; try (with_reducible rfl))
  simp only [Act.put, List.setIfInBounds_toArray, List.set_cons_zero, List.set_cons_succ]
  refine wpAnyH_ready (rs := [8]) (by kernel_rfl) (by simp) ?_
  refine AllReadyH.cons (o := ⟨none, _, _, _, _, _⟩) rfl (fun K hK => ?_) AllReadyH.nil
  obtain ⟨x0, x1, KR⟩ := hHeld.2.2.2.2.2.2.2.2.2.2.2.2.2.2.2
  rw [if_pos (by rfl)]
  refine wp_store_mid 25 _ _ rfl (w.heap.size + 1) 0 #[.int .u64 (uv (stH r hh)), .int .u64 (uv (stL r hl))] rfl rfl (show World.there _ _ _ 2 from there4 KR) infoHeadS (by simp [Value.oneCell']) ?_
  (try dsimp only)
  refine hK.out _ _ (KS.out _ _ _ hHeld) (fun hNext => ?_)
  clear hK K hHeld
  have hHeld := hNext
  clear hNext
  try simp only [Act.put]
  refine wpAnyH_take (i := 9) (oi := ⟨some 6, _, _, _, _, _⟩) (v := ?vlk9) rfl (by kernel_rfl) (by kernel_rfl) (by kernel_rfl) (fun _ _ _ h => h) (Or.inl ⟨by rfl, ?ylk9⟩) hHeld ?rlk9
  case ylk9 => (intro w' hSw; (try dsimp only at hSw); go_simp; try (with_reducible rfl))
  simp only [Act.put, List.setIfInBounds_toArray, List.set_cons_zero, List.set_cons_succ]
  refine wpAnyH_done (by kernel_rfl) ?_ _
  have HBE := Lib.hid hHeld.1
  have KE := Blk.putC [.int .u64 (uv (stH r hh)), .int .u64 (uv (stL r hl))] 0 _ _ KR
  obtain ⟨q0, q1⟩ := Blk.both KE
  clear hHeld KP KS HS0 KE KR
  go_wp2
  exact bodyPost_ret (v := .tuple #[.int .i64 (j : Int), .agg #[.int .u64 (uv (stH r hh)), .int .u64 (uv (stL r hl))], .bool true]) (by simp [results, Try.results18, go_sem, q0, q1]) rfl ⟨rfl, HBE.out⟩
/-- What a lookup answers. -/
def OneIs (L : List Rl) (hh hl : BitVec 64) (j : Int) (gh gl : BitVec 64) (x : Bool) : Prop := (fndI L hh hl = none ∧ j = 0 ∧ gh = 0#64 ∧ gl = 0#64 ∧ x = false) ∨ ∃ (k : Nat) (r : Rl), fndI L hh hl = some k ∧ L[k]? = some r ∧ j = (k : Int) ∧ gh = stH r hh ∧ gl = stL r hl ∧ x = true
theorem OneIs.ex (L : List Rl) (hh hl : BitVec 64) : ∃ j gh gl x, OneIs L hh hl j gh gl x := by
  cases hf : fndI L hh hl with
  | none => exact ⟨_, _, _, _, .inl ⟨hf, rfl, rfl, rfl, rfl⟩⟩
  | some k => exact ⟨_, _, _, _, .inr ⟨k, _, hf, List.getElem?_eq_getElem (fnd_at hf), rfl, rfl, rfl, rfl⟩⟩
theorem lookup_c {v : Value} {L : List Rl} {hh hl : BitVec 64} {w : World} {j : Int} {gh gl : BitVec 64} {x : Bool} (hn : L.length ≤ 4611686018427387904) (hv : Ru w v L) (hz : OneIs L hh hl j gh gl x) : Calls Try.prog 18 #[v, .agg #[.int .u64 (uv hh), .int .u64 (uv hl)]] w fun e w' => e = .returned (.tuple #[.int .i64 j, .agg #[.int .u64 (uv gh), .int .u64 (uv gl)], .bool x]) ∧ Below w.heap.size w w' := by
  rcases hz with ⟨h1, rfl, rfl, rfl, rfl⟩ | ⟨k, r, h1, h2, rfl, rfl, rfl, rfl⟩
  · exact lookup_no hn hv h1
  · exact lookup_yes hn hv h1 h2
set_option maxRecDepth 100000 in
set_option maxHeartbeats 4000000 in
theorem one_out {v : Value} {X : List (List Rl)} {n : Int} {hh hl : BitVec 64} {w : World} (hv : RuT w v X) (hn : ¬ (0 ≤ n ∧ n < X.length)) : Calls Try.prog 8 #[v, .int .i64 n, .agg #[.int .u64 (uv hh), .int .u64 (uv hl)]] w fun e w' => e = .returned (.tuple #[.int .i64 0, .agg #[.int .u64 0, .int .u64 0], .bool false]) ∧ Below w.heap.size w w' := by
  obtain ⟨A, cap, rfl, -, -, -⟩ := hv
  have HB0 : Hid (Below w.heap.size w ((w.alloc (.cells #[.int .u64 (uv hh), .int .u64 (uv hl)] 25)).alloc (.cells #[.int .u64 0, .int .u64 0] 25))) := below2 w _ _
  have X0 : Hid (Blk ((w.alloc (.cells #[.int .u64 (uv hh), .int .u64 (uv hl)] 25)).alloc (.cells #[.int .u64 0, .int .u64 0] 25)) w.heap.size 25 #[.int .u64 (uv hh), .int .u64 (uv hl)]) := (Blk.new w _ _).on (below1 _ _)
  have Z0 : Hid (Blk ((w.alloc (.cells #[.int .u64 (uv hh), .int .u64 (uv hl)] 25)).alloc (.cells #[.int .u64 0, .int .u64 0] 25)) (w.heap.size + 1) 25 #[.int .u64 0, .int .u64 0]) := Blk.new2 w _ _ _
  obtain ⟨x0, x1⟩ := X0.out.both
  have K := Z0.out.put2 (.int .u64 0) (.int .u64 0)
  obtain ⟨z0, z1⟩ := Z0.out.both
  obtain ⟨q0, q1⟩ := K.both
  have f0 := Z0.out.free 0
  have f1 := Z0.out.free 1
  have HB2 := Lib.hid (HB0.out.trans (below_put2 (B := w.heap.size) (g := w.heap.size + 1) (by omega) (.int .u64 0) (.int .u64 0)))
  clear K x0 x1 X0 HB0 Z0
  by_cases h1 : n < 0
  · go_enter Try.func8, Try.ntmps8
    go_upto_region 1 with (fail)
    generalize ((w.alloc (.cells #[.int .u64 (uv hh), .int .u64 (uv hl)] 25)).alloc (.cells #[.int .u64 0, .int .u64 0] 25)) = w1 at HB2 z0 z1 q0 q1 f0 f1 ⊢
    go_wp2
    exact bodyPost_ret (v := .tuple #[.int .i64 0, .agg #[.int .u64 0, .int .u64 0], .bool false]) (by simp [results, Try.results8, go_sem, q0, q1]) rfl ⟨rfl, HB2.out⟩
  · have h2 : (X.length : Int) ≤ n := by omega
    go_enter Try.func8, Try.ntmps8
    go_upto_region 1 with (fail)
    generalize ((w.alloc (.cells #[.int .u64 (uv hh), .int .u64 (uv hl)] 25)).alloc (.cells #[.int .u64 0, .int .u64 0] 25)) = w1 at HB2 z0 z1 q0 q1 f0 f1 ⊢
    go_wp2
    exact bodyPost_ret (v := .tuple #[.int .i64 0, .agg #[.int .u64 0, .int .u64 0], .bool false]) (by simp [results, Try.results8, go_sem, q0, q1]) rfl ⟨rfl, HB2.out⟩
set_option maxRecDepth 100000 in
set_option maxHeartbeats 4000000 in
theorem one_c {v : Value} {X : List (List Rl)} {t : Nat} {R : List Rl} {hh hl : BitVec 64} {w : World} {j : Int} {gh gl : BitVec 64} {x : Bool} (hRl : R.length ≤ 4611686018427387904) (hv : RuT w v X) (ht : X[t]? = some R) (hz : OneIs R hh hl j gh gl x) : Calls Try.prog 8 #[v, .int .i64 (t : Int), .agg #[.int .u64 (uv hh), .int .u64 (uv hl)]] w fun e w' => e = .returned (.tuple #[.int .i64 j, .agg #[.int .u64 (uv gh), .int .u64 (uv gl)], .bool x]) ∧ Below w.heap.size w w' := by
  have htl : t < X.length := (List.getElem?_eq_some_iff.1 ht).1
  have htz : (t : Int) < (X.length : Int) := by omega
  obtain ⟨A, cap, rfl, -, -, hf⟩ := hv
  obtain ⟨b, o, rfl, hbl, hk⟩ := hf (by rintro rfl; simp at htl)
  obtain ⟨s, hs, hru⟩ := hk t R ht
  obtain ⟨RA, Rc, rfl, -⟩ := hru.form
  have HB0 : Hid (Below w.heap.size w ((w.alloc (.cells #[.int .u64 (uv hh), .int .u64 (uv hl)] 25)).alloc (.cells #[.int .u64 0, .int .u64 0] 25))) := below2 w _ _
  have X0 : Hid (Blk ((w.alloc (.cells #[.int .u64 (uv hh), .int .u64 (uv hl)] 25)).alloc (.cells #[.int .u64 0, .int .u64 0] 25)) w.heap.size 25 #[.int .u64 (uv hh), .int .u64 (uv hl)]) := (Blk.new w _ _).on (below1 _ _)
  have Z0 : Hid (Blk ((w.alloc (.cells #[.int .u64 (uv hh), .int .u64 (uv hl)] 25)).alloc (.cells #[.int .u64 0, .int .u64 0] 25)) (w.heap.size + 1) 25 #[.int .u64 0, .int .u64 0]) := Blk.new2 w _ _ _
  obtain ⟨x0, x1⟩ := X0.out.both
  have HS0 : Hid (Below w.heap.size w ((w.alloc (.cells #[.int .u64 (uv hh), .int .u64 (uv hl)] 25)).alloc (.cells #[.int .u64 0, .int .u64 0] 25)) ∧ ((w.alloc (.cells #[.int .u64 (uv hh), .int .u64 (uv hl)] 25)).alloc (.cells #[.int .u64 0, .int .u64 0] 25)).cell? ⟨b, o + t, none⟩ = some (.slice RA R.length Rc) ∧ ((w.alloc (.cells #[.int .u64 (uv hh), .int .u64 (uv hl)] 25)).alloc (.cells #[.int .u64 0, .int .u64 0] 25)).cell? ⟨w.heap.size, 0, none⟩ = some (.int .u64 (uv hh)) ∧ ((w.alloc (.cells #[.int .u64 (uv hh), .int .u64 (uv hl)] 25)).alloc (.cells #[.int .u64 0, .int .u64 0] 25)).cell? ⟨w.heap.size, 1, none⟩ = some (.int .u64 (uv hl)) ∧ (∃ x0 x1, Blk ((w.alloc (.cells #[.int .u64 (uv hh), .int .u64 (uv hl)] 25)).alloc (.cells #[.int .u64 0, .int .u64 0] 25)) (w.heap.size + 1) 25 #[x0, x1])) := ⟨HB0.out, on_some HB0.out hs, x0, x1, _, _, Z0.out⟩
  have HR : Hid (Ru w (.slice RA R.length Rc) R) := hru
  have HI := Lib.hid hz
  clear hz hru hk hs x0 x1 X0 HB0 Z0 hf ht
  go_enter Try.func8, Try.ntmps8
  go_upto_region 1 with (fail)
  generalize ((w.alloc (.cells #[.int .u64 (uv hh), .int .u64 (uv hl)] 25)).alloc (.cells #[.int .u64 0, .int .u64 0] 25)) = w1 at HS0 ⊢
  go_upto_region 3 with (fail)
  have KP : Hid (∀ W W', (Below w.heap.size w W ∧ W.cell? ⟨b, o + t, none⟩ = some (.slice RA R.length Rc) ∧ W.cell? ⟨w.heap.size, 0, none⟩ = some (.int .u64 (uv hh)) ∧ W.cell? ⟨w.heap.size, 1, none⟩ = some (.int .u64 (uv hl)) ∧ (∃ x0 x1, Blk W (w.heap.size + 1) 25 #[x0, x1])) → Below W.heap.size W W' → (Below w.heap.size w W' ∧ W'.cell? ⟨b, o + t, none⟩ = some (.slice RA R.length Rc) ∧ W'.cell? ⟨w.heap.size, 0, none⟩ = some (.int .u64 (uv hh)) ∧ W'.cell? ⟨w.heap.size, 1, none⟩ = some (.int .u64 (uv hl)) ∧ (∃ x0 x1, Blk W' (w.heap.size + 1) 25 #[x0, x1]))) := fun W W' h hb => ⟨h.1.trans (hb.mono h.1.size), on_some hb h.2.1, on_some hb h.2.2.1, on_some hb h.2.2.2.1, (by obtain ⟨x0, x1, hx⟩ := h.2.2.2.2; exact ⟨x0, x1, hx.on hb⟩)⟩
  have KS : Hid (∀ W (v0 v1 : Value), (Below w.heap.size w W ∧ W.cell? ⟨b, o + t, none⟩ = some (.slice RA R.length Rc) ∧ W.cell? ⟨w.heap.size, 0, none⟩ = some (.int .u64 (uv hh)) ∧ W.cell? ⟨w.heap.size, 1, none⟩ = some (.int .u64 (uv hl)) ∧ (∃ x0 x1, Blk W (w.heap.size + 1) 25 #[x0, x1])) → (Below w.heap.size w (W.setCells (w.heap.size + 1) 0 [v0, v1]) ∧ (W.setCells (w.heap.size + 1) 0 [v0, v1]).cell? ⟨b, o + t, none⟩ = some (.slice RA R.length Rc) ∧ (W.setCells (w.heap.size + 1) 0 [v0, v1]).cell? ⟨w.heap.size, 0, none⟩ = some (.int .u64 (uv hh)) ∧ (W.setCells (w.heap.size + 1) 0 [v0, v1]).cell? ⟨w.heap.size, 1, none⟩ = some (.int .u64 (uv hl)) ∧ (∃ x0 x1, Blk (W.setCells (w.heap.size + 1) 0 [v0, v1]) (w.heap.size + 1) 25 #[x0, x1]))) := fun W v0 v1 h => ⟨Below.setCells _ _ _ h.1 (by omega), (cellS (by simp only; omega) _ _ _).trans h.2.1, (cellS (by simp only; omega) _ _ _).trans h.2.2.1, (cellS (by simp only; omega) _ _ _).trans h.2.2.2.1, (by obtain ⟨x0, x1, hx⟩ := h.2.2.2.2; exact ⟨v0, v1, Blk.putC [v0, v1] 0 _ _ hx⟩)⟩
  refine wp_region_held_drew (S := fun w' => Below w.heap.size w w' ∧ w'.cell? ⟨b, o + t, none⟩ = some (.slice RA R.length Rc) ∧ w'.cell? ⟨w.heap.size, 0, none⟩ = some (.int .u64 (uv hh)) ∧ w'.cell? ⟨w.heap.size, 1, none⟩ = some (.int .u64 (uv hl)) ∧ (∃ x0 x1, Blk w' (w.heap.size + 1) 25 #[x0, x1])) (by kernel_rfl) (KP.out _ _ HS0.out (Below.refl _ w1).drew) (fun hHeld => ?_)
  refine wpAnyH_take (i := 0) (oi := ⟨some 18, _, _, _, _, _⟩) (v := ?von0) rfl (by kernel_rfl) (by kernel_rfl) (by kernel_rfl) (fun _ _ _ h => h) (Or.inl ⟨by rfl, ?yon0⟩) hHeld ?ron0
  case yon0 => (intro w' hSw; (try dsimp only at hSw); go_simp; try (with_reducible rfl))
  simp only [Act.put, List.setIfInBounds_toArray, List.set_cons_zero, List.set_cons_succ]
  refine wpAnyH_take (i := 1) (oi := ⟨some 19, _, _, _, _, _⟩) (v := ?von1) rfl (by kernel_rfl) (by kernel_rfl) (by kernel_rfl) (fun _ _ _ h => h) (Or.inl ⟨by rfl, ?yon1⟩) hHeld ?ron1
  case yon1 => (intro w' hSw; (try dsimp only at hSw); go_simp; try (with_reducible rfl))
  simp only [Act.put, List.setIfInBounds_toArray, List.set_cons_zero, List.set_cons_succ]
  refine wpAnyH_take (i := 2) (oi := ⟨some 20, _, _, _, _, _⟩) (v := ?von2) rfl (by kernel_rfl) (by kernel_rfl) (by kernel_rfl) (fun _ _ _ h => h) (Or.inl ⟨by rfl, ?yon2⟩) hHeld ?ron2
  case yon2 => (intro w' hSw; (try dsimp only at hSw); go_simp; try (with_reducible rfl))
  simp only [Act.put, List.setIfInBounds_toArray, List.set_cons_zero, List.set_cons_succ]
  refine wpAnyH_take (i := 3) (oi := ⟨some 21, _, _, _, _, _⟩) (v := ?von3) rfl (by kernel_rfl) (by kernel_rfl) (by kernel_rfl) (fun _ _ _ h => h) (Or.inl ⟨by rfl, ?yon3⟩) hHeld ?ron3
  case yon3 => (intro w' hSw; (try dsimp only at hSw); go_simp; try (with_reducible rfl))
  simp only [Act.put, List.setIfInBounds_toArray, List.set_cons_zero, List.set_cons_succ]
  refine wpAnyH_take (i := 4) (oi := ⟨some 22, _, _, _, _, _⟩) (v := ?von4) rfl (by kernel_rfl) (by kernel_rfl) (by kernel_rfl) (fun _ _ _ h => h) (Or.inl ⟨by rfl, ?yon4⟩) hHeld ?ron4
  case yon4 => (intro w' hSw; (try dsimp only at hSw); go_simp; try (with_reducible rfl))
  simp only [Act.put, List.setIfInBounds_toArray, List.set_cons_zero, List.set_cons_succ]
  refine wpAnyH_ready (rs := [5]) (by kernel_rfl) (by simp) ?_
  refine AllReadyH.cons (o := ⟨some 23, _, _, _, _, _⟩) rfl (fun K hK => ?_) AllReadyH.nil
  go_simp
  (with_reducible refine (lookup_c hRl (HR.out.on hHeld.1) HI.out).mono ?_)
  rintro e w8 ⟨rfl, hb⟩
  (try dsimp only)
  refine hK.out _ _ (KP.out _ _ hHeld hb) (fun hNext => ?_)
  clear hK K hHeld hb
  have hHeld := hNext
  clear hNext
  try simp only [Act.put, List.setIfInBounds_toArray, List.set_cons_zero, List.set_cons_succ]
  refine wpAnyH_take (i := 6) (oi := ⟨some 24, _, _, _, _, _⟩) (v := ?von6) rfl (by kernel_rfl) (by kernel_rfl) (by kernel_rfl) (fun _ _ _ h => h) (Or.inl ⟨by rfl, ?yon6⟩) hHeld ?ron6
  case yon6 => (intro w' hSw; (try dsimp only at hSw); go_simp; try (with_reducible rfl))
  simp only [Act.put, List.setIfInBounds_toArray, List.set_cons_zero, List.set_cons_succ]
  refine wpAnyH_take (i := 7) (oi := ⟨some 25, _, _, _, _, _⟩) (v := ?von7) rfl (by kernel_rfl) (by kernel_rfl) (by kernel_rfl) (fun _ _ _ h => h) (Or.inl ⟨by rfl, ?yon7⟩) hHeld ?ron7
  case yon7 => (intro w' hSw; (try dsimp only at hSw); go_simp; try (with_reducible rfl))
  simp only [Act.put, List.setIfInBounds_toArray, List.set_cons_zero, List.set_cons_succ]
  refine wpAnyH_take (i := 8) (oi := ⟨some 26, _, _, _, _, _⟩) (v := ?von8) rfl (by kernel_rfl) (by kernel_rfl) (by kernel_rfl) (fun _ _ _ h => h) (Or.inl ⟨by rfl, ?yon8⟩) hHeld ?ron8
  case yon8 => (intro w' hSw; (try dsimp only at hSw); go_simp; try (with_reducible rfl))
  simp only [Act.put, List.setIfInBounds_toArray, List.set_cons_zero, List.set_cons_succ]
  refine wpAnyH_take (i := 9) (oi := ⟨some 6, _, _, _, _, _⟩) (v := ?von9) rfl (by kernel_rfl) (by kernel_rfl) (by kernel_rfl) (fun _ _ _ h => h) (Or.inl ⟨by rfl, ?yon9⟩) hHeld ?ron9
  case yon9 => (intro w' hSw; (try dsimp only at hSw); go_simp; try (with_reducible rfl))
  simp only [Act.put, List.setIfInBounds_toArray, List.set_cons_zero, List.set_cons_succ]
  refine wpAnyH_ready (rs := [10]) (by kernel_rfl) (by simp) ?_
  refine AllReadyH.cons (o := ⟨none, _, _, _, _, _⟩) rfl (fun K hK => ?_) AllReadyH.nil
  obtain ⟨x0, x1, KR⟩ := hHeld.2.2.2.2
  rw [if_pos (by rfl)]
  refine wp_store_mid 25 _ _ rfl (w.heap.size + 1) 0 #[.int .u64 (uv gh), .int .u64 (uv gl)] rfl rfl (show World.there _ _ _ 2 from there4 KR) infoHeadS (by simp [Value.oneCell']) ?_
  (try dsimp only)
  refine hK.out _ _ (KS.out _ _ _ hHeld) (fun hNext => ?_)
  clear hK K hHeld
  have hHeld := hNext
  clear hNext
  try simp only [Act.put]
  refine wpAnyH_take (i := 11) (oi := ⟨some 8, _, _, _, _, _⟩) (v := ?von11) rfl (by kernel_rfl) (by kernel_rfl) (by kernel_rfl) (fun _ _ _ h => h) (Or.inl ⟨by rfl, ?yon11⟩) hHeld ?ron11
  case yon11 => (intro w' hSw; (try dsimp only at hSw); go_simp; try (with_reducible rfl))
  simp only [Act.put, List.setIfInBounds_toArray, List.set_cons_zero, List.set_cons_succ]
  refine wpAnyH_done (by kernel_rfl) ?_ _
  have HBE := Lib.hid hHeld.1
  have KE := Blk.putC [.int .u64 (uv gh), .int .u64 (uv gl)] 0 _ _ KR
  obtain ⟨q0, q1⟩ := Blk.both KE
  clear hHeld KP KS HS0 KE KR
  go_wp2
  exact bodyPost_ret (v := .tuple #[.int .i64 j, .agg #[.int .u64 (uv gh), .int .u64 (uv gl)], .bool x]) (by simp [results, Try.results8, go_sem, q0, q1]) rfl ⟨rfl, HBE.out⟩
end Go.Proofs

namespace Go.Proofs.Hd
open Go.RowKit
/-- From w to w' at most the blocks of S have changed, and new ones may be there. -/
structure Ch (S : Nat → Prop) (w w' : World) : Prop where
  os : w'.os = w.os
  tape : w'.tape = w.tape
  output : w'.output = w.output
  size : w.heap.size ≤ w'.heap.size
  block : ∀ k, k < w.heap.size → ¬ S k → w'.heap[k]? = w.heap[k]?
theorem Ch.refl (S : Nat → Prop) (w : World) : Ch S w w := ⟨rfl, rfl, rfl, Nat.le_refl _, fun _ _ _ => rfl⟩
theorem Ch.trans {S : Nat → Prop} {a b c : World} (h : Ch S a b) (k : Ch S b c) : Ch S a c :=
  ⟨k.os.trans h.os, k.tape.trans h.tape, k.output.trans h.output, Nat.le_trans h.size k.size, fun i hi hs => (k.block i (Nat.lt_of_lt_of_le hi h.size) hs).trans (h.block i hi hs)⟩
theorem Ch.mono {S S' : Nat → Prop} {w w' : World} (h : Ch S w w') (hs : ∀ k, k < w.heap.size → S k → S' k) : Ch S' w w' := ⟨h.os, h.tape, h.output, h.size, fun k hk hn => h.block k hk (fun c => hn (hs k hk c))⟩
theorem Ch.of_below {S : Nat → Prop} {w w' : World} (h : Below w.heap.size w w') : Ch S w w' := ⟨h.os, h.tape, h.output, h.size, fun k hk _ => h.block k hk⟩
theorem Ch.below {S : Nat → Prop} {B : Nat} {w w' : World} (h : Ch S w w') (hB : B ≤ w.heap.size) (hs : ∀ k, k < B → ¬ S k) : Below B w w' := ⟨h.os, h.tape, h.output, h.size, fun k hk => h.block k (by omega) (hs k hk)⟩
theorem Ch.set (w : World) (p : Addr) (u : Value) : Ch (· = p.block) w (w.setCell p u) := ⟨rfl, rfl, rfl, by simp [World.setCell], fun k _ hn => Below.heap_setCell _ _ _ _ hn⟩
theorem Ch.tb {S : Nat → Prop} {w w' : World} {g : Nat} {t : TypeId} (h : Ch S w w') (b : TB w g t) (hn : ¬ S g) : TB w' g t := by
  obtain ⟨cs, fr, e⟩ := b; exact ⟨cs, fr, (h.block g (TB.lt ⟨cs, fr, e⟩) hn).trans e⟩
theorem Ch.cell {S : Nat → Prop} {w w' : World} {p : Addr} {v : Value} (h : Ch S w w') (hc : w.cell? p = some v) (hn : ¬ S p.block) : w'.cell? p = some v :=
  (World.cell?_of_block (h.block p.block (World.block_lt_of_cell? w p hc) hn)).trans hc
theorem Ch.own {S : Nat → Prop} {w w' : World} {base e size n : Nat} {v : Value} {xs : List Value} (h : Ch S w w') (r : w.ownsRow base e size v n xs) (hn : ∀ g, v.ownBlock = some g → ¬ S g) : w'.ownsRow base e size v n xs := by
  refine ⟨r.1, ?_⟩
  rcases r.2 with r | ⟨g, cap, cur, rfl, hb, hg, rest⟩
  · exact .inl r
  · exact .inr ⟨g, cap, cur, rfl, hb, (h.block g (Array.getElem?_eq_some_iff.1 hg).1 (hn g rfl)).trans hg, rest⟩
end Go.Proofs.Hd
