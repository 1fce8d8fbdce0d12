/-
  The law HeadFields returns true where there is no such field, where it has more than 64 bits, and where the value does not fit.
-/
import Derived.Test.YtoipohgocepoeaaRefC
import Derived.Test.YtoipohgocepoeaaArrFld
import Derived.Test.YtoipohgocepoeaaParts
namespace Go.Proofs
open Go.RowKit Go.Proofs.Hd
attribute [local go_sem] uv_shr uv_nonneg
theorem keepM {B b c : Nat} {x y : Option Value} {cs : List Value} {W0 w1 w2 : World} (hb : Below w1.heap.size w1 w2) (h : Below B W0 w1 ∧ w1.cell? ⟨b, 0, none⟩ = x ∧ w1.cell? ⟨b, 1, none⟩ = y ∧ w1.rangeAt c 0 cs) (hB : B ≤ W0.heap.size) (hbB : b < B) (hcB : c < B) :
    Below B W0 w2 ∧ w2.cell? ⟨b, 0, none⟩ = x ∧ w2.cell? ⟨b, 1, none⟩ = y ∧ w2.rangeAt c 0 cs := by
  have hb' : Below B w1 w2 := hb.mono (Nat.le_trans hB h.1.size)
  exact ⟨h.1.trans hb', (hb'.cell (p := ⟨b, 0, none⟩) hbB).trans h.2.1, (hb'.cell (p := ⟨b, 1, none⟩) hbB).trans h.2.2.1, range_below hb' h.2.2.2 hcB⟩
theorem get_op {op : Oper} {a : Act} {w : World} {K : Act → World → Prop} {Q : Exit → Act → World → Prop} (x : Operand) (ho : op.op = .load 25 x)
    (f : Nat → Bool) (b : Nat) (hb : b = w.heap.size) (hx : a.eval x = .pointer (some ⟨b, 0, none⟩))
    (h : K (a.put op.dst (.agg (bl f).toArray)) (w.alloc (.cells (bl f).toArray 25))) : op.wp Try.prog a (w.alloc (.cells (bl f).toArray 25)) K Q := by
  subst hb
  unfold Oper.wp execOp
  simp only [ho, hx, Instr.loadAt, Instr.sureAddr, Sem.run_bind, Sem.run_pure, Result.andThen_ok, run_loadVar_new w 25 (bl f).toArray 128 4 Try.underlying25 (size25 f)]
  exact h
theorem mask_e0 (a n : Int) (w : World) (hf : ∀ w, Calls Try.prog 30 #[.int .i64 a, .int .i64 n] w fun e w' => e = .returned (.bool false) ∧ w = w') : Calls Try.prog 17 #[.int .i64 a, .int .i64 n] w fun e w' => e = .returned (.tuple #[.agg #[.int .u64 0, .int .u64 0], .int .i64 1]) ∧ Below w.heap.size w w' := mask_e a n w hf
theorem put_e0 (h l : BitVec 64) (a n : Int) (v : BitVec 64) (w : World) (hf : ∀ w, Calls Try.prog 32 #[.int .i64 a, .int .i64 n] w fun e w' => e = .returned (.bool false) ∧ w = w') :
    Calls Try.prog 19 #[.agg #[.int .u64 (uv h), .int .u64 (uv l)], .int .i64 a, .int .i64 n, .int .u64 (uv v)] w fun e w' => e = .returned (.tuple #[.agg #[.int .u64 0, .int .u64 0], .int .i64 1]) ∧ Below w.heap.size w w' := put_e h l a n v w hf
theorem put_r0 (h l : BitVec 64) (a n : Nat) (v : BitVec 64) (w : World) (hn : a + n ≤ 128) (h64 : n ≤ 64) (hv : uv (low n) < uv v) :
    Calls Try.prog 19 #[.agg #[.int .u64 (uv h), .int .u64 (uv l)], .int .i64 a, .int .i64 n, .int .u64 (uv v)] w fun e w' => e = .returned (.tuple #[.agg #[.int .u64 0, .int .u64 0], .int .i64 4]) ∧ Below w.heap.size w w' := put_r h l a n v w hn h64 hv
theorem refmask (a n : Nat) (w : World) (h : a + n ≤ 128) : Calls Try.prog 11 #[.agg (bl (mk a n)).toArray] w fun e w' => e = .returned (.agg #[.int .u64 (uv (maskH a n)), .int .u64 (uv (maskL a n))]) ∧ Below w.heap.size w w' := by
  have := refhead_c (mk a n) w
  rwa [(mk_num a n h).1, (mk_num a n h).2] at this
theorem refput (h l v : BitVec 64) (a n : Nat) (w : World) (hn : n ≤ 64) (hv : ¬ uv (low n) < uv v) : Calls Try.prog 11 #[.agg (bl (pt h l v a n)).toArray] w fun e w' => e = .returned (.agg #[.int .u64 (uv (putH h a n v)), .int .u64 (uv (putL l a n v))]) ∧ Below w.heap.size w w' := by
  have := refhead_c (pt h l v a n) w
  rwa [(pt_num h l v a n hn hv).1, (pt_num h l v a n hn hv).2] at this
theorem refget (h l : BitVec 64) (a n : Nat) (w : World) (hk : a + n ≤ 128) (hn : n ≤ 64) : Calls Try.prog 21 #[.agg (bl (hbit h l)).toArray, .int .i64 a, .int .i64 n] w fun e w' => e = .returned (.int .u64 (uv (getW h l a n))) ∧ Below w.heap.size w w' := by
  have := refnum_c (hbit h l) a n w hk
  rwa [num_get h l a n hn] at this

set_option maxRecDepth 100000 in
set_option maxHeartbeats 1000000 in
theorem fields_no (h l v : BitVec 64) (a n : Int) (w : World) (hf : ¬ (0 ≤ a ∧ 0 ≤ n ∧ n ≤ 128 - a)) (ha : a ≤ 9223372036854775807) :
    Calls Try.prog 4 #[.agg #[.int .u64 (uv h), .int .u64 (uv l)], .int .i64 a, .int .i64 n, .int .u64 (uv v)] w fun e w' => e = .returned (.bool true) ∧ Below w.heap.size w w' := by
  have HF := Lib.hid hf
  have HA := Lib.hid ha
  clear hf ha
  go_enter Try.func4, Try.ntmps4
  go_wp2_with fail
  refine (mask_e0 a n _ (fun W => field_no a n W HF.out HA.out)).mono ?_
  rintro e w1 ⟨rfl, hb1⟩
  have p1 : w1.cell? ⟨w.heap.size, 0, none⟩ = some (.int .u64 (uv h)) := on_some hb1 (by go_simp)
  have p2 : w1.cell? ⟨w.heap.size, 1, none⟩ = some (.int .u64 (uv l)) := on_some hb1 (by go_simp)
  have z1 : w.heap.size < w1.heap.size := by have := hb1.size; simp at this; omega
  have B1 : Below w.heap.size w w1 := ((Below.refl _ w).alloc (Nat.le_refl _) _).trans (hb1.mono (by simp))
  clear hb1
  go_wp2_with fail
  refine (get_e h l a n _ (fun W => number_no a n W (fun W => field_no a n W HF.out HA.out))).mono ?_
  rintro e w2 ⟨rfl, hb2⟩
  have q1 : w2.cell? ⟨w.heap.size, 0, none⟩ = some (.int .u64 (uv h)) := on_some hb2 (by go_simp)
  have q2 : w2.cell? ⟨w.heap.size, 1, none⟩ = some (.int .u64 (uv l)) := on_some hb2 (by go_simp)
  have q3 : w2.cell? ⟨w1.heap.size, 0, none⟩ = some (.int .u64 0) := on_some hb2 (by go_simp)
  have q4 : w2.cell? ⟨w1.heap.size, 1, none⟩ = some (.int .u64 0) := on_some hb2 (by go_simp)
  have z2 : w1.heap.size < w2.heap.size := by have := hb2.size; simp at this; omega
  have B2 : Below w.heap.size w w2 := (B1.alloc (by omega) _).trans (hb2.mono (by simp; omega))
  clear hb2 B1 p1 p2
  go_wp2_with fail
  refine (put_e0 h l a n v _ (fun W => number_no a n W (fun W => field_no a n W HF.out HA.out))).mono ?_
  rintro e w3 ⟨rfl, hb3⟩
  have p1 := on_some hb3 q1
  have p2 := on_some hb3 q2
  have p3 := on_some hb3 q3
  have p4 := on_some hb3 q4
  have B3 : Below w.heap.size w w3 := B2.trans (hb3.mono B2.size)
  have z3 : w.heap.size < w3.heap.size := by have := hb3.size; omega
  have z4 : w1.heap.size < w3.heap.size := by have := hb3.size; omega
  clear hb3 B2 q1 q2 q3 q4 z2

  go_wp2_with (go_at_call 20; refine (reffield_no a n _ HF.out).mono ?_; rintro e w' ⟨rfl, rfl⟩)
  refine (awake_c _).mono ?_
  rintro e w4 ⟨rfl, hb4⟩
  have r3 : w4.cell? ⟨w1.heap.size, 0, none⟩ = some (.int .u64 0) := on_some hb4 (by go_simp)
  have r4 : w4.cell? ⟨w1.heap.size, 1, none⟩ = some (.int .u64 0) := on_some hb4 (by go_simp)
  have r5 : w4.cell? ⟨w3.heap.size, 0, none⟩ = some (.int .u64 0) := on_some hb4 (by go_simp)
  have r6 : w4.cell? ⟨w3.heap.size, 1, none⟩ = some (.int .u64 0) := on_some hb4 (by go_simp)
  go_wp2
  go_ret
  exact ⟨rfl, (B3.alloc (by omega) _).trans (hb4.mono (by simp; omega))⟩

set_option maxRecDepth 100000 in
set_option maxHeartbeats 1000000 in
theorem fields_big (h l v : BitVec 64) (a n : Nat) (w : World) (hk : a + n ≤ 128) (hn : 64 < n) :
    Calls Try.prog 4 #[.agg #[.int .u64 (uv h), .int .u64 (uv l)], .int .i64 a, .int .i64 n, .int .u64 (uv v)] w fun e w' => e = .returned (.bool true) ∧ Below w.heap.size w w' := by
  go_enter Try.func4, Try.ntmps4
  go_wp2_with fail
  refine (mask_c a n _ hk).mono ?_
  rintro e w1 ⟨rfl, hb1⟩
  have p1 : w1.cell? ⟨w.heap.size, 0, none⟩ = some (.int .u64 (uv h)) := on_some hb1 (by go_simp)
  have p2 : w1.cell? ⟨w.heap.size, 1, none⟩ = some (.int .u64 (uv l)) := on_some hb1 (by go_simp)
  have z1 : w.heap.size < w1.heap.size := by have := hb1.size; simp at this; omega
  have B1 : Below w.heap.size w w1 := ((Below.refl _ w).alloc (Nat.le_refl _) _).trans (hb1.mono (by simp))
  clear hb1
  go_wp2_with fail
  refine (get_e h l a n _ (fun W => number_big a n W hk hn)).mono ?_
  rintro e w2 ⟨rfl, hb2⟩
  have q1 : w2.cell? ⟨w.heap.size, 0, none⟩ = some (.int .u64 (uv h)) := on_some hb2 (by go_simp)
  have q2 : w2.cell? ⟨w.heap.size, 1, none⟩ = some (.int .u64 (uv l)) := on_some hb2 (by go_simp)
  have q3 : w2.cell? ⟨w1.heap.size, 0, none⟩ = some (.int .u64 (uv (maskH a n))) := on_some hb2 (by go_simp)
  have q4 : w2.cell? ⟨w1.heap.size, 1, none⟩ = some (.int .u64 (uv (maskL a n))) := on_some hb2 (by go_simp)
  have z2 : w1.heap.size < w2.heap.size := by have := hb2.size; simp at this; omega
  have B2 : Below w.heap.size w w2 := (B1.alloc (by omega) _).trans (hb2.mono (by simp; omega))
  clear hb2 B1 p1 p2
  go_wp2_with fail
  refine (put_e0 h l a n v _ (fun W => number_big a n W hk hn)).mono ?_
  rintro e w3 ⟨rfl, hb3⟩
  have p1 := on_some hb3 q1
  have p2 := on_some hb3 q2
  have p3 := on_some hb3 q3
  have p4 := on_some hb3 q4
  have B3 : Below w.heap.size w w3 := B2.trans (hb3.mono B2.size)
  have z3 : w.heap.size < w3.heap.size := by have := hb3.size; omega
  have z4 : w1.heap.size < w3.heap.size := by have := hb3.size; omega
  clear hb3 B2 q1 q2 q3 q4 z2

  have hz := zero25
  have hbd := build25
  have ha' : (a : Int) ≤ 128 := by omega
  have hn' : (n : Int) ≤ 128 := by omega
  go_wp2_with (first
    | (go_at_call 20; refine (reffield_yes a n _ hk).mono ?_; rintro e w' ⟨rfl, rfl⟩)
    | refine put_new rfl _ _ rfl (fun _ => false) (fun _ => false) _ (by simp) rfl rfl ?_)
  go_loopg [16] n (fun g i wr => ∃ k : Nat, k ≤ n ∧ g = n - k ∧ i = .int .i64 k ∧ wr = (w3.alloc (.cells #[.int .u64 0, .int .u64 0] 24)).alloc (.cells (bl (mk a k)).toArray 25))
  case atStart => exact ⟨0, by omega, rfl, rfl, by rw [mk_zero]⟩
  case round =>
    obtain ⟨k, hkn, rfl, rfl, rfl⟩ := hrel
    by_cases hlt : k < n
    · have hlt' : (k : Int) < (n : Int) := by omega
      have hi1 : (a : Int) + (k : Int) < 128 := by omega
      have hi2 : (0 : Int) ≤ (a : Int) + (k : Int) := by omega
      have hg := bl_get (mk a k) (a + k) (by omega)
      go_wp2
      go_roundg (n - (k + 1))
      case measure => omega
      case rel => exact ⟨k + 1, by omega, rfl, by go_num, by rw [mk_succ]⟩
    · obtain rfl : n = k := by omega
      clear hlt hkn
      have hnn : ¬ (n : Int) < (n : Int) := by omega

      go_wp2_with fail
      have hi1 : (Try.prog.info? 25).map (·.size) = some (bl (mk a n)).length := by rw [(zero_of_info info25).2, bl_len]
      have hu1 := Try.underlying25
      have hrg : ((w3.alloc (.cells #[.int .u64 0, .int .u64 0] 24)).alloc (.cells (bl (mk a n)).toArray 25)).rangeAt (w3.heap.size + 1) 0 (bl (mk a n)) := by
        have := range_of_alloc (w3.alloc (.cells #[.int .u64 0, .int .u64 0] 24)) (mk a n) 25
        rwa [World.size_alloc] at this
      go_region_held3 (fun w' => Below (w3.heap.size + 2) ((w3.alloc (.cells #[.int .u64 0, .int .u64 0] 24)).alloc (.cells (bl (mk a n)).toArray 25)) w' ∧ w'.cell? ⟨w1.heap.size, 0, none⟩ = some (.int .u64 (uv (maskH a n))) ∧ w'.cell? ⟨w1.heap.size, 1, none⟩ = some (.int .u64 (uv (maskL a n))) ∧ w'.rangeAt (w3.heap.size + 1) 0 (bl (mk a n)))
        (first
          | exact keepM (by assumption) (by assumption) (by simp) (by omega) (by omega)
          | exact ⟨(Below.refl _ _).drew, by go_simp, by go_simp, hrg⟩)
        (first
          | (go_at_call 11; (with_reducible refine (refmask a n _ hk).mono ?_); rintro e w5 ⟨rfl, hb5⟩))
      clear hu1 hi1 hrg

      have hn64 : (64 : Int) < (n : Int) := by omega
      have hbw : Below (w3.heap.size + 2) ((w3.alloc (.cells #[.int .u64 0, .int .u64 0] 24)).alloc (.cells (bl (mk a n)).toArray 25)) w5 := And.left (by assumption)
      have r5 : w5.cell? ⟨w3.heap.size, 0, none⟩ = some (.int .u64 0) := (hbw.cell (p := ⟨w3.heap.size, 0, none⟩) (by simp)).trans (by go_simp)
      have r6 : w5.cell? ⟨w3.heap.size, 1, none⟩ = some (.int .u64 0) := (hbw.cell (p := ⟨w3.heap.size, 1, none⟩) (by simp)).trans (by go_simp)
      have B5 : Below w.heap.size w w5 := ((B3.alloc (by omega) _).alloc (by simp; omega) _).trans (hbw.mono (by omega))
      clear hbw hb5
      go_wp2_with fail
      refine (awake_c _).mono ?_
      rintro e w6 ⟨rfl, hb6⟩
      have s5 := on_some hb6 r5
      have s6 := on_some hb6 r6
      go_wp2
      go_ret
      exact ⟨rfl, B5.trans (hb6.mono B5.size)⟩

set_option maxRecDepth 100000 in
set_option maxHeartbeats 1000000 in
theorem fields_over (h l v : BitVec 64) (a n : Nat) (w : World) (hk : a + n ≤ 128) (hn : n ≤ 64) (hv : uv (low n) < uv v) :
    Calls Try.prog 4 #[.agg #[.int .u64 (uv h), .int .u64 (uv l)], .int .i64 a, .int .i64 n, .int .u64 (uv v)] w fun e w' => e = .returned (.bool true) ∧ Below w.heap.size w w' := by
  obtain ⟨hlt, hne⟩ := over_small v n hn hv
  have HV := Lib.hid hv
  have HNE := Lib.hid hne
  have HLT := Lib.hid hlt
  clear hv hne hlt
  go_enter Try.func4, Try.ntmps4
  go_wp2_with fail
  refine (mask_c a n _ hk).mono ?_
  rintro e w1 ⟨rfl, hb1⟩
  have p1 : w1.cell? ⟨w.heap.size, 0, none⟩ = some (.int .u64 (uv h)) := on_some hb1 (by go_simp)
  have p2 : w1.cell? ⟨w.heap.size, 1, none⟩ = some (.int .u64 (uv l)) := on_some hb1 (by go_simp)
  have z1 : w.heap.size < w1.heap.size := by have := hb1.size; simp at this; omega
  have B1 : Below w.heap.size w w1 := ((Below.refl _ w).alloc (Nat.le_refl _) _).trans (hb1.mono (by simp))
  clear hb1
  go_wp2_with fail
  refine (get_c h l a n _ hk hn).mono ?_
  rintro e w2 ⟨rfl, hb2⟩
  have q1 : w2.cell? ⟨w.heap.size, 0, none⟩ = some (.int .u64 (uv h)) := on_some hb2 (by go_simp)
  have q2 : w2.cell? ⟨w.heap.size, 1, none⟩ = some (.int .u64 (uv l)) := on_some hb2 (by go_simp)
  have q3 : w2.cell? ⟨w1.heap.size, 0, none⟩ = some (.int .u64 (uv (maskH a n))) := on_some hb2 (by go_simp)
  have q4 : w2.cell? ⟨w1.heap.size, 1, none⟩ = some (.int .u64 (uv (maskL a n))) := on_some hb2 (by go_simp)
  have z2 : w1.heap.size < w2.heap.size := by have := hb2.size; simp at this; omega
  have B2 : Below w.heap.size w w2 := (B1.alloc (by omega) _).trans (hb2.mono (by simp; omega))
  clear hb2 B1 p1 p2
  go_wp2_with fail
  refine (put_r0 h l a n v _ hk hn HV.out).mono ?_
  rintro e w3 ⟨rfl, hb3⟩
  have p1 := on_some hb3 q1
  have p2 := on_some hb3 q2
  have p3 := on_some hb3 q3
  have p4 := on_some hb3 q4
  have B3 : Below w.heap.size w w3 := B2.trans (hb3.mono B2.size)
  have z3 : w.heap.size < w3.heap.size := by have := hb3.size; omega
  have z4 : w1.heap.size < w3.heap.size := by have := hb3.size; omega
  clear hb3 B2 q1 q2 q3 q4 z2

  have hz := zero25
  have hbd := build25
  have ha' : (a : Int) ≤ 128 := by omega
  have hn' : (n : Int) ≤ 128 := by omega
  go_wp2_with (first
    | (go_at_call 20; refine (reffield_yes a n _ hk).mono ?_; rintro e w' ⟨rfl, rfl⟩)
    | refine put_new rfl _ _ rfl (fun _ => false) (fun _ => false) _ (by simp) rfl rfl ?_)
  go_loopg [16] n (fun g i wr => ∃ k : Nat, k ≤ n ∧ g = n - k ∧ i = .int .i64 k ∧ wr = (w3.alloc (.cells #[.int .u64 0, .int .u64 0] 24)).alloc (.cells (bl (mk a k)).toArray 25))
  case atStart => exact ⟨0, by omega, rfl, rfl, by rw [mk_zero]⟩
  case round =>
    obtain ⟨k, hkn, rfl, rfl, rfl⟩ := hrel
    by_cases hlt : k < n
    · have hlt' : (k : Int) < (n : Int) := by omega
      have hi1 : (a : Int) + (k : Int) < 128 := by omega
      have hi2 : (0 : Int) ≤ (a : Int) + (k : Int) := by omega
      have hg := bl_get (mk a k) (a + k) (by omega)
      go_wp2
      go_roundg (n - (k + 1))
      case measure => omega
      case rel => exact ⟨k + 1, by omega, rfl, by go_num, by rw [mk_succ]⟩
    · obtain rfl : n = k := by omega
      clear hlt hkn
      have hnn : ¬ (n : Int) < (n : Int) := by omega

      go_wp2_with fail
      have hi1 : (Try.prog.info? 25).map (·.size) = some (bl (mk a n)).length := by rw [(zero_of_info info25).2, bl_len]
      have hu1 := Try.underlying25
      have hrg : ((w3.alloc (.cells #[.int .u64 0, .int .u64 0] 24)).alloc (.cells (bl (mk a n)).toArray 25)).rangeAt (w3.heap.size + 1) 0 (bl (mk a n)) := by
        have := range_of_alloc (w3.alloc (.cells #[.int .u64 0, .int .u64 0] 24)) (mk a n) 25
        rwa [World.size_alloc] at this
      go_region_held3 (fun w' => Below (w3.heap.size + 2) ((w3.alloc (.cells #[.int .u64 0, .int .u64 0] 24)).alloc (.cells (bl (mk a n)).toArray 25)) w' ∧ w'.cell? ⟨w1.heap.size, 0, none⟩ = some (.int .u64 (uv (maskH a n))) ∧ w'.cell? ⟨w1.heap.size, 1, none⟩ = some (.int .u64 (uv (maskL a n))) ∧ w'.rangeAt (w3.heap.size + 1) 0 (bl (mk a n)))
        (first
          | exact keepM (by assumption) (by assumption) (by simp) (by omega) (by omega)
          | exact ⟨(Below.refl _ _).drew, by go_simp, by go_simp, hrg⟩)
        (first
          | (go_at_call 11; (with_reducible refine (refmask a n _ hk).mono ?_); rintro e w5 ⟨rfl, hb5⟩))
      clear hu1 hi1 hrg

      have hn64 : ¬ (64 : Int) < (n : Int) := by omega
      have hbw : Below (w3.heap.size + 2) ((w3.alloc (.cells #[.int .u64 0, .int .u64 0] 24)).alloc (.cells (bl (mk a n)).toArray 25)) w5 := And.left (by assumption)
      have r1 : w5.cell? ⟨w.heap.size, 0, none⟩ = some (.int .u64 (uv h)) := (hbw.cell (p := ⟨w.heap.size, 0, none⟩) (by simp; omega)).trans (by go_simp)
      have r2 : w5.cell? ⟨w.heap.size, 1, none⟩ = some (.int .u64 (uv l)) := (hbw.cell (p := ⟨w.heap.size, 1, none⟩) (by simp; omega)).trans (by go_simp)
      have r5 : w5.cell? ⟨w3.heap.size, 0, none⟩ = some (.int .u64 0) := (hbw.cell (p := ⟨w3.heap.size, 0, none⟩) (by simp)).trans (by go_simp)
      have r6 : w5.cell? ⟨w3.heap.size, 1, none⟩ = some (.int .u64 0) := (hbw.cell (p := ⟨w3.heap.size, 1, none⟩) (by simp)).trans (by go_simp)
      have B5 : Below w.heap.size w w5 := ((B3.alloc (by omega) _).alloc (by simp; omega) _).trans (hbw.mono (by omega))
      clear hbw hb5 p1 p2 p3 p4 hbd B3
      go_wp2_with fail
      refine (bits_c h l _).mono ?_
      rintro e w6 ⟨rfl, hb6⟩
      have s5 := on_some hb6 r5
      have s6 := on_some hb6 r6
      have B6 : Below w.heap.size w w6 := B5.trans (hb6.mono B5.size)
      have z6 : w3.heap.size < w6.heap.size := World.block_lt_of_cell? w6 ⟨w3.heap.size, 0, none⟩ s5
      clear hb6 r5 r6 r1 r2 B5
      go_wp2_with (refine put_new rfl _ _ rfl (fun _ => false) (hbit h l) _ (by simp) rfl rfl ?_)
      refine get_op _ rfl (hbit h l) _ rfl rfl ?_
      go_wp2_with fail
      refine (refget h l a n _ hk hn).mono ?_
      rintro e w7 ⟨rfl, hb7⟩
      have u5 : w7.cell? ⟨w3.heap.size, 0, none⟩ = some (.int .u64 0) := on_some hb7 (by go_simp)
      have u6 : w7.cell? ⟨w3.heap.size, 1, none⟩ = some (.int .u64 0) := on_some hb7 (by go_simp)
      have B7 : Below w.heap.size w w7 := (B6.alloc B6.size _).trans (hb7.mono (by have := B6.size; simp; omega))
      have hrow : w7.heap[w6.heap.size]? = some (.cells (bl (hbit h l)).toArray 25) := (hb7.block w6.heap.size (by simp)).trans (heap_alloc_last w6 _)
      clear hb7 s5 s6 B6

      have hlt1 : (n : Int) < 64 := by have := HLT.out; omega
      have hne1 := HNE.out
      clear hrow
      go_wp2_with fail
      refine (awake_c _).mono ?_
      rintro e w8 ⟨rfl, hb8⟩
      have v5 := on_some hb8 u5
      have v6 := on_some hb8 u6
      go_wp2
      go_ret
      exact ⟨rfl, B7.trans (hb8.mono B7.size)⟩
end Go.Proofs
