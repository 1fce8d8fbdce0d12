/-
  Contracts of Bit, Mask and Get of package head and of cmp.Or at two values. Conditions as each theorem lists them.
-/
import Derived.Test.YtoipohgocepoeaaHdB
import Derived.Test.YtoipohgocepoeaaMath
namespace Go.Proofs
open Go.RowKit Go.Proofs.Hd
attribute [local go_sem] uv_and uv_or uv_xor uv_andNot uv_shr uv_shl uv_add uv_sub uv_nonneg uv_shl_one uv_sub_one uv_and_one

theorem bit_in (h l : BitVec 64) (n : Nat) (w : World) (hn : n < 128) : Calls Try.prog 16 #[.agg #[.int .u64 (uv h), .int .u64 (uv l)], .int .i64 n] w fun e w' => e = .returned (.bool (hbit h l n)) ∧ Below w.heap.size w w' := by
  have h1 : (0 : Int) ≤ n := by omega
  have h2 : (n : Int) < 128 := by omega
  go_enter Try.func16, Try.ntmps16
  go_wp2_with fail
  refine (down_c _ _ _ _ (by omega)).mono ?_
  rintro e w1 ⟨rfl, hb⟩
  go_wp2
  go_ret
  have e : (uv (downW h l n &&& 1#64) == 1) = hbit h l n := by rw [uv_bit, downW_bit]; simp
  exact ⟨congrArg (fun b => Ending.returned (.bool b)) e, ((Below.refl _ w).alloc (Nat.le_refl _) _).trans (hb.mono (by simp))⟩

theorem first_c (x y : Int) (b : Nat) (w : World) (h0 : w.cell? ⟨b, 0, none⟩ = some (.int .i64 x)) (h1 : w.cell? ⟨b, 1, none⟩ = some (.int .i64 y)) :
    Calls Try.prog 35 #[.slice (some ⟨b, 0, none⟩) 2 2] w fun e w' => e = .returned (.int .i64 (if x = 0 then y else x)) ∧ w = w' := by
  by_cases hx : x = 0
  · have hx' : (x != 0) = false := by simp [hx]
    rw [if_pos hx]
    by_cases hy : y = 0
    · have hy' : (y != 0) = false := by simp [hy]
      rw [hy]
      clear hx hy
      go_enter Try.func35, Try.ntmps35
      go_wp2
      refine wp_loop_rounds 3 ?_
      rw [rounds_succ]
      go_wp2
      rw [rounds_succ]
      go_wp2
      rw [rounds_succ]
      go_wp2
      go_ret
      exact ⟨rfl, rfl⟩
    · have hy' : (y != 0) = true := by simp [hy]
      clear hx hy
      go_enter Try.func35, Try.ntmps35
      go_wp2
      refine wp_loop_rounds 2 ?_
      rw [rounds_succ]
      go_wp2
      rw [rounds_succ]
      go_wp2
      go_ret
      exact ⟨rfl, rfl⟩
  · have hx' : (x != 0) = true := by simp [hx]
    rw [if_neg hx]
    clear hx
    go_enter Try.func35, Try.ntmps35
    go_wp2
    refine wp_loop_rounds 1 ?_
    rw [rounds_succ]
    go_wp2
    go_ret
    exact ⟨rfl, rfl⟩

theorem below_i (x : Int) (w : World) (h0 : 0 ≤ x) (h : x ≤ 128) : Calls Try.prog 31 #[.int .i64 x] w fun e w' => e = .returned (.agg #[.int .u64 (uv (low (x.toNat - 64))), .int .u64 (uv (low (min x.toNat 64)))]) ∧ Below w.heap.size w w' := by
  have := below_c x.toNat w (by omega)
  rwa [Int.toNat_of_nonneg h0] at this

theorem mask_c (a n : Nat) (w : World) (h : a + n ≤ 128) : Calls Try.prog 17 #[.int .i64 a, .int .i64 n] w fun e w' => e = .returned (.tuple #[.agg #[.int .u64 (uv (maskH a n)), .int .u64 (uv (maskL a n))], .int .i64 0]) ∧ Below w.heap.size w w' := by
  go_enter Try.func17, Try.ntmps17
  go_wp2_with (go_at_call 30; refine (field_yes _ _ _ h).mono ?_; rintro e w' ⟨rfl, rfl⟩)
  refine (below_i _ _ (by omega) (by omega)).mono ?_
  rintro e w1 ⟨rfl, hb1⟩
  go_wp2_with fail
  refine (below_i _ _ (by omega) (by omega)).mono ?_
  rintro e w2 ⟨rfl, hb2⟩
  go_wp2_with fail
  refine (less_c _ _ _ _ _).mono ?_
  rintro e w3 ⟨rfl, hb3⟩
  have hb : Below (w.heap.size + 1) (w.alloc (.cells #[.int .u64 0, .int .u64 0] 24)) w3 := ((hb1.trans (hb2.mono hb1.size)).trans (hb3.mono (Nat.le_trans hb1.size hb2.size))).mono (by simp)
  have hc : ∀ o, w3.cell? ⟨w.heap.size, o, none⟩ = (w.alloc (.cells #[.int .u64 0, .int .u64 0] 24)).cell? ⟨w.heap.size, o, none⟩ := fun o => hb.cell (p := ⟨w.heap.size, o, none⟩) (by simp)
  have hf : ∀ o, w3.frozen? ⟨w.heap.size, o, none⟩ = (w.alloc (.cells #[.int .u64 0, .int .u64 0] 24)).frozen? ⟨w.heap.size, o, none⟩ := fun o => hb.frozen (p := ⟨w.heap.size, o, none⟩) (by simp)
  go_wp2
  exact bodyPost_ret (v := .tuple #[.agg #[.int .u64 (uv (maskH a n)), .int .u64 (uv (maskL a n))], .int .i64 0]) (by simp [results, Try.results17, go_sem, hc, maskH, maskL]) rfl ⟨rfl, ((((Below.refl _ w).alloc (Nat.le_refl _) _).trans (hb.mono (by omega))).setCell (by simp) _).setCell (by simp) _⟩

theorem mask_e (a n : Int) (w : World) (hf : ∀ w, Calls Try.prog 30 #[.int .i64 a, .int .i64 n] w fun e w' => e = .returned (.bool false) ∧ w = w') : Calls Try.prog 17 #[.int .i64 a, .int .i64 n] w fun e w' => e = .returned (.tuple #[.agg #[.int .u64 (uv 0#64), .int .u64 (uv 0#64)], .int .i64 1]) ∧ Below w.heap.size w w' := by
  go_enter Try.func17, Try.ntmps17
  go_wp2_with (go_at_call 30; refine (hf _).mono ?_; rintro e w' ⟨rfl, rfl⟩)
  exact bodyPost_ret (v := .tuple #[.agg #[.int .u64 (uv 0#64), .int .u64 (uv 0#64)], .int .i64 1]) (by simp [results, Try.results17, go_sem, ← uv_zero]) rfl ⟨rfl, (Below.refl _ w).alloc (Nat.le_refl _) _⟩

theorem get_c (h l : BitVec 64) (a n : Nat) (w : World) (hn : a + n ≤ 128) (h64 : n ≤ 64) : Calls Try.prog 18 #[.agg #[.int .u64 (uv h), .int .u64 (uv l)], .int .i64 a, .int .i64 n] w fun e w' => e = .returned (.tuple #[.int .u64 (uv (getW h l a n)), .int .i64 0]) ∧ Below w.heap.size w w' := by
  go_enter Try.func18, Try.ntmps18
  go_wp2_with (go_at_call 32; refine (number_yes _ _ _ hn h64).mono ?_; rintro e w' ⟨rfl, rfl⟩)
  refine (down_c _ _ _ _ (by omega)).mono ?_
  rintro e w1 ⟨rfl, hb⟩
  go_wp2_with (go_at_call 33; refine (lowest_c _ _ h64).mono ?_; rintro e w' ⟨rfl, rfl⟩)
  go_ret2
  exact ⟨rfl, ((Below.refl _ w).alloc (Nat.le_refl _) _).trans (hb.mono (by simp))⟩

theorem get_e (h l : BitVec 64) (a n : Int) (w : World) (hf : ∀ w, Calls Try.prog 32 #[.int .i64 a, .int .i64 n] w fun e w' => e = .returned (.bool false) ∧ w = w') : Calls Try.prog 18 #[.agg #[.int .u64 (uv h), .int .u64 (uv l)], .int .i64 a, .int .i64 n] w fun e w' => e = .returned (.tuple #[.int .u64 0, .int .i64 1]) ∧ Below w.heap.size w w' := by
  go_enter Try.func18, Try.ntmps18
  go_wp2_with (go_at_call 32; refine (hf _).mono ?_; rintro e w' ⟨rfl, rfl⟩)
  go_ret2
  exact ⟨rfl, (Below.refl _ w).alloc (Nat.le_refl _) _⟩
end Go.Proofs
