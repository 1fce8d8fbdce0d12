/-
  Contracts of the inner functions of package head (isField, isNumber, lowest, below, shiftedDown, shiftedUp), of cmp.Compare and OnesCount64, of Ones and of Bit outside 0..127. Conditions as each theorem lists them.
-/
import Derived.Test.YtlhbkiobgppciaaHdA
import Derived.Test.YtlhbkiobgppciaaMath
namespace Go.Proofs
open Go.RowKit Go.Proofs.Hd
attribute [local go_sem] uv_and uv_or uv_xor uv_andNot uv_shr uv_shl uv_add uv_sub uv_nonneg uv_shl_one uv_sub_one uv_and_one uv_div_2 uv_div_4 uv_div_16 uv_div_256 uv_div_65536 uv_div_big uv_and_m0 uv_and_m1 uv_and_m2
theorem ret_int {k : IntKind} {a b : Int} (h : a = b) : Ending.returned (.int k a) = .returned (.int k b) := by rw [h]
theorem bdrewN {B : Nat} {w w' : World} (n : Nat) (h : Below B w w') : Below B w (w'.drewN n) := ⟨h.os, h.tape, h.output, h.size, h.block⟩

theorem field_yes (a b : Nat) (w : World) (h : a + b ≤ 128) : Calls Try.prog 50 #[.int .i64 a, .int .i64 b] w fun e w' => e = .returned (.bool true) ∧ w = w' := by
  have h1 : (0 : Int) ≤ a := by omega
  have h2 : (0 : Int) ≤ b := by omega
  have h3 : (b : Int) ≤ 128 - a := by omega
  have h4 : (a : Int) ≤ 128 := by omega
  go_enter Try.func50, Try.ntmps50
  go_wp2
  go_ret
  exact ⟨rfl, rfl⟩

theorem number_yes (a b : Nat) (w : World) (h : a + b ≤ 128) (h64 : b ≤ 64) : Calls Try.prog 47 #[.int .i64 a, .int .i64 b] w fun e w' => e = .returned (.bool true) ∧ w = w' := by
  have h3 : decide ((b : Int) ≤ 64) = true := by simp; omega
  go_enter Try.func47, Try.ntmps47
  go_wp2_with (go_at_call 50; refine (field_yes _ _ _ h).mono ?_; rintro e w' ⟨rfl, rfl⟩)
  go_ret
  exact ⟨rfl, rfl⟩

theorem lowest_c (n : Nat) (w : World) (h : n ≤ 64) : Calls Try.prog 48 #[.int .i64 n] w fun e w' => e = .returned (.int .u64 (uv (low n))) ∧ w = w' := by
  go_enter Try.func48, Try.ntmps48
  go_wp2
  go_ret
  exact ⟨rfl, rfl⟩

theorem up_hi (v : BitVec 64) (n : Nat) (w : World) (h1 : 64 ≤ n) (h2 : n ≤ 128) : Calls Try.prog 49 #[.int .u64 (uv v), .int .i64 n] w fun e w' => e = .returned (.agg #[.int .u64 (uv (upHi v n)), .int .u64 (uv (upLo v n))]) ∧ Below w.heap.size w w' := by
  go_enter Try.func49, Try.ntmps49
  go_wp2
  exact bodyPost_ret (v := .agg #[.int .u64 (uv (v <<< (n - 64))), .int .u64 (uv 0#64)]) (by simp [results, Try.results49, go_sem, ← uv_zero]) rfl ⟨by rw [upHi, upLo, if_pos h1, if_pos h1], (Below.refl _ _).alloc (Nat.le_refl _) _⟩

theorem up_lo (v : BitVec 64) (n : Nat) (w : World) (h1 : n < 64) : Calls Try.prog 49 #[.int .u64 (uv v), .int .i64 n] w fun e w' => e = .returned (.agg #[.int .u64 (uv (upHi v n)), .int .u64 (uv (upLo v n))]) ∧ Below w.heap.size w w' := by
  go_enter Try.func49, Try.ntmps49
  go_wp2
  go_region
  go_wp2
  exact bodyPost_ret (v := .agg #[.int .u64 (uv (v >>> (64 - n))), .int .u64 (uv (v <<< n))]) (by simp [results, Try.results49, go_sem]) rfl ⟨by rw [upHi, upLo, if_neg (by omega), if_neg (by omega)], ((Below.refl _ _).alloc (Nat.le_refl _) _).drew⟩

theorem lowest_i (x : Int) (w : World) (h0 : 0 ≤ x) (h : x ≤ 64) : Calls Try.prog 48 #[.int .i64 x] w fun e w' => e = .returned (.int .u64 (uv (low x.toNat))) ∧ w = w' := by
  have := lowest_c x.toNat w (by omega)
  rwa [Int.toNat_of_nonneg h0] at this

theorem below_lo (n : Nat) (w : World) (h : n < 64) : Calls Try.prog 51 #[.int .i64 n] w fun e w' => e = .returned (.agg #[.int .u64 (uv (low (n - 64))), .int .u64 (uv (low (min n 64)))]) ∧ Below w.heap.size w w' := by
  have h1 : (n : Int) - 64 < 0 := by omega
  have h2 : (n : Int) < 64 := by omega
  go_enter Try.func51, Try.ntmps51
  go_wp2_with (go_at_call 48; refine (lowest_i _ _ (by omega) (by omega)).mono ?_; rintro e w' ⟨rfl, rfl⟩)
  refine bodyPost_ret (v := .agg #[.int .u64 (uv (low 0)), .int .u64 (uv (low n))]) (by simp [results, Try.results51, go_sem]) rfl ⟨by rw [Nat.min_eq_left (by omega), show n - 64 = 0 by omega], (Below.refl _ _).alloc (Nat.le_refl _) _⟩

theorem below_hi (n : Nat) (w : World) (h : 64 < n) (h' : n ≤ 128) : Calls Try.prog 51 #[.int .i64 n] w fun e w' => e = .returned (.agg #[.int .u64 (uv (low (n - 64))), .int .u64 (uv (low (min n 64)))]) ∧ Below w.heap.size w w' := by
  have h1 : (0 : Int) ≤ (n : Int) - 64 := by omega
  have h2 : (64 : Int) < n := by omega
  rw [Nat.min_eq_right (by omega)]
  go_enter Try.func51, Try.ntmps51
  go_wp2_with (go_at_call 48; refine (lowest_i _ _ (by omega) (by omega)).mono ?_; rintro e w' ⟨rfl, rfl⟩)
  refine bodyPost_ret (v := .agg #[.int .u64 (uv (low (n - 64))), .int .u64 (uv (low 64))]) (by simp [results, Try.results51, go_sem]) rfl ⟨rfl, (Below.refl _ _).alloc (Nat.le_refl _) _⟩

theorem below_64 (w : World) : Calls Try.prog 51 #[.int .i64 64] w fun e w' => e = .returned (.agg #[.int .u64 (uv (low 0)), .int .u64 (uv (low 64))]) ∧ Below w.heap.size w w' := by
  go_enter Try.func51, Try.ntmps51
  go_wp2_with (go_at_call 48; refine (lowest_i _ _ (by omega) (by omega)).mono ?_; rintro e w' ⟨rfl, rfl⟩)
  refine bodyPost_ret (v := .agg #[.int .u64 (uv (low 0)), .int .u64 (uv (low 64))]) (by simp [results, Try.results51, go_sem]) rfl ⟨rfl, (Below.refl _ _).alloc (Nat.le_refl _) _⟩

theorem below_c (n : Nat) (w : World) (h : n ≤ 128) : Calls Try.prog 51 #[.int .i64 n] w fun e w' => e = .returned (.agg #[.int .u64 (uv (low (n - 64))), .int .u64 (uv (low (min n 64)))]) ∧ Below w.heap.size w w' := by
  by_cases h1 : 64 < n
  · exact below_hi n w h1 h
  · by_cases h2 : n = 64
    · subst h2; exact below_64 w
    · exact below_lo n w (by omega)

end Go.Proofs
