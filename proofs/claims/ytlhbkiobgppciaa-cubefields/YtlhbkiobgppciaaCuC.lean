/-
  Contract of cube.highest: the header with the highest bit alone. No conditions.
-/
import Derived.Test.YtlhbkiobgppciaaCuA
import Derived.Test.YtlhbkiobgppciaaLz
import Derived.Lib.Hide
namespace Go.Proofs
open Go.RowKit Go.Proofs.Hd
theorem uv_big_shr (k : Nat) : (9223372036854775808 : Int) / 2 ^ k = uv (9223372036854775808#64 >>> k) := uv_shr 9223372036854775808#64 k
attribute [local go_sem] uv_nonneg uv_big_shr
theorem neq_zero (x : BitVec 64) (h : x ≠ 0#64) : (uv x != 0) = true := by
  rw [uv_zero]; unfold bne; rw [uv_beq]; simpa using h

theorem lz_n (a : BitVec 64) (w : World) (n : Nat) (h : 64 - Lib.bitLen a.toNat = n) : Calls Try.prog 45 #[.int .u64 (uv a)] w fun e w' => e = .returned (.int .i64 (n : Int)) ∧ w = w' := by
  subst h; exact lz_c a w

theorem highest_hi (hh hl : BitVec 64) (w : World) (c : hh ≠ 0#64) : Calls Try.prog 36 #[.agg #[.int .u64 (uv hh), .int .u64 (uv hl)]] w fun e w' => e = .returned (.agg #[.int .u64 (uv (hiT hh hl)), .int .u64 (uv (loT hh hl))]) ∧ Below w.heap.size w w' := by
  have c1 := neq_zero hh c
  rw [hiT, loT, if_neg c, if_neg c]
  unfold topW
  obtain ⟨n, hn⟩ : ∃ n, 64 - Lib.bitLen hh.toNat = n := ⟨_, rfl⟩
  rw [hn]
  have h64 : n ≤ 64 := by omega
  have HN := Lib.hid hn
  clear hn c
  go_enter Try.func36, Try.ntmps36
  go_wp2_with (go_at_call 45; refine (lz_n _ _ n HN.out).mono ?_; rintro e w' ⟨rfl, rfl⟩)
  exact bodyPost_ret (v := .agg #[.int .u64 (uv (9223372036854775808#64 >>> n)), .int .u64 (uv 0#64)]) (by simp [results, Try.results36, go_sem, ← uv_zero]) rfl ⟨rfl, below2 _ _ _⟩

theorem highest_lo (hh hl : BitVec 64) (w : World) (c : hh = 0#64) : Calls Try.prog 36 #[.agg #[.int .u64 (uv hh), .int .u64 (uv hl)]] w fun e w' => e = .returned (.agg #[.int .u64 (uv (hiT hh hl)), .int .u64 (uv (loT hh hl))]) ∧ Below w.heap.size w w' := by
  rw [hiT, loT, if_pos c, if_pos c]
  subst c
  rw [← uv_zero]
  unfold topW
  obtain ⟨n, hn⟩ : ∃ n, 64 - Lib.bitLen hl.toNat = n := ⟨_, rfl⟩
  rw [hn]
  have h64 : n ≤ 64 := by omega
  have HN := Lib.hid hn
  clear hn
  go_enter Try.func36, Try.ntmps36
  go_wp2_with (go_at_call 45; refine (lz_n _ _ n HN.out).mono ?_; rintro e w' ⟨rfl, rfl⟩)
  exact bodyPost_ret (v := .agg #[.int .u64 0, .int .u64 (uv (9223372036854775808#64 >>> n))]) (by simp [results, Try.results36, go_sem]) rfl ⟨rfl, below2 _ _ _⟩

theorem highest_c (hh hl : BitVec 64) (k : Nat) (ks : List Nat) (w : World) (h : bitsDown (hbit hh hl) 128 = k :: ks) : Calls Try.prog 36 #[.agg #[.int .u64 (uv hh), .int .u64 (uv hl)]] w fun e w' => e = .returned (.agg #[.int .u64 (uv (oneH k)), .int .u64 (uv (oneL k))]) ∧ Below w.heap.size w w' := by
  obtain ⟨e1, e2⟩ := highest_one h
  rw [← e1, ← e2]
  by_cases c : hh = 0#64
  · exact highest_lo hh hl w c
  · exact highest_hi hh hl w c
end Go.Proofs
