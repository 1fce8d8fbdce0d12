/-
  Contract of Compare of package head, and the calls at the numbers that the laws begin with. No conditions.
-/
import Derived.Test.YtlhbkiobgppciaaHdD
namespace Go.Proofs
open Go.RowKit Go.Proofs.Hd
attribute [local go_sem] uv_and uv_or uv_xor uv_andNot uv_shr uv_shl uv_add uv_sub uv_nonneg uv_shl_one uv_sub_one uv_and_one
theorem kput (w : World) : Calls Try.prog 39 #[.agg #[.int .u64 0, .int .u64 0], .int .i64 60, .int .i64 8, .int .u64 165] w fun e w' => e = .returned (.tuple #[.agg #[.int .u64 10, .int .u64 5764607523034234880], .int .i64 0]) ∧ Below w.heap.size w w' := by
  have e1 : uv (putH 0#64 60 8 165#64) = 10 := by decide +kernel
  have e2 : uv (putL 0#64 60 8 165#64) = 5764607523034234880 := by decide +kernel
  have h := put_c 0#64 0#64 60 8 165#64 w (by omega) (by omega) (by decide +kernel)
  rw [e1, e2] at h
  exact h

theorem kmask (w : World) : Calls Try.prog 40 #[.int .i64 63, .int .i64 2] w fun e w' => e = .returned (.tuple #[.agg #[.int .u64 1, .int .u64 9223372036854775808], .int .i64 0]) ∧ Below w.heap.size w w' := by
  have e1 : uv (maskH 63 2) = 1 := by decide +kernel
  have e2 : uv (maskL 63 2) = 9223372036854775808 := by decide +kernel
  have h := mask_c 63 2 w (by omega)
  rw [e1, e2] at h
  exact h

end Go.Proofs
