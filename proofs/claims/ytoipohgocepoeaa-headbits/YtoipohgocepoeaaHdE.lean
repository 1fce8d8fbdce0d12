/-
  Contract of Compare of package head, and the calls at the numbers that the laws begin with. No conditions.
-/
import Derived.Test.YtoipohgocepoeaaHdD
namespace Go.Proofs
open Go.RowKit Go.Proofs.Hd
attribute [local go_sem] uv_and uv_or uv_xor uv_andNot uv_shr uv_shl uv_add uv_sub uv_nonneg uv_shl_one uv_sub_one uv_and_one
theorem first_h (h l h' l' : BitVec 64) (b : Nat) (w : World) (h0 : w.cell? ⟨b, 0, none⟩ = some (.int .i64 (cmpW h h'))) (h1 : w.cell? ⟨b, 1, none⟩ = some (.int .i64 (cmpW l l'))) :
    Calls Try.prog 35 #[.slice (some ⟨b, 0, none⟩) 2 2] w fun e w' => e = .returned (.int .i64 (cmpH h l h' l')) ∧ w = w' := first_c _ _ b w h0 h1

theorem compare_c (h l h' l' : BitVec 64) (w : World) : Calls Try.prog 22 #[.agg #[.int .u64 (uv h), .int .u64 (uv l)], .agg #[.int .u64 (uv h'), .int .u64 (uv l')]] w fun e w' => e = .returned (.int .i64 (cmpH h l h' l')) ∧ Below w.heap.size w w' := by
  go_enter Try.func22, Try.ntmps22
  go_wp2_with fail
  go_region_held3 (fun w' => w'.cell? ⟨w.heap.size, 0, none⟩ = some (.int .u64 (uv h)) ∧ w'.cell? ⟨w.heap.size, 1, none⟩ = some (.int .u64 (uv l)) ∧ w'.cell? ⟨w.heap.size + 1, 0, none⟩ = some (.int .u64 (uv h')) ∧ w'.cell? ⟨w.heap.size + 1, 1, none⟩ = some (.int .u64 (uv l'))) (go_keep)
    (first
      | (go_at_call 36; refine (cmp_c _ _ _).mono ?_; rintro e w' ⟨rfl, rfl⟩)
      | (go_at_call 35; refine (first_h h l h' l' _ _ (by go_simp) (by go_simp)).mono ?_; rintro e w' ⟨rfl, rfl⟩))
  all_goals go_wp2
  all_goals go_ret
  all_goals exact ⟨rfl, ((((Below.refl _ w).alloc (Nat.le_refl _) _).alloc (by simp) _).alloc (by simp <;> omega) _).drew⟩

theorem kput (w : World) : Calls Try.prog 19 #[.agg #[.int .u64 0, .int .u64 0], .int .i64 60, .int .i64 8, .int .u64 165] w fun e w' => e = .returned (.tuple #[.agg #[.int .u64 10, .int .u64 5764607523034234880], .int .i64 0]) ∧ Below w.heap.size w w' := by
  have e1 : uv (putH 0#64 60 8 165#64) = 10 := by decide +kernel
  have e2 : uv (putL 0#64 60 8 165#64) = 5764607523034234880 := by decide +kernel
  have h := put_c 0#64 0#64 60 8 165#64 w (by omega) (by omega) (by decide +kernel)
  rw [e1, e2] at h
  exact h

theorem kget (w : World) : Calls Try.prog 18 #[.agg #[.int .u64 10, .int .u64 5764607523034234880], .int .i64 60, .int .i64 8] w fun e w' => e = .returned (.tuple #[.int .u64 165, .int .i64 0]) ∧ Below w.heap.size w w' := by
  have e1 : uv (getW 10#64 5764607523034234880#64 60 8) = 165 := by decide +kernel
  have h := get_c 10#64 5764607523034234880#64 60 8 w (by omega) (by omega)
  rw [e1] at h
  exact h

theorem kmask (w : World) : Calls Try.prog 17 #[.int .i64 63, .int .i64 2] w fun e w' => e = .returned (.tuple #[.agg #[.int .u64 1, .int .u64 9223372036854775808], .int .i64 0]) ∧ Below w.heap.size w w' := by
  have e1 : uv (maskH 63 2) = 1 := by decide +kernel
  have e2 : uv (maskL 63 2) = 9223372036854775808 := by decide +kernel
  have h := mask_c 63 2 w (by omega)
  rw [e1, e2] at h
  exact h

theorem kones (w : World) : Calls Try.prog 15 #[.agg #[.int .u64 1, .int .u64 9223372036854775808]] w fun e w' => e = .returned (.int .i64 2) ∧ Below w.heap.size w w' := by
  have e1 : ((ones 1#64 + ones 9223372036854775808#64 : Nat) : Int) = 2 := by decide +kernel
  have h := ones_c 1#64 9223372036854775808#64 w
  rw [e1] at h
  exact h

theorem kbit (w : World) : Calls Try.prog 16 #[.agg #[.int .u64 1, .int .u64 9223372036854775808], .int .i64 64] w fun e w' => e = .returned (.bool true) ∧ Below w.heap.size w w' := by
  have e1 : hbit 1#64 9223372036854775808#64 64 = true := by decide +kernel
  have h := bit_in 1#64 9223372036854775808#64 64 w (by omega)
  rw [e1] at h
  exact h

theorem kcompare (w : World) : Calls Try.prog 22 #[.agg #[.int .u64 10, .int .u64 5764607523034234880], .agg #[.int .u64 1, .int .u64 9223372036854775808]] w fun e w' => e = .returned (.int .i64 1) ∧ Below w.heap.size w w' := by
  have e1 : cmpH 10#64 5764607523034234880#64 1#64 9223372036854775808#64 = 1 := by decide +kernel
  have h := compare_c 10#64 5764607523034234880#64 1#64 9223372036854775808#64 w
  rw [e1] at h
  exact h

end Go.Proofs
