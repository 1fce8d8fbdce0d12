/-
  The function awake of the laws of layer 2 returns true. No conditions.
-/
import Derived.Test.YtlhbkiobgppciaaCuB
import Derived.Test.YtlhbkiobgppciaaCuW
import Derived.Test.YtlhbkiobgppciaaCuD
import Derived.Test.YtlhbkiobgppciaaCuF
namespace Go.Proofs
open Go.RowKit Go.Proofs.Hd
attribute [local go_sem] uv_nonneg eq4_self
attribute [local go_sem high] run_eq2 run_eq4

theorem k_fieldA (w : World) : Calls Try.prog 26 #[.int .i64 0, .int .i64 8, .int .u64 240, .int .i64 4] w fun e w' => e = .returned (.tuple #[.agg #[.int .u64 0, .int .u64 240, .int .u64 0, .int .u64 240], .int .i64 0]) ∧ Below w.heap.size w w' := by
  have h := cfield_yes 0 8 4 240#64 w (by omega) (by omega) (by decide +kernel) (by omega)
  have e1 : putH 0#64 0 8 240#64 &&& maskH (0 + 8 - 4) 4 = 0#64 := by decide +kernel
  have e2 : putL 0#64 0 8 240#64 &&& maskL (0 + 8 - 4) 4 = 240#64 := by decide +kernel
  have e3 : maskH (0 + 8 - 4) 4 = 0#64 := by decide +kernel
  have e4 : maskL (0 + 8 - 4) 4 = 240#64 := by decide +kernel
  rw [e1, e2, e3, e4] at h
  exact h
theorem k_fieldB (w : World) : Calls Try.prog 26 #[.int .i64 0, .int .i64 8, .int .u64 51, .int .i64 8] w fun e w' => e = .returned (.tuple #[.agg #[.int .u64 0, .int .u64 51, .int .u64 0, .int .u64 255], .int .i64 0]) ∧ Below w.heap.size w w' := by
  have h := cfield_yes 0 8 8 51#64 w (by omega) (by omega) (by decide +kernel) (by omega)
  have e1 : putH 0#64 0 8 51#64 &&& maskH (0 + 8 - 8) 8 = 0#64 := by decide +kernel
  have e2 : putL 0#64 0 8 51#64 &&& maskL (0 + 8 - 8) 8 = 51#64 := by decide +kernel
  have e3 : maskH (0 + 8 - 8) 8 = 0#64 := by decide +kernel
  have e4 : maskL (0 + 8 - 8) 8 = 255#64 := by decide +kernel
  rw [e1, e2, e3, e4] at h
  exact h
theorem k_make (w : World) : Calls Try.prog 23 #[.agg #[.int .u64 0, .int .u64 1], .agg #[.int .u64 0, .int .u64 3]] w fun e w' => e = .returned (.agg #[.int .u64 0, .int .u64 1, .int .u64 0, .int .u64 3]) ∧ Below w.heap.size w w' :=
  make_c 0#64 1#64 0#64 3#64 w
theorem k_less (w : World) : Calls Try.prog 17 #[.agg #[.int .u64 0, .int .u64 240, .int .u64 0, .int .u64 240], .agg #[.int .u64 0, .int .u64 1, .int .u64 0, .int .u64 3]] w fun e w' => ∃ g cap, e = .returned (.slice (some ⟨g, 0, none⟩) 2 cap) ∧ Below w.heap.size w w' := by
  have h := less_some ⟨0#64, 240#64, 0#64, 240#64⟩ ⟨0#64, 1#64, 0#64, 3#64⟩ w (by decide +kernel) (by decide +kernel) (by decide +kernel)
  refine Calls.mono h fun e w' hg => ?_
  obtain ⟨v, rfl, ho, hb⟩ := hg
  have e1 : (lessP ⟨0#64, 1#64, 0#64, 3#64⟩ ⟨0#64, 240#64, 0#64, 240#64⟩ (openBits ⟨0#64, 240#64, 0#64, 240#64⟩ ⟨0#64, 1#64, 0#64, 3#64⟩)).length = 2 := by
    rw [lessP_len]; decide +kernel
  rw [e1] at ho
  obtain ⟨g, cap, rfl, _, _⟩ := ho.form (by omega)
  exact ⟨g, cap, rfl, hb⟩
theorem k_meet (w : World) : Calls Try.prog 15 #[.agg #[.int .u64 0, .int .u64 240, .int .u64 0, .int .u64 240], .agg #[.int .u64 0, .int .u64 51, .int .u64 0, .int .u64 255]] w fun e w' => e = .returned (.tuple #[.agg #[.int .u64 0, .int .u64 0, .int .u64 0, .int .u64 0], .bool false]) ∧ Below w.heap.size w w' :=
  meet_no3 0#64 240#64 0#64 240#64 0#64 51#64 0#64 255#64 w (by decide +kernel) (by decide +kernel) (by decide +kernel)
theorem k_has (w : World) : Calls Try.prog 13 #[.agg #[.int .u64 0, .int .u64 240, .int .u64 0, .int .u64 240], .agg #[.int .u64 0, .int .u64 247]] w fun e w' => e = .returned (.bool true) ∧ Below w.heap.size w w' := by
  have h := has_c 0#64 240#64 0#64 240#64 0#64 247#64 w
  rw [show hasB 0#64 240#64 0#64 240#64 0#64 247#64 = true by decide +kernel] at h
  exact h
theorem k_sound (w : World) : Calls Try.prog 12 #[.agg #[.int .u64 0, .int .u64 240, .int .u64 0, .int .u64 240]] w fun e w' => e = .returned (.bool true) ∧ Below w.heap.size w w' := by
  have h := sound_c 0#64 240#64 0#64 240#64 w
  rw [show sndB 0#64 240#64 0#64 240#64 = true by decide +kernel] at h
  exact h
theorem k_within (w : World) : Calls Try.prog 16 #[.agg #[.int .u64 0, .int .u64 51, .int .u64 0, .int .u64 255], .agg #[.int .u64 0, .int .u64 0, .int .u64 0, .int .u64 0]] w fun e w' => e = .returned (.bool true) ∧ Below w.heap.size w w' := by
  have h := within_yes 0#64 51#64 0#64 255#64 0#64 0#64 0#64 0#64 w (by decide +kernel) (by decide +kernel) (by rw [eq2_uv]; decide +kernel)
  rw [show agrB 0#64 51#64 0#64 255#64 0#64 0#64 0#64 0#64 = true by decide +kernel] at h
  exact h

set_option maxHeartbeats 4000000 in
theorem awake2_c (w : World) : Calls Try.prog 11 #[] w fun e w' => e = .returned (.bool true) ∧ Below w.heap.size w w' := by
  go_enter Try.func11, Try.ntmps11
  go_wp2_with fail
  refine (k_fieldA _).mono ?_
  rintro e w1 ⟨rfl, hb1⟩
  have A1 : Blk (w1.alloc (.cells #[.int .u64 0, .int .u64 240, .int .u64 0, .int .u64 240] 26)) w1.heap.size 26 #[.int .u64 0, .int .u64 240, .int .u64 0, .int .u64 240] := Blk.new w1 _ _
  have bl1 := below1 w1 (.cells #[.int .u64 0, .int .u64 240, .int .u64 0, .int .u64 240] 26)
  have B1 := hb1.trans (bl1.mono hb1.size)
  clear hb1 bl1
  go_wp2_with fail
  refine (k_fieldB _).mono ?_
  rintro e w2 ⟨rfl, hb2⟩
  have A2 := A1.on hb2
  have B2 := B1.trans (hb2.mono B1.size)
  have C2 : Blk (w2.alloc (.cells #[.int .u64 0, .int .u64 51, .int .u64 0, .int .u64 255] 26)) w2.heap.size 26 #[.int .u64 0, .int .u64 51, .int .u64 0, .int .u64 255] := Blk.new w2 _ _
  have bl2 := below1 w2 (.cells #[.int .u64 0, .int .u64 51, .int .u64 0, .int .u64 255] 26)
  have A3 := A2.on bl2
  have B3 := B2.trans (bl2.mono B2.size)
  clear A1 A2 B1 B2 bl2 hb2
  go_upto_region 3 with (fail)
  generalize (w2.alloc (.cells #[.int .u64 0, .int .u64 51, .int .u64 0, .int .u64 255] 26)) = w3 at A3 B3 C2 ⊢
  have S3 : (fun w' => Below w.heap.size w w' ∧ w'.cell? ⟨w1.heap.size, 0, none⟩ = some (.int .u64 0) ∧ w'.cell? ⟨w1.heap.size, 1, none⟩ = some (.int .u64 240) ∧ w'.cell? ⟨w1.heap.size, 2, none⟩ = some (.int .u64 0) ∧ w'.cell? ⟨w1.heap.size, 3, none⟩ = some (.int .u64 240) ∧ w'.cell? ⟨w2.heap.size, 0, none⟩ = some (.int .u64 0) ∧ w'.cell? ⟨w2.heap.size, 1, none⟩ = some (.int .u64 51) ∧ w'.cell? ⟨w2.heap.size, 2, none⟩ = some (.int .u64 0) ∧ w'.cell? ⟨w2.heap.size, 3, none⟩ = some (.int .u64 255)) w3 := ⟨B3, A3.cell 0, A3.cell 1, A3.cell 2, A3.cell 3, C2.cell 0, C2.cell 1, C2.cell 2, C2.cell 3⟩
  dsimp only at S3
  clear A3 B3 C2
  go_region_held3 (fun w' => Below w.heap.size w w' ∧ w'.cell? ⟨w1.heap.size, 0, none⟩ = some (.int .u64 0) ∧ w'.cell? ⟨w1.heap.size, 1, none⟩ = some (.int .u64 240) ∧ w'.cell? ⟨w1.heap.size, 2, none⟩ = some (.int .u64 0) ∧ w'.cell? ⟨w1.heap.size, 3, none⟩ = some (.int .u64 240) ∧ w'.cell? ⟨w2.heap.size, 0, none⟩ = some (.int .u64 0) ∧ w'.cell? ⟨w2.heap.size, 1, none⟩ = some (.int .u64 51) ∧ w'.cell? ⟨w2.heap.size, 2, none⟩ = some (.int .u64 0) ∧ w'.cell? ⟨w2.heap.size, 3, none⟩ = some (.int .u64 255))
    (first
      | exact hold8 (by assumption) (by assumption)
      | exact ⟨S3.1.drew, S3.2⟩)
    (first
      | (go_at_call 23; (with_reducible refine (k_make _).mono ?_); rintro e w' ⟨rfl, hb⟩)
      | (go_at_call 17; (with_reducible refine (k_less _).mono ?_); rintro e w' ⟨g, cap, rfl, hb⟩))
  clear S3
  go_wp2_with fail
  refine (k_meet _).mono ?_
  rintro e w5 ⟨rfl, hb5⟩
  have S5 := hold8 hb5 (by assumption)
  have S6 := hold8 (below1 w5 (.cells #[.int .u64 0, .int .u64 0, .int .u64 0, .int .u64 0] 26)) S5
  clear S5 hb5
  go_upto_region 5 with (fail)
  generalize (w5.alloc (.cells #[.int .u64 0, .int .u64 0, .int .u64 0, .int .u64 0] 26)) = w6 at S6 ⊢
  go_region_held3 (fun w' => Below w.heap.size w w' ∧ w'.cell? ⟨w1.heap.size, 0, none⟩ = some (.int .u64 0) ∧ w'.cell? ⟨w1.heap.size, 1, none⟩ = some (.int .u64 240) ∧ w'.cell? ⟨w1.heap.size, 2, none⟩ = some (.int .u64 0) ∧ w'.cell? ⟨w1.heap.size, 3, none⟩ = some (.int .u64 240) ∧ w'.cell? ⟨w2.heap.size, 0, none⟩ = some (.int .u64 0) ∧ w'.cell? ⟨w2.heap.size, 1, none⟩ = some (.int .u64 51) ∧ w'.cell? ⟨w2.heap.size, 2, none⟩ = some (.int .u64 0) ∧ w'.cell? ⟨w2.heap.size, 3, none⟩ = some (.int .u64 255))
    (first
      | exact hold8 (by assumption) (by assumption)
      | exact ⟨S6.1.drew, S6.2⟩)
    (first
      | (go_at_call 13; (with_reducible refine (k_has _).mono ?_); rintro e w' ⟨rfl, hb⟩)
      | (go_at_call 25; (with_reducible refine (all_c _).mono ?_); rintro e w' ⟨rfl, hb⟩)
      | (go_at_call 16; (with_reducible refine (k_within _).mono ?_); rintro e w' ⟨rfl, hb⟩)
      | (go_at_call 12; (with_reducible refine (k_sound _).mono ?_); rintro e w' ⟨rfl, hb⟩))
  go_wp2
  go_ret
  exact ⟨rfl, And.left (by assumption)⟩
end Go.Proofs
