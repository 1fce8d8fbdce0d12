/-
  Contracts of Number and Field of the reference of layer 1, and of the inner tests of package head where there is no field. Conditions as each theorem lists them.
-/
import Derived.Test.YtlhbkiobgppciaaRefB
namespace Go.Proofs
open Go.RowKit Go.Proofs.Hd
attribute [local go_sem] uv_shr uv_nonneg uv_twice uv_add_one

theorem field_no (a b : Int) (w : World) (h : ¬ (0 ≤ a ∧ 0 ≤ b ∧ b ≤ 128 - a)) (ha : a ≤ 9223372036854775807) : Calls Try.prog 50 #[.int .i64 a, .int .i64 b] w fun e w' => e = .returned (.bool false) ∧ w = w' := by
  by_cases h1 : 0 ≤ a
  · by_cases h2 : 0 ≤ b
    · have h3 : ¬ b ≤ 128 - a := fun h3 => h ⟨h1, h2, h3⟩
      clear h
      have hw : IntKind.i64.wrap (128 - a) = 128 - a := by rw [IntKind.wrap_i64]; omega
      go_enter Try.func50, Try.ntmps50
      go_wp2
      go_ret
      exact ⟨rfl, rfl⟩
    · clear h
      go_enter Try.func50, Try.ntmps50
      go_wp2
      go_ret
      exact ⟨rfl, rfl⟩
  · clear h
    go_enter Try.func50, Try.ntmps50
    go_wp2
    go_ret
    exact ⟨rfl, rfl⟩

theorem number_no (a b : Int) (w : World) (hf : ∀ w, Calls Try.prog 50 #[.int .i64 a, .int .i64 b] w fun e w' => e = .returned (.bool false) ∧ w = w') : Calls Try.prog 47 #[.int .i64 a, .int .i64 b] w fun e w' => e = .returned (.bool false) ∧ w = w' := by
  go_enter Try.func47, Try.ntmps47
  go_wp2_with (go_at_call 50; refine (hf _).mono ?_; rintro e w' ⟨rfl, rfl⟩)
  go_ret
  exact ⟨rfl, rfl⟩

theorem number_big (a b : Nat) (w : World) (h : a + b ≤ 128) (h64 : 64 < b) : Calls Try.prog 47 #[.int .i64 a, .int .i64 b] w fun e w' => e = .returned (.bool false) ∧ w = w' := by
  have h3 : decide ((b : Int) ≤ 64) = false := by simp; omega
  go_enter Try.func47, Try.ntmps47
  go_wp2_with (go_at_call 50; refine (field_yes _ _ _ h).mono ?_; rintro e w' ⟨rfl, rfl⟩)
  go_ret
  exact ⟨rfl, rfl⟩

theorem reffield_yes (a b : Nat) (w : World) (h : a + b ≤ 128) : Calls Try.prog 27 #[.int .i64 a, .int .i64 b, .int .i64 128] w fun e w' => e = .returned (.bool true) ∧ w = w' := by
  have h1 : (0 : Int) ≤ a := by omega
  have h2 : (0 : Int) ≤ b := by omega
  have h3 : (a : Int) + (b : Int) ≤ 128 := by omega
  have h4 : (a : Int) ≤ 128 := by omega
  have h5 : (b : Int) ≤ 128 := by omega
  go_enter Try.func27, Try.ntmps27
  go_wp2
  go_ret
  exact ⟨rfl, rfl⟩

theorem reffield_no (a b : Int) (w : World) (h : ¬ (0 ≤ a ∧ 0 ≤ b ∧ b ≤ 128 - a)) : Calls Try.prog 27 #[.int .i64 a, .int .i64 b, .int .i64 128] w fun e w' => e = .returned (.bool false) ∧ w = w' := by
  by_cases h1 : 0 ≤ a
  · by_cases h4 : a ≤ 128
    · by_cases h2 : 0 ≤ b
      · by_cases h5 : b ≤ 128
        · have h3 : ¬ a + b ≤ 128 := fun h3 => h ⟨h1, h2, by omega⟩
          clear h
          go_enter Try.func27, Try.ntmps27
          go_wp2
          go_ret
          exact ⟨rfl, rfl⟩
        · clear h
          go_enter Try.func27, Try.ntmps27
          go_wp2
          go_ret
          exact ⟨rfl, rfl⟩
      · clear h
        go_enter Try.func27, Try.ntmps27
        go_wp2
        go_ret
        exact ⟨rfl, rfl⟩
    · clear h
      go_enter Try.func27, Try.ntmps27
      go_wp2
      go_ret
      exact ⟨rfl, rfl⟩
  · clear h
    go_enter Try.func27, Try.ntmps27
    go_wp2
    go_ret
    exact ⟨rfl, rfl⟩
end Go.Proofs
