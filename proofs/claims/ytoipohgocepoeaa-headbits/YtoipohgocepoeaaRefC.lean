/-
  Contracts of Number and Field of the reference of layer 1, and of the inner tests of package head where there is no field. Conditions as each theorem lists them.
-/
import Derived.Test.YtoipohgocepoeaaRefB
namespace Go.Proofs
open Go.RowKit Go.Proofs.Hd
attribute [local go_sem] uv_shr uv_nonneg uv_twice uv_add_one

set_option maxRecDepth 100000 in
set_option maxHeartbeats 400000 in
theorem refnum_c (f : Nat → Bool) (a n : Nat) (w : World) (h : a + n ≤ 128) : Calls Try.prog 21 #[.agg (bl f).toArray, .int .i64 a, .int .i64 n] w fun e w' => e = .returned (.int .u64 (uv (num f a n))) ∧ Below w.heap.size w w' := by
  have hn : (n : Int) ≤ 128 := by omega
  go_enter Try.func21, Try.ntmps21
  go_wp2
  go_loopg [7, 8] n (fun k v i wr => k ≤ n ∧ v = .int .u64 (uv (num f (a + k) (n - k))) ∧ i = .int .i64 ((k : Int) - 1) ∧ wr = w.alloc (.cells (bl f).toArray 25))
  case atStart => exact ⟨Nat.le_refl n, by rw [Nat.sub_self, num_zero, ← uv_zero], rfl, rfl⟩
  case round =>
    obtain ⟨hk, rfl, rfl, rfl⟩ := hrel
    rcases Nat.eq_zero_or_pos gk with rfl | h0
    · go_wp2
      go_ret
      exact ⟨rfl, (Below.refl _ w).alloc (Nat.le_refl _) _⟩
    · obtain ⟨m, rfl⟩ : ∃ m, gk = m + 1 := ⟨gk - 1, by omega⟩
      have em : ((m + 1 : Nat) : Int) - 1 = (m : Int) := by omega
      rw [em]
      have hm : a + m < 128 := by omega
      have hm' : (a : Int) + (m : Int) < 128 := by omega
      have hm2 : (0 : Int) ≤ (a : Int) + (m : Int) := by omega
      have hg := bl_get f (a + m) hm
      have e1 : a + (m + 1) = a + m + 1 := by omega
      have e2 : n - m = n - (m + 1) + 1 := by omega
      have E1 := Lib.hid e1; have E2 := Lib.hid e2
      clear em h0 e1 e2
      cases hf : f (a + m)
      · rw [hf] at hg
        have HF := Lib.hid hf; clear hf
        go_wp2
        go_roundg m
        case measure => omega
        case rel => exact ⟨by omega, by rw [E2.out, ← num_step0 f (a + m) _ HF.out, ← E1.out], rfl, rfl⟩
      · rw [hf] at hg
        have HF := Lib.hid hf; clear hf
        go_wp2
        go_roundg m
        case measure => omega
        case rel => exact ⟨by omega, by rw [E2.out, ← num_step1 f (a + m) _ HF.out, ← E1.out], rfl, rfl⟩

theorem field_no (a b : Int) (w : World) (h : ¬ (0 ≤ a ∧ 0 ≤ b ∧ b ≤ 128 - a)) (ha : a ≤ 9223372036854775807) : Calls Try.prog 30 #[.int .i64 a, .int .i64 b] w fun e w' => e = .returned (.bool false) ∧ w = w' := by
  by_cases h1 : 0 ≤ a
  · by_cases h2 : 0 ≤ b
    · have h3 : ¬ b ≤ 128 - a := fun h3 => h ⟨h1, h2, h3⟩
      clear h
      have hw : IntKind.i64.wrap (128 - a) = 128 - a := by rw [IntKind.wrap_i64]; omega
      go_enter Try.func30, Try.ntmps30
      go_wp2
      go_ret
      exact ⟨rfl, rfl⟩
    · clear h
      go_enter Try.func30, Try.ntmps30
      go_wp2
      go_ret
      exact ⟨rfl, rfl⟩
  · clear h
    go_enter Try.func30, Try.ntmps30
    go_wp2
    go_ret
    exact ⟨rfl, rfl⟩

theorem number_no (a b : Int) (w : World) (hf : ∀ w, Calls Try.prog 30 #[.int .i64 a, .int .i64 b] w fun e w' => e = .returned (.bool false) ∧ w = w') : Calls Try.prog 32 #[.int .i64 a, .int .i64 b] w fun e w' => e = .returned (.bool false) ∧ w = w' := by
  go_enter Try.func32, Try.ntmps32
  go_wp2_with (go_at_call 30; refine (hf _).mono ?_; rintro e w' ⟨rfl, rfl⟩)
  go_ret
  exact ⟨rfl, rfl⟩

theorem number_big (a b : Nat) (w : World) (h : a + b ≤ 128) (h64 : 64 < b) : Calls Try.prog 32 #[.int .i64 a, .int .i64 b] w fun e w' => e = .returned (.bool false) ∧ w = w' := by
  have h3 : decide ((b : Int) ≤ 64) = false := by simp; omega
  go_enter Try.func32, Try.ntmps32
  go_wp2_with (go_at_call 30; refine (field_yes _ _ _ h).mono ?_; rintro e w' ⟨rfl, rfl⟩)
  go_ret
  exact ⟨rfl, rfl⟩

theorem reffield_yes (a b : Nat) (w : World) (h : a + b ≤ 128) : Calls Try.prog 20 #[.int .i64 a, .int .i64 b, .int .i64 128] w fun e w' => e = .returned (.bool true) ∧ w = w' := by
  have h1 : (0 : Int) ≤ a := by omega
  have h2 : (0 : Int) ≤ b := by omega
  have h3 : (a : Int) + (b : Int) ≤ 128 := by omega
  have h4 : (a : Int) ≤ 128 := by omega
  have h5 : (b : Int) ≤ 128 := by omega
  go_enter Try.func20, Try.ntmps20
  go_wp2
  go_ret
  exact ⟨rfl, rfl⟩

theorem reffield_no (a b : Int) (w : World) (h : ¬ (0 ≤ a ∧ 0 ≤ b ∧ b ≤ 128 - a)) : Calls Try.prog 20 #[.int .i64 a, .int .i64 b, .int .i64 128] w fun e w' => e = .returned (.bool false) ∧ w = w' := by
  by_cases h1 : 0 ≤ a
  · by_cases h4 : a ≤ 128
    · by_cases h2 : 0 ≤ b
      · by_cases h5 : b ≤ 128
        · have h3 : ¬ a + b ≤ 128 := fun h3 => h ⟨h1, h2, by omega⟩
          clear h
          go_enter Try.func20, Try.ntmps20
          go_wp2
          go_ret
          exact ⟨rfl, rfl⟩
        · clear h
          go_enter Try.func20, Try.ntmps20
          go_wp2
          go_ret
          exact ⟨rfl, rfl⟩
      · clear h
        go_enter Try.func20, Try.ntmps20
        go_wp2
        go_ret
        exact ⟨rfl, rfl⟩
    · clear h
      go_enter Try.func20, Try.ntmps20
      go_wp2
      go_ret
      exact ⟨rfl, rfl⟩
  · clear h
    go_enter Try.func20, Try.ntmps20
    go_wp2
    go_ret
    exact ⟨rfl, rfl⟩
end Go.Proofs
