/-
  Contract: Head of the reference of layer 1 returns the header of 128 bits. No conditions.
-/
import Derived.Test.YtlhbkiobgppciaaRefA
import Derived.Test.YtlhbkiobgppciaaArrNum
import Derived.Lib.Hide
namespace Go.Proofs
open Go.RowKit Go.Proofs.Hd
attribute [local go_sem] uv_shr uv_nonneg uv_twice uv_add_one

set_option maxRecDepth 100000 in
set_option maxHeartbeats 400000 in
theorem refhead_c (f : Nat → Bool) (w : World) : Calls Try.prog 24 #[.agg (bl f).toArray] w fun e w' => e = .returned (.agg #[.int .u64 (uv (num f 64 64)), .int .u64 (uv (num f 0 64))]) ∧ Below w.heap.size w w' := by
  go_enter Try.func24, Try.ntmps24
  go_wp2
  go_loopg [4] 128 (fun k i wr => k ≤ 128 ∧ i = .int .i64 ((k : Int) - 1) ∧ wr = ((w.alloc (.cells (bl f).toArray 43)).alloc (.cells #[.int .u64 0, .int .u64 0] 24)).alloc (.cells #[.int .u64 (uv (hiW f k)), .int .u64 (uv (loW f k))] 24))
  case atStart => exact ⟨by omega, rfl, by rw [hiW_top, loW_top, ← uv_zero]⟩
  case round =>
    obtain ⟨hk, rfl, rfl⟩ := hrel
    rcases Nat.eq_zero_or_pos gk with rfl | h0
    · go_wp2
      exact bodyPost_ret (v := .agg #[.int .u64 (uv (hiW f 0)), .int .u64 (uv (loW f 0))]) (by simp [results, Try.results24, go_sem]) rfl ⟨by rw [hiW_end, loW_end], (((Below.refl _ w).alloc (Nat.le_refl _) _).alloc (by simp) _).alloc (by simp <;> omega) _⟩
    · obtain ⟨m, rfl⟩ : ∃ m, gk = m + 1 := ⟨gk - 1, by omega⟩
      have em : ((m + 1 : Nat) : Int) - 1 = (m : Int) := by omega
      rw [em]
      have hm : m < 128 := by omega
      have hm' : (m : Int) < 128 := by omega
      clear em h0 hk
      have hg := bl_get f m hm
      by_cases h64 : m < 64
      · have h64' : (m : Int) < 64 := by omega
        cases hf : f m
        · rw [hf] at hg
          have HF := Lib.hid hf; clear hf
          go_wp2
          go_roundg m
          case measure => omega
          case rel => exact ⟨by omega, rfl, by rw [hiW_lo f m h64]; simp only [uv_wrap]; rw [loW_0 f m h64 HF.out]⟩
        · rw [hf] at hg
          have HF := Lib.hid hf; clear hf
          go_wp2
          go_roundg m
          case measure => omega
          case rel => exact ⟨by omega, rfl, by rw [hiW_lo f m h64, loW_1 f m h64 HF.out]⟩
      · have h64' : ¬ (m : Int) < 64 := by omega
        cases hf : f m
        · rw [hf] at hg
          have HF := Lib.hid hf; clear hf
          go_wp2
          go_roundg m
          case measure => omega
          case rel => exact ⟨by omega, rfl, by rw [loW_hi f m h64]; simp only [uv_wrap]; rw [hiW_0 f m h64 hm HF.out]⟩
        · rw [hf] at hg
          have HF := Lib.hid hf; clear hf
          go_wp2
          go_roundg m
          case measure => omega
          case rel => exact ⟨by omega, rfl, by rw [loW_hi f m h64, hiW_1 f m h64 hm HF.out]⟩
end Go.Proofs
