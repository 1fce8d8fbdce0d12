/-
  Contracts of Bit, Mask and Get of package head and of cmp.Or at two values. Conditions as each theorem lists them.
-/
import Derived.Test.YtlhbkiobgppciaaHdB
import Derived.Test.YtlhbkiobgppciaaMath
namespace Go.Proofs
open Go.RowKit Go.Proofs.Hd
attribute [local go_sem] uv_and uv_or uv_xor uv_andNot uv_shr uv_shl uv_add uv_sub uv_nonneg uv_shl_one uv_sub_one uv_and_one

theorem below_i (x : Int) (w : World) (h0 : 0 ≤ x) (h : x ≤ 128) : Calls Try.prog 51 #[.int .i64 x] w fun e w' => e = .returned (.agg #[.int .u64 (uv (low (x.toNat - 64))), .int .u64 (uv (low (min x.toNat 64)))]) ∧ Below w.heap.size w w' := by
  have := below_c x.toNat w (by omega)
  rwa [Int.toNat_of_nonneg h0] at this

theorem mask_c (a n : Nat) (w : World) (h : a + n ≤ 128) : Calls Try.prog 40 #[.int .i64 a, .int .i64 n] w fun e w' => e = .returned (.tuple #[.agg #[.int .u64 (uv (maskH a n)), .int .u64 (uv (maskL a n))], .int .i64 0]) ∧ Below w.heap.size w w' := by
  go_enter Try.func40, Try.ntmps40
  go_wp2_with (go_at_call 50; refine (field_yes _ _ _ h).mono ?_; rintro e w' ⟨rfl, rfl⟩)
  refine (below_i _ _ (by omega) (by omega)).mono ?_
  rintro e w1 ⟨rfl, hb1⟩
  go_wp2_with fail
  refine (below_i _ _ (by omega) (by omega)).mono ?_
  rintro e w2 ⟨rfl, hb2⟩
  go_wp2_with fail
  refine (less_c _ _ _ _ _).mono ?_
  rintro e w3 ⟨rfl, hb3⟩
  have hb : Below (w.heap.size + 1) (w.alloc (.cells #[.int .u64 0, .int .u64 0] 24)) w3 := ((hb1.trans (hb2.mono hb1.size)).trans (hb3.mono (Nat.le_trans hb1.size hb2.size))).mono (by simp)
  have hc : ∀ o, w3.cell? ⟨w.heap.size, o, none⟩ = (w.alloc (.cells #[.int .u64 0, .int .u64 0] 24)).cell? ⟨w.heap.size, o, none⟩ := fun o => hb.cell (p := ⟨w.heap.size, o, none⟩) (by simp)
  have hf : ∀ o, w3.frozen? ⟨w.heap.size, o, none⟩ = (w.alloc (.cells #[.int .u64 0, .int .u64 0] 24)).frozen? ⟨w.heap.size, o, none⟩ := fun o => hb.frozen (p := ⟨w.heap.size, o, none⟩) (by simp)
  go_wp2
  exact bodyPost_ret (v := .tuple #[.agg #[.int .u64 (uv (maskH a n)), .int .u64 (uv (maskL a n))], .int .i64 0]) (by simp [results, Try.results40, go_sem, hc, maskH, maskL]) rfl ⟨rfl, ((((Below.refl _ w).alloc (Nat.le_refl _) _).trans (hb.mono (by omega))).setCell (by simp) _).setCell (by simp) _⟩

theorem mask_e (a n : Int) (w : World) (hf : ∀ w, Calls Try.prog 50 #[.int .i64 a, .int .i64 n] w fun e w' => e = .returned (.bool false) ∧ w = w') : Calls Try.prog 40 #[.int .i64 a, .int .i64 n] w fun e w' => e = .returned (.tuple #[.agg #[.int .u64 (uv 0#64), .int .u64 (uv 0#64)], .int .i64 1]) ∧ Below w.heap.size w w' := by
  go_enter Try.func40, Try.ntmps40
  go_wp2_with (go_at_call 50; refine (hf _).mono ?_; rintro e w' ⟨rfl, rfl⟩)
  exact bodyPost_ret (v := .tuple #[.agg #[.int .u64 (uv 0#64), .int .u64 (uv 0#64)], .int .i64 1]) (by simp [results, Try.results40, go_sem, ← uv_zero]) rfl ⟨rfl, (Below.refl _ w).alloc (Nat.le_refl _) _⟩

end Go.Proofs
