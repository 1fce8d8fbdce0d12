/-
  Contracts of Put of package head: the field is set, or ErrArg, or ErrRange. Conditions as each theorem lists them.
-/
import Derived.Test.YtlhbkiobgppciaaHdC
import Derived.Deep.RegionWith
namespace Go.Proofs
open Go.RowKit Go.Proofs.Hd
attribute [local go_sem] uv_and uv_or uv_xor uv_andNot uv_shr uv_shl uv_add uv_sub uv_nonneg uv_shl_one uv_sub_one uv_and_one

theorem up_c (v : BitVec 64) (n : Nat) (w : World) (h2 : n ≤ 128) : Calls Try.prog 49 #[.int .u64 (uv v), .int .i64 n] w fun e w' => e = .returned (.agg #[.int .u64 (uv (upHi v n)), .int .u64 (uv (upLo v n))]) ∧ Below w.heap.size w w' := by
  by_cases h1 : 64 ≤ n
  · exact up_hi v n w h1 h2
  · exact up_lo v n w (by omega)

theorem keep2 {B b : Nat} {x y : Option Value} {W0 w1 w2 : World} (hb : Below w1.heap.size w1 w2) (h : Below B W0 w1 ∧ w1.cell? ⟨b, 0, none⟩ = x ∧ w1.cell? ⟨b, 1, none⟩ = y) (hB : B ≤ W0.heap.size) (hbB : b < B) :
    Below B W0 w2 ∧ w2.cell? ⟨b, 0, none⟩ = x ∧ w2.cell? ⟨b, 1, none⟩ = y := by
  have hs := h.1.size
  exact ⟨h.1.trans (hb.mono (by omega)), (hb.cell (p := ⟨b, 0, none⟩) (by simp; omega)).trans h.2.1, (hb.cell (p := ⟨b, 1, none⟩) (by simp; omega)).trans h.2.2⟩

theorem later {B : Nat} {W0 w1 w2 : World} (hb : Below w1.heap.size w1 w2) (h : Below B W0 w1) (hB : B ≤ W0.heap.size) : Below B W0 w2 :=
  h.trans (hb.mono (Nat.le_trans hB h.size))
theorem six {w w' : World} {h l : BitVec 64} (J : Below (w.heap.size + 2) ((w.alloc (.cells #[.int .u64 (uv h), .int .u64 (uv l)] 24)).alloc (.cells #[.int .u64 0, .int .u64 0] 24)) w') : w'.cell? ⟨w.heap.size, 0, none⟩ = some (.int .u64 (uv h)) ∧ w'.cell? ⟨w.heap.size, 1, none⟩ = some (.int .u64 (uv l)) ∧
    w'.cell? ⟨w.heap.size + 1, 0, none⟩ = some (.int .u64 0) ∧ w'.cell? ⟨w.heap.size + 1, 1, none⟩ = some (.int .u64 0) ∧ w'.frozen? ⟨w.heap.size + 1, 0, none⟩ = false ∧ w'.frozen? ⟨w.heap.size + 1, 1, none⟩ = false := by
  refine ⟨?_, ?_, ?_, ?_, ?_, ?_⟩
  · rw [J.cell (by simp <;> omega)]; simp
  · rw [J.cell (by simp <;> omega)]; simp
  · rw [J.cell (by simp)]; simp
  · rw [J.cell (by simp)]; simp
  · rw [J.frozen (by simp)]; simp
  · rw [J.frozen (by simp)]; simp

set_option maxHeartbeats 1000000 in
theorem put_c (h l : BitVec 64) (a n : Nat) (v : BitVec 64) (w : World) (hn : a + n ≤ 128) (h64 : n ≤ 64) (hv : ¬ uv (low n) < uv v) :
    Calls Try.prog 39 #[.agg #[.int .u64 (uv h), .int .u64 (uv l)], .int .i64 a, .int .i64 n, .int .u64 (uv v)] w fun e w' => e = .returned (.tuple #[.agg #[.int .u64 (uv (putH h a n v)), .int .u64 (uv (putL l a n v))], .int .i64 0]) ∧ Below w.heap.size w w' := by
  go_enter Try.func39, Try.ntmps39
  go_wp2_with (first | (go_at_call 47; refine (number_yes _ _ _ hn h64).mono ?_; rintro e w' ⟨rfl, rfl⟩) | (go_at_call 48; refine (lowest_c _ _ h64).mono ?_; rintro e w' ⟨rfl, rfl⟩))
  have J0 : Below (w.heap.size + 2) ((w.alloc (.cells #[.int .u64 (uv h), .int .u64 (uv l)] 24)).alloc (.cells #[.int .u64 0, .int .u64 0] 24)) ((w.alloc (.cells #[.int .u64 (uv h), .int .u64 (uv l)] 24)).alloc (.cells #[.int .u64 0, .int .u64 0] 24)).drew := (Below.refl _ _).drew
  go_region_with (first
      | (go_at_call 48; refine (lowest_c _ _ h64).mono ?_; rintro e w' ⟨rfl, rfl⟩)
      | (go_at_call 49; refine (up_c _ _ _ (by omega)).mono ?_; rintro e w' ⟨rfl, hb⟩; have J := later hb (by assumption) (by simp); clear hb; obtain ⟨q1, q2, q3, q4, q5, q6⟩ := six J)
      | (go_at_call 35; refine (less_c _ _ _ _ _).mono ?_; rintro e w' ⟨rfl, hb⟩; have J := later hb (by assumption) (by simp); clear hb; obtain ⟨q1, q2, q3, q4, q5, q6⟩ := six J)
      | (go_at_call 34; refine (or_c _ _ _ _ _).mono ?_; rintro e w' ⟨rfl, hb⟩; have J := later hb (by assumption) (by simp); clear hb; obtain ⟨q1, q2, q3, q4, q5, q6⟩ := six J))
  all_goals go_wp2
  all_goals (refine bodyPost_ret (v := .tuple #[.agg #[.int .u64 (uv (putH h a n v)), .int .u64 (uv (putL l a n v))], .int .i64 0]) (by simp [results, Try.results39, go_sem, q3, q4, putH, putL]) rfl ⟨rfl, ?_⟩)
  all_goals exact ((((((Below.refl _ w).alloc (Nat.le_refl _) _).alloc (by simp) _).trans ((by assumption : Below (w.heap.size + 2) ((w.alloc (.cells #[.int .u64 (uv h), .int .u64 (uv l)] 24)).alloc (.cells #[.int .u64 0, .int .u64 0] 24)) _).mono (by omega))).setCell (by simp) _).setCell (by simp) _)

theorem put_e (h l : BitVec 64) (a n : Int) (v : BitVec 64) (w : World) (hf : ∀ w, Calls Try.prog 47 #[.int .i64 a, .int .i64 n] w fun e w' => e = .returned (.bool false) ∧ w = w') :
    Calls Try.prog 39 #[.agg #[.int .u64 (uv h), .int .u64 (uv l)], .int .i64 a, .int .i64 n, .int .u64 (uv v)] w fun e w' => e = .returned (.tuple #[.agg #[.int .u64 (uv 0#64), .int .u64 (uv 0#64)], .int .i64 1]) ∧ Below w.heap.size w w' := by
  go_enter Try.func39, Try.ntmps39
  go_wp2_with (go_at_call 47; refine (hf _).mono ?_; rintro e w' ⟨rfl, rfl⟩)
  exact bodyPost_ret (v := .tuple #[.agg #[.int .u64 (uv 0#64), .int .u64 (uv 0#64)], .int .i64 1]) (by simp [results, Try.results39, go_sem, ← uv_zero]) rfl ⟨rfl, ((Below.refl _ w).alloc (Nat.le_refl _) _).alloc (by simp) _⟩

theorem put_r (h l : BitVec 64) (a n : Nat) (v : BitVec 64) (w : World) (hn : a + n ≤ 128) (h64 : n ≤ 64) (hv : uv (low n) < uv v) :
    Calls Try.prog 39 #[.agg #[.int .u64 (uv h), .int .u64 (uv l)], .int .i64 a, .int .i64 n, .int .u64 (uv v)] w fun e w' => e = .returned (.tuple #[.agg #[.int .u64 (uv 0#64), .int .u64 (uv 0#64)], .int .i64 4]) ∧ Below w.heap.size w w' := by
  go_enter Try.func39, Try.ntmps39
  go_wp2_with (first | (go_at_call 47; refine (number_yes _ _ _ hn h64).mono ?_; rintro e w' ⟨rfl, rfl⟩) | (go_at_call 48; refine (lowest_c _ _ h64).mono ?_; rintro e w' ⟨rfl, rfl⟩))
  exact bodyPost_ret (v := .tuple #[.agg #[.int .u64 (uv 0#64), .int .u64 (uv 0#64)], .int .i64 4]) (by simp [results, Try.results39, go_sem, ← uv_zero]) rfl ⟨rfl, ((Below.refl _ w).alloc (Nat.le_refl _) _).alloc (by simp) _⟩

end Go.Proofs
