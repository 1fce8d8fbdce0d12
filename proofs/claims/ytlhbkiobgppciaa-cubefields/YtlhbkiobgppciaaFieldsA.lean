/-
  Contracts of the reference's Field at 64 bits and of cube.Field where there is no such field, and plain facts on the arrays of a field's bits. Conditions as each theorem lists them.
-/
import Derived.Test.YtlhbkiobgppciaaRefC
import Derived.Test.YtlhbkiobgppciaaCuF
import Derived.Test.YtlhbkiobgppciaaArrRow
namespace Go.Proofs
open Go.RowKit Go.Proofs.Hd
theorem rf_yes (a b : Nat) (w : World) (h : a + b ≤ 128) (hb : b ≤ 64) : Calls Try.prog 27 #[.int .i64 a, .int .i64 b, .int .i64 64] w fun e w' => e = .returned (.bool true) ∧ Below w.heap.size w w' := by
  have h1 : (0 : Int) ≤ a := by omega
  have h2 : (0 : Int) ≤ b := by omega
  have h3 : (a : Int) + (b : Int) ≤ 128 := by omega
  have h4 : (a : Int) ≤ 128 := by omega
  have h5 : (b : Int) ≤ 64 := by omega
  go_enter Try.func27, Try.ntmps27
  go_wp2
  go_ret
  exact ⟨rfl, Below.refl _ _⟩
theorem rf_no (a b : Int) (w : World) (h : ¬ (0 ≤ a ∧ 0 ≤ b ∧ b ≤ 128 - a ∧ b ≤ 64)) : Calls Try.prog 27 #[.int .i64 a, .int .i64 b, .int .i64 64] w fun e w' => e = .returned (.bool false) ∧ Below w.heap.size w w' := by
  by_cases h1 : 0 ≤ a
  · by_cases h4 : a ≤ 128
    · by_cases h2 : 0 ≤ b
      · by_cases h5 : b ≤ 64
        · have h3 : ¬ a + b ≤ 128 := fun h3 => h ⟨h1, h2, by omega, h5⟩
          clear h
          go_enter Try.func27, Try.ntmps27
          go_wp2
          go_ret
          exact ⟨rfl, Below.refl _ _⟩
        · clear h
          go_enter Try.func27, Try.ntmps27
          go_wp2
          go_ret
          exact ⟨rfl, Below.refl _ _⟩
      · clear h
        go_enter Try.func27, Try.ntmps27
        go_wp2
        go_ret
        exact ⟨rfl, Below.refl _ _⟩
    · clear h
      go_enter Try.func27, Try.ntmps27
      go_wp2
      go_ret
      exact ⟨rfl, Below.refl _ _⟩
  · clear h
    go_enter Try.func27, Try.ntmps27
    go_wp2
    go_ret
    exact ⟨rfl, Below.refl _ _⟩
theorem num_no (a b : Int) (w : World) (h : ¬ (0 ≤ a ∧ 0 ≤ b ∧ b ≤ 128 - a ∧ b ≤ 64)) (ha : a ≤ 9223372036854775807) : Calls Try.prog 47 #[.int .i64 a, .int .i64 b] w fun e w' => e = .returned (.bool false) ∧ w = w' := by
  by_cases hf : 0 ≤ a ∧ 0 ≤ b ∧ b ≤ 128 - a
  · obtain ⟨h1, h2, h3⟩ := hf
    obtain ⟨n, rfl⟩ := Int.eq_ofNat_of_zero_le h1
    obtain ⟨m, rfl⟩ := Int.eq_ofNat_of_zero_le h2
    refine number_big n m w (by omega) ?_
    have : ¬ (m : Int) ≤ 64 := fun h4 => h ⟨h1, h2, h3, h4⟩
    omega
  · exact number_no a b w (fun w => field_no a b w hf ha)
theorem fld_arg (a n len : Int) (v : BitVec 64) (w : World) (h : ¬ (0 ≤ a ∧ 0 ≤ n ∧ n ≤ 128 - a ∧ n ≤ 64)) (ha : a ≤ 9223372036854775807) :
    Calls Try.prog 26 #[.int .i64 a, .int .i64 n, .int .u64 (uv v), .int .i64 len] w fun e w' => e = .returned (.tuple #[.agg #[.int .u64 0, .int .u64 0, .int .u64 0, .int .u64 0], .int .i64 1]) ∧ Below w.heap.size w w' :=
  cfield_bad a n len v 1 w rfl (fun w => put_e 0#64 0#64 a n v w (fun w => num_no a n w h ha))
theorem fld_over (a n : Nat) (len : Int) (v : BitVec 64) (w : World) (hn : a + n ≤ 128) (h64 : n ≤ 64) (hv : uv (low n) < uv v) :
    Calls Try.prog 26 #[.int .i64 a, .int .i64 n, .int .u64 (uv v), .int .i64 len] w fun e w' => e = .returned (.tuple #[.agg #[.int .u64 0, .int .u64 0, .int .u64 0, .int .u64 0], .int .i64 4]) ∧ Below w.heap.size w w' :=
  cfield_bad a n len v 4 w rfl (fun w => put_r 0#64 0#64 a n v w hn h64 hv)
/-- The bits from lo to a + q. -/
def carr (a lo q : Nat) : Nat → Bool := fun j => decide (lo ≤ j) && decide (j < a + q)
def varr (v : BitVec 64) (a lo q : Nat) : Nat → Bool := fun j => (decide (lo ≤ j) && decide (j < a + q)) && v.getLsbD (j - a)
theorem carr_zero (a s : Nat) : bl (fun _ => false) = bl (carr a (a + s) s) := bl_congr fun j _ => by unfold carr; first | (simp; done) | (simp; omega)
theorem varr_zero (v : BitVec 64) (a s : Nat) : bl (fun _ => false) = bl (varr v a (a + s) s) := bl_congr fun j _ => by
  unfold varr
  by_cases h : a + s ≤ j
  · simp [show ¬ j < a + s by omega]
  · simp [h]
theorem carr_put (a lo q : Nat) (h : lo ≤ a + q) : (bl (carr a lo q)).set (a + q) (.bool true) = bl (carr a lo (q + 1)) := by
  rw [bl_set]
  apply bl_congr
  intro j _
  unfold carr
  by_cases e : j = a + q
  · subst e; rw [if_pos rfl]; simp; omega
  · rw [if_neg e]
    have : (j < a + (q + 1)) ↔ (j < a + q) := by omega
    simp [this]
theorem varr_put (v : BitVec 64) (a lo q : Nat) (h : lo ≤ a + q) (x : Bool) (hx : x = v.getLsbD q) : (bl (varr v a lo q)).set (a + q) (.bool x) = bl (varr v a lo (q + 1)) := by
  subst hx
  rw [bl_set]
  apply bl_congr
  intro j _
  unfold varr
  by_cases e : j = a + q
  · subst e; rw [if_pos rfl, Nat.add_sub_cancel_left]; simp [h, show a + q < a + (q + 1) by omega]
  · rw [if_neg e]
    have : (j < a + (q + 1)) ↔ (j < a + q) := by omega
    simp [this]
theorem carr_num (a n len : Nat) (hl : len ≤ n) (hn : a + n ≤ 128) : num (carr a (a + (n - len)) n) 64 64 = maskH (a + n - len) len ∧ num (carr a (a + (n - len)) n) 0 64 = maskL (a + n - len) len :=
  num_of_bits fun j hj => by
    rw [mask_bit _ _ _ (by omega) hj]
    unfold carr
    rw [show a + n - len = a + (n - len) by omega, show a + (n - len) + len = a + n by omega]
theorem varr_num (v : BitVec 64) (a n len : Nat) (hl : len ≤ n) (hn : a + n ≤ 128) (h64 : n ≤ 64) :
    num (varr v a (a + (n - len)) n) 64 64 = putH 0#64 a n v &&& maskH (a + n - len) len ∧ num (varr v a (a + (n - len)) n) 0 64 = putL 0#64 a n v &&& maskL (a + n - len) len :=
  num_of_bits fun j hj => by
    rw [hbit_and, mask_bit _ _ _ (by omega) hj, put_bit _ _ _ _ _ _ h64 hj]
    unfold varr
    have z : hbit 0#64 0#64 j = false := by simp [hbit]
    rw [z, show a + n - len = a + (n - len) by omega, show a + (n - len) + len = a + n by omega]
    by_cases h1 : a + (n - len) ≤ j
    · have h2 : a ≤ j := by omega
      simp [h1, h2, Bool.and_comm]
    · simp [h1]
end Go.Proofs
