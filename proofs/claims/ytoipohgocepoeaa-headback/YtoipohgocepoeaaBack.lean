/-
  The law HeadBack returns true for every header, all two bytes and every uint64, and changes nothing that was there.
-/
import Derived.Test.YtoipohgocepoeaaHdF
import Derived.Test.YtoipohgocepoeaaMath
import Derived.Deep.DeepCutAuto
import Derived.Deep.Light
namespace Go.Proofs.Back
open Go.RowKit Go.Proofs.Hd
attribute [local go_sem] uv_shl_one uv_nonneg

theorem on_some {W w1 : World} {p : Addr} {v : Value} (hb : Below W.heap.size W w1) (h : W.cell? p = some v) : w1.cell? p = some v :=
  (hb.cell (World.block_lt_of_cell? W p h)).trans h
theorem b_get (h l v : BitVec 64) (k n : Nat) (w : World) (hk : k + n ≤ 128) (hn : n ≤ 64) : Calls Try.prog 18 #[.agg #[.int .u64 (uv (putH h k n (v &&& low n))), .int .u64 (uv (putL l k n (v &&& low n)))], .int .i64 k, .int .i64 n] w fun e w' => e = .returned (.tuple #[.int .u64 (uv (v &&& low n)), .int .i64 0]) ∧ Below w.heap.size w w' := by
  have := get_c (putH h k n (v &&& low n)) (putL l k n (v &&& low n)) k n w hk hn
  rwa [get_put _ _ _ _ _ hk hn] at this
theorem b_less (h l v : BitVec 64) (k n : Nat) (w : World) (hk : k + n ≤ 128) (hn : n ≤ 64) : Calls Try.prog 14 #[.agg #[.int .u64 (uv (putH h k n (v &&& low n))), .int .u64 (uv (putL l k n (v &&& low n)))], .agg #[.int .u64 (uv (maskH k n)), .int .u64 (uv (maskL k n))]] w fun e w' => e = .returned (.agg #[.int .u64 (uv (h &&& ~~~(maskH k n))), .int .u64 (uv (l &&& ~~~(maskL k n)))]) ∧ Below w.heap.size w w' := by
  have := less_c (putH h k n (v &&& low n)) (putL l k n (v &&& low n)) (maskH k n) (maskL k n) w
  rwa [(less_put h l v k n hk hn).1, (less_put h l v k n hk hn).2] at this
theorem b_ones (k n : Nat) (w : World) (hk : k + n ≤ 128) : Calls Try.prog 15 #[.agg #[.int .u64 (uv (maskH k n)), .int .u64 (uv (maskL k n))]] w fun e w' => e = .returned (.int .i64 n) ∧ Below w.heap.size w w' := by
  have := ones_c (maskH k n) (maskL k n) w
  rwa [ones_mask k n hk] at this
theorem keep6 {a b c : Nat} {x y z u p q : Value} {W0 w1 w2 : World} (hb : Below w1.heap.size w1 w2) (h : Below W0.heap.size W0 w1 ∧ w1.cell? ⟨a, 0, none⟩ = some x ∧ w1.cell? ⟨a, 1, none⟩ = some y ∧ w1.cell? ⟨b, 0, none⟩ = some z ∧ w1.cell? ⟨b, 1, none⟩ = some u ∧ w1.cell? ⟨c, 0, none⟩ = some p ∧ w1.cell? ⟨c, 1, none⟩ = some q) :
    Below W0.heap.size W0 w2 ∧ w2.cell? ⟨a, 0, none⟩ = some x ∧ w2.cell? ⟨a, 1, none⟩ = some y ∧ w2.cell? ⟨b, 0, none⟩ = some z ∧ w2.cell? ⟨b, 1, none⟩ = some u ∧ w2.cell? ⟨c, 0, none⟩ = some p ∧ w2.cell? ⟨c, 1, none⟩ = some q :=
  ⟨h.1.trans (hb.mono h.1.size), on_some hb h.2.1, on_some hb h.2.2.1, on_some hb h.2.2.2.1, on_some hb h.2.2.2.2.1, on_some hb h.2.2.2.2.2.1, on_some hb h.2.2.2.2.2.2⟩

set_option maxHeartbeats 4000000 in
theorem back_walk (h l v : BitVec 64) (a s : Int) (w : World) (ha : 0 ≤ a) (ha' : a ≤ 255) (hs : 0 ≤ s) (hs' : s ≤ 255) :
    Calls Try.prog 6 #[.agg #[.int .u64 (uv h), .int .u64 (uv l)], .int .u8 a, .int .u8 s, .int .u64 (uv v)] w fun e w' => e = .returned (.bool true) ∧ Below w.heap.size w w' := by
  have g1 : s % 65 < 65 := Int.emod_lt_of_pos _ (by omega)
  have g2 : 0 ≤ s % 65 := Int.emod_nonneg _ (by omega)
  have g3 : a % (129 - s % 65) < 129 - s % 65 := Int.emod_lt_of_pos _ (by omega)
  have g4 : 0 ≤ a % (129 - s % 65) := Int.emod_nonneg _ (by omega)
  go_enter Try.func6, Try.ntmps6
  go_upto_region 3 with (fail)
  generalize s % 65 = ss at *
  generalize a % (129 - ss) = aa at *
  obtain ⟨n, rfl⟩ := Int.eq_ofNat_of_zero_le g2
  obtain ⟨k, rfl⟩ := Int.eq_ofNat_of_zero_le g4
  have hk : k + n ≤ 128 := by omega
  have hn : n ≤ 64 := by omega
  clear g1 g2 g3 g4
  go_upto_if 26 with (fail)
  go_cut [3] (fun x wc => x = .int .u64 (uv (v &&& low n)) ∧ (w.alloc (.cells #[.int .u64 (uv h), .int .u64 (uv l)] 24)) = wc)
  case first =>
    by_cases c : n < 64
    · have c1 : (n : Int) < 64 := by omega
      have c2 := pow_pos n c
      go_wp2
      go_meet
      exact ⟨by rw [Int.tmod_eq_emod_of_nonneg (uv_nonneg v), uv_mod_pow v n c], rfl⟩
    · have c1 : ¬ (n : Int) < 64 := by omega
      obtain rfl : n = 64 := by omega
      go_wp2
      go_meet
      exact ⟨by rw [and_low_64], rfl⟩
  case rest =>
    obtain ⟨rfl, rfl⟩ := hcut
    go_wp2_with fail
    refine (put_c h l k n (v &&& low n) _ hk hn (not_over v n)).mono ?_
    rintro e w1 ⟨rfl, hb1⟩
    have p1 : w1.cell? ⟨w.heap.size, 0, none⟩ = some (.int .u64 (uv h)) := on_some hb1 (by go_simp)
    have p2 : w1.cell? ⟨w.heap.size, 1, none⟩ = some (.int .u64 (uv l)) := on_some hb1 (by go_simp)
    have z1 : w.heap.size < w1.heap.size := by have := hb1.size; simp at this; omega
    have B1 : Below w.heap.size w w1 := ((Below.refl _ w).alloc (Nat.le_refl _) _).trans (hb1.mono (by simp))
    clear hb1
    go_wp2_with fail
    refine (b_get h l v k n _ hk hn).mono ?_
    rintro e w2 ⟨rfl, hb2⟩
    have q1 : w2.cell? ⟨w.heap.size, 0, none⟩ = some (.int .u64 (uv h)) := on_some hb2 (by go_simp)
    have q2 : w2.cell? ⟨w.heap.size, 1, none⟩ = some (.int .u64 (uv l)) := on_some hb2 (by go_simp)
    have q3 : w2.cell? ⟨w1.heap.size, 0, none⟩ = some (.int .u64 (uv (putH h k n (v &&& low n)))) := on_some hb2 (by go_simp)
    have q4 : w2.cell? ⟨w1.heap.size, 1, none⟩ = some (.int .u64 (uv (putL l k n (v &&& low n)))) := on_some hb2 (by go_simp)
    have z2 : w1.heap.size < w2.heap.size := by have := hb2.size; simp at this; omega
    have B2 : Below w.heap.size w w2 := (B1.alloc (by omega) _).trans (hb2.mono (by simp; omega))
    clear hb2 B1 p1 p2
    go_wp2_with fail
    refine (mask_c k n _ hk).mono ?_
    rintro e w3 ⟨rfl, hb3⟩
    have p1 := on_some hb3 q1
    have p2 := on_some hb3 q2
    have p3 := on_some hb3 q3
    have p4 := on_some hb3 q4
    have B3 : Below w.heap.size w w3 := B2.trans (hb3.mono B2.size)
    have z3 : w.heap.size < w3.heap.size := by have := hb3.size; omega
    have z4 : w1.heap.size < w3.heap.size := by have := hb3.size; omega
    clear hb3 B2 q1 q2 q3 q4 z2
    go_wp2_with fail
    go_region_held3 (fun w' => Below (w3.alloc (.cells #[.int .u64 (uv (maskH k n)), .int .u64 (uv (maskL k n))] 24)).heap.size (w3.alloc (.cells #[.int .u64 (uv (maskH k n)), .int .u64 (uv (maskL k n))] 24)) w' ∧ w'.cell? ⟨w.heap.size, 0, none⟩ = some (.int .u64 (uv h)) ∧ w'.cell? ⟨w.heap.size, 1, none⟩ = some (.int .u64 (uv l)) ∧ w'.cell? ⟨w1.heap.size, 0, none⟩ = some (.int .u64 (uv (putH h k n (v &&& low n)))) ∧ w'.cell? ⟨w1.heap.size, 1, none⟩ = some (.int .u64 (uv (putL l k n (v &&& low n)))) ∧ w'.cell? ⟨w3.heap.size, 0, none⟩ = some (.int .u64 (uv (maskH k n))) ∧ w'.cell? ⟨w3.heap.size, 1, none⟩ = some (.int .u64 (uv (maskL k n))))
      (first
        | exact keep6 (by assumption) (by assumption)
        | exact ⟨(Below.refl _ _).drew, by go_simp, by go_simp, by go_simp, by go_simp, by go_simp, by go_simp⟩)
      (first
        | (go_at_call 9; (with_reducible refine (awake_c _).mono ?_); rintro e w' ⟨rfl, hb⟩)
        | (go_at_call 14; (with_reducible refine (b_less h l v k n _ hk hn).mono ?_); rintro e w' ⟨rfl, hb⟩)
        | (go_at_call 14; (with_reducible refine (less_c h l (maskH k n) (maskL k n) _).mono ?_); rintro e w' ⟨rfl, hb⟩)
        | (go_at_call 15; (with_reducible refine (b_ones k n _ hk).mono ?_); rintro e w' ⟨rfl, hb⟩))
    all_goals go_wp2
    all_goals go_ret
    all_goals exact ⟨rfl, (B3.alloc (by omega) _).trans ((And.left (by assumption) : Below _ (w3.alloc (.cells #[.int .u64 (uv (maskH k n)), .int .u64 (uv (maskL k n))] 24)) _).mono (by simp; omega))⟩
end Go.Proofs.Back
