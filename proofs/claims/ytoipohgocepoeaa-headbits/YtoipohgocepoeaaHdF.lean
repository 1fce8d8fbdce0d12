/-
  The function awake of the laws of layer 1 returns true. No conditions.
-/
import Derived.Test.YtoipohgocepoeaaHdE
namespace Go.Proofs
open Go.RowKit Go.Proofs.Hd

theorem cell_on {W w1 : World} {b o : Nat} {v : Option Value} (hb : Below W.heap.size W w1) (h : W.cell? ⟨b, o, none⟩ = v) (hl : b < W.heap.size) : w1.cell? ⟨b, o, none⟩ = v := (hb.cell (p := ⟨b, o, none⟩) hl).trans h

set_option maxHeartbeats 1000000 in
theorem awake_c (w : World) : Calls Try.prog 9 #[] w fun e w' => e = .returned (.bool true) ∧ Below w.heap.size w w' := by
  go_enter Try.func9, Try.ntmps9
  go_wp2_with fail
  refine (kput _).mono ?_
  rintro e w1 ⟨rfl, hb1⟩
  go_wp2_with fail
  refine (kget _).mono ?_
  rintro e w2 ⟨rfl, hb2⟩
  have q1 : w2.cell? ⟨w1.heap.size, 0, none⟩ = some (.int .u64 10) := cell_on hb2 (by go_simp) (by go_simp)
  have q2 : w2.cell? ⟨w1.heap.size, 1, none⟩ = some (.int .u64 5764607523034234880) := cell_on hb2 (by go_simp) (by go_simp)
  have z2 : w1.heap.size < w2.heap.size := by have := hb2.size; simp at this; omega
  go_wp2_with fail
  refine (kmask _).mono ?_
  rintro e w3 ⟨rfl, hb3⟩
  have r1 := cell_on hb3 q1 z2
  have r2 := cell_on hb3 q2 z2
  have z3 : w1.heap.size < w3.heap.size := by have := hb3.size; omega
  have B3 : Below w.heap.size w w3 := (((hb1.alloc hb1.size _).trans (hb2.mono (by have := hb1.size; simp; omega)))).trans (hb3.mono (by have := hb1.size; omega))
  have s3 : w.heap.size ≤ w3.heap.size := B3.size
  clear q1 q2 z2 hb1 hb2 hb3
  go_wp2_with fail
  refine (kones _).mono ?_
  rintro e w4 ⟨rfl, hb4⟩
  have q1 : w4.cell? ⟨w1.heap.size, 0, none⟩ = some (.int .u64 10) := cell_on hb4 (by go_simp) (by go_simp <;> omega)
  have q2 : w4.cell? ⟨w1.heap.size, 1, none⟩ = some (.int .u64 5764607523034234880) := cell_on hb4 (by go_simp) (by go_simp <;> omega)
  have q3 : w4.cell? ⟨w3.heap.size, 0, none⟩ = some (.int .u64 1) := cell_on hb4 (by go_simp) (by go_simp <;> omega)
  have q4 : w4.cell? ⟨w3.heap.size, 1, none⟩ = some (.int .u64 9223372036854775808) := cell_on hb4 (by go_simp) (by go_simp <;> omega)
  have B4 : Below w.heap.size w w4 := (B3.alloc s3 _).trans (hb4.mono (by simp; omega))
  have z4 : w3.heap.size < w4.heap.size := by have := hb4.size; simp at this; omega
  clear r1 r2 B3 hb4
  go_wp2_with fail
  refine (kbit _).mono ?_
  rintro e w5 ⟨rfl, hb5⟩
  have r1 := cell_on hb5 q1 (by omega)
  have r2 := cell_on hb5 q2 (by omega)
  have r3 := cell_on hb5 q3 (by omega)
  have r4 := cell_on hb5 q4 (by omega)
  have B5 : Below w.heap.size w w5 := B4.trans (hb5.mono (by omega))
  clear q1 q2 q3 q4 B4 hb5
  go_wp2_with fail
  refine (kcompare _).mono ?_
  rintro e w6 ⟨rfl, hb6⟩
  have B6 : Below w.heap.size w w6 := B5.trans (hb6.mono B5.size)
  go_wp2
  go_ret
  exact ⟨rfl, B6⟩

end Go.Proofs
