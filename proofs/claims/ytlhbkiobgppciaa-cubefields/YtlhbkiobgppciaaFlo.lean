/-
  Plain facts on arrays of 128 bools that a statement makes in whatever order: that they are there, and what they hold. No conditions.
-/
import Derived.Test.YtlhbkiobgppciaaRefB
import Derived.Test.YtlhbkiobgppciaaHold
import Derived.Test.YtlhbkiobgppciaaCuA
namespace Go.Proofs
open Go.RowKit Go.Proofs.Hd
theorem fl_lt {w : World} {b : Nat} (h : w.there b 0 128) : b < w.heap.size := by
  have := (h 0 (by omega)).1
  obtain ⟨u, hu⟩ := Option.isSome_iff_exists.1 this
  exact World.block_lt_of_cell? w ⟨b, 0 + 0, none⟩ hu
/-- An array of 128 cells is there in block b, at or behind block B; it is no block that is made later. -/
def Th (B : Nat) (w : World) (b : Nat) : Prop := w.there b 0 128 ∧ B ≤ b
theorem Th.on {B b : Nat} {W w' : World} (h : Th B W b) (hb : Below W.heap.size W w') : Th B w' b := ⟨there_below hb h.1 (fl_lt h.1), h.2⟩
theorem Th.top {B : Nat} (X : World) (b : Nat) (hb : b = X.heap.size) (h : B ≤ X.heap.size) : Th B (X.alloc (.cells (bl (fun _ => false)).toArray 43)) b := by
  subst hb; exact ⟨there_of_alloc X _ 43, h⟩
theorem Th.alloc {B b : Nat} {W : World} (h : Th B W b) (o : Obj) : Th B (W.alloc o) b := ⟨World.there_alloc h.1 o, h.2⟩
theorem Th.drew {B b : Nat} {W : World} (h : Th B W b) : Th B W.drew b := h
theorem Th.set {B b : Nat} {W : World} (h : Th B W b) (c : Nat) (vs : List Value) : Th B (W.setCells c 0 vs) b := ⟨World.there_setCells h.1 c 0 vs, h.2⟩
theorem Th.ne {B b : Nat} {W : World} (h : Th B W b) : b ≠ W.heap.size := Nat.ne_of_lt (fl_lt h.1)
theorem rows2 {V : World} {b c : Nat} (f g : Nat → Bool) (h1 : V.there b 0 128) (h2 : V.there c 0 128) (hne : b ≠ c) :
    ((V.setCells b 0 (bl f)).setCells c 0 (bl g)).rangeAt b 0 (bl f) ∧ ((V.setCells b 0 (bl f)).setCells c 0 (bl g)).rangeAt c 0 (bl g) :=
  ⟨World.rangeAt_setCells_apart (World.rangeAt_setCells_same V b 0 (bl f) (by rw [bl_len]; exact h1)) c 0 (bl g) (Or.inl hne),
   World.rangeAt_setCells_same _ c 0 (bl g) (by rw [bl_len]; exact World.there_setCells h2 b 0 (bl f))⟩
end Go.Proofs
