/-
  The function awake of the laws of layer 1 returns true. No conditions.
-/
import Derived.Test.YtlhbkiobgppciaaHdE
namespace Go.Proofs
open Go.RowKit Go.Proofs.Hd

theorem cell_on {W w1 : World} {b o : Nat} {v : Option Value} (hb : Below W.heap.size W w1) (h : W.cell? ⟨b, o, none⟩ = v) (hl : b < W.heap.size) : w1.cell? ⟨b, o, none⟩ = v := (hb.cell (p := ⟨b, o, none⟩) hl).trans h

end Go.Proofs
