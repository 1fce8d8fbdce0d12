/-
  No cell of these rows narrows 'for every input' (looked for: loops, veiled, ifaces, maps, wideKeys, modest, calm, conditions, laid).
  DERIVED. THE GIVEN ROWS OF THIS SEAT. 5 by the template 'for every input the law returns true; each argument reads behind the call as it read before'; 0 by the template 'total and deterministic' (their statements: YtipkefljicoldaaTotals.lean).
  GIVEN WITH THE SEED: the statements are not yours to turn. If you find one false, say at which input.
  Laid BY PROGRAM, IN A SANDBOX (cutbox-rows.mjs): the forced cells as the released guide's own fill.sh prints them over the translation 6d131f9cfe69f152… (all of the seat's roots in one cut). By AI agents, Wed Nov 11 2026. No macro, syntax, notation, axiom, sorry.
-/
import Derived.Test.YtipkefljicoldaaChecked
import GoSem.Claim
import GoSem.ClaimJoined
import GoSem.ClaimMapViews
import Derived.JoinedTies
import Derived.KernelRfl
namespace Go.Proofs.Ytipkefljicoldaa
/- THE CELL 'sum', in the pinned program and in every row, IS THE sha256 OF THE DUMP (.gsa) THAT YtipkefljicoldaaProg.lean LOADS. Nothing in Lean hashes anything: it is a label: what it is worth is what the hold of that sum in a sandbox is worth. -/
noncomputable def Try.pinned : Pinned := { name := "ytipkefljicoldaa", sum := "6d131f9cfe69f1525e4c053609d96b56e8b33f61f69c6925b7ecb9153414d704", checked := Try.checked }
namespace Rows
def none {H : Type} : Left H := { results := [], args := [] }

/-- 'customhouselaw03.PileHas': WHATEVER THE INPUT: true; the input reads as it did. -/
def pileHasSpec : ChangeSpec := { name := "pileHas", fn := fun _ => fun
  | [d1, d2] => { results := [.lit (.bool true)], args := [d1, d2] }
  | _ => none }
def pileHasRow : OpenClaim := { program := "ytipkefljicoldaa", sum := "6d131f9cfe69f1525e4c053609d96b56e8b33f61f69c6925b7ecb9153414d704", func := "customhouse/customhouselaw03.PileHas", spec := "pileHas", unfollowed := true, recurses := true, apart := false }
def PileHasSaid : Prop := pileHasRow.holds Try.pinned (OpenSpec.ofChange pileHasSpec)

/-- ITS FALSE NEIGHBOUR: 'it returns false'. Refute it at one input. -/
def pileHasWrong : ChangeSpec := { name := "pileHas", fn := fun _ => fun
  | [d1, d2] => { results := [.lit (.bool false)], args := [d1, d2] }
  | _ => none }
def PileHasWrongFalsely : Prop := pileHasRow.holds Try.pinned (OpenSpec.ofChange pileHasWrong)

/-- 'customhouselaw03.PileLean': WHATEVER THE INPUT: true; the input reads as it did. -/
def pileLeanSpec : ChangeSpec := { name := "pileLean", fn := fun _ => fun
  | [d] => { results := [.lit (.bool true)], args := [d] }
  | _ => none }
def pileLeanRow : OpenClaim := { program := "ytipkefljicoldaa", sum := "6d131f9cfe69f1525e4c053609d96b56e8b33f61f69c6925b7ecb9153414d704", func := "customhouse/customhouselaw03.PileLean", spec := "pileLean", unfollowed := true, recurses := true, apart := false }
def PileLeanSaid : Prop := pileLeanRow.holds Try.pinned (OpenSpec.ofChange pileLeanSpec)

/-- ITS FALSE NEIGHBOUR: 'it returns false'. Refute it at one input. -/
def pileLeanWrong : ChangeSpec := { name := "pileLean", fn := fun _ => fun
  | [d] => { results := [.lit (.bool false)], args := [d] }
  | _ => none }
def PileLeanWrongFalsely : Prop := pileLeanRow.holds Try.pinned (OpenSpec.ofChange pileLeanWrong)

/-- 'customhouselaw03.PileJoins': WHATEVER THE INPUT: true; the input reads as it did. -/
def pileJoinsSpec : ChangeSpec := { name := "pileJoins", fn := fun _ => fun
  | [d1, d2] => { results := [.lit (.bool true)], args := [d1, d2] }
  | _ => none }
def pileJoinsRow : OpenClaim := { program := "ytipkefljicoldaa", sum := "6d131f9cfe69f1525e4c053609d96b56e8b33f61f69c6925b7ecb9153414d704", func := "customhouse/customhouselaw03.PileJoins", spec := "pileJoins", unfollowed := true, recurses := true, apart := false }
def PileJoinsSaid : Prop := pileJoinsRow.holds Try.pinned (OpenSpec.ofChange pileJoinsSpec)

/-- ITS FALSE NEIGHBOUR: 'it returns false'. Refute it at one input. -/
def pileJoinsWrong : ChangeSpec := { name := "pileJoins", fn := fun _ => fun
  | [d1, d2] => { results := [.lit (.bool false)], args := [d1, d2] }
  | _ => none }
def PileJoinsWrongFalsely : Prop := pileJoinsRow.holds Try.pinned (OpenSpec.ofChange pileJoinsWrong)

/-- 'customhouselaw03.PileParts': WHATEVER THE INPUT: true; the input reads as it did. -/
def pilePartsSpec : ChangeSpec := { name := "pileParts", fn := fun _ => fun
  | [d1, d2, d3] => { results := [.lit (.bool true)], args := [d1, d2, d3] }
  | _ => none }
def pilePartsRow : OpenClaim := { program := "ytipkefljicoldaa", sum := "6d131f9cfe69f1525e4c053609d96b56e8b33f61f69c6925b7ecb9153414d704", func := "customhouse/customhouselaw03.PileParts", spec := "pileParts", unfollowed := true, recurses := true, apart := false }
def PilePartsSaid : Prop := pilePartsRow.holds Try.pinned (OpenSpec.ofChange pilePartsSpec)

/-- ITS FALSE NEIGHBOUR: 'it returns false'. Refute it at one input. -/
def pilePartsWrong : ChangeSpec := { name := "pileParts", fn := fun _ => fun
  | [d1, d2, d3] => { results := [.lit (.bool false)], args := [d1, d2, d3] }
  | _ => none }
def PilePartsWrongFalsely : Prop := pilePartsRow.holds Try.pinned (OpenSpec.ofChange pilePartsWrong)

/-- 'customhouselaw03.PileOnce': WHATEVER THE INPUT: true; the input reads as it did. -/
def pileOnceSpec : ChangeSpec := { name := "pileOnce", fn := fun _ => fun
  | [d1, d2] => { results := [.lit (.bool true)], args := [d1, d2] }
  | _ => none }
def pileOnceRow : OpenClaim := { program := "ytipkefljicoldaa", sum := "6d131f9cfe69f1525e4c053609d96b56e8b33f61f69c6925b7ecb9153414d704", func := "customhouse/customhouselaw03.PileOnce", spec := "pileOnce", unfollowed := true, recurses := true, apart := false }
def PileOnceSaid : Prop := pileOnceRow.holds Try.pinned (OpenSpec.ofChange pileOnceSpec)

/-- ITS FALSE NEIGHBOUR: 'it returns false'. Refute it at one input. -/
def pileOnceWrong : ChangeSpec := { name := "pileOnce", fn := fun _ => fun
  | [d1, d2] => { results := [.lit (.bool false)], args := [d1, d2] }
  | _ => none }
def PileOnceWrongFalsely : Prop := pileOnceRow.holds Try.pinned (OpenSpec.ofChange pileOnceWrong)

/- THE SECOND FORM. 'bulk': how many values and letters a reading holds, each counted each time it is reached (what is shared counts as often as it is met; a slice's spare places count too). A statement '..UptoSaid' is the law's where the arguments, and the package variables that the reading takes, are together of bulk at most 1048576: NARROWER than '..Said'. Prove '..Said' where nothing that the law and all that it calls make is longer than what came in: it says more and counts as full. Else prove '..UptoSaid'. A law counts once. -/
mutual
def uptoBulk {H : Type} : DataW H → Nat
  | .lit (.string bytes) => bytes.length + 1
  | .lit _ => 1
  | .nil => 1
  | .ptr d => uptoBulk d + 1
  | .slice elems spare => uptoBulkAll elems + uptoBulkAll spare + 1
  | .agg parts => uptoBulkAll parts + 1
  | .iface _ d => uptoBulk d + 1
  | .map entries => uptoBulkEntries entries + 1
  | .held _ => 1
def uptoBulkAll {H : Type} : List (DataW H) → Nat
  | [] => 0
  | d :: r => uptoBulk d + uptoBulkAll r
def uptoBulkEntries {H : Type} : List (Lit × DataW H) → Nat
  | [] => 0
  | x :: r => uptoBulkEntry x + uptoBulkEntries r
def uptoBulkEntry {H : Type} : Lit × DataW H → Nat
  | (.string bytes, d) => bytes.length + uptoBulk d + 1
  | (_, d) => uptoBulk d + 1
 end
def uptoSmall : (H : Type) → List (DataW H) → Bool := fun _ ds => decide (uptoBulkAll ds ≤ 1048576)
def OpenSpec.upto (s : _root_.Go.ChangeSpec) : _root_.Go.OpenSpec := { _root_.Go.OpenSpec.ofChange s with cond := some uptoSmall }

/-- 'customhouselaw03.PileHas', WHERE WHAT IT READS IS OF BULK AT MOST 1048576: true; the input reads as it did. -/
def pileHasUptoRow : OpenClaim := { program := "ytipkefljicoldaa", sum := "6d131f9cfe69f1525e4c053609d96b56e8b33f61f69c6925b7ecb9153414d704", func := "customhouse/customhouselaw03.PileHas", spec := "pileHas", unfollowed := true, recurses := true, apart := false, narrowed := true }
def PileHasUptoSaid : Prop := pileHasUptoRow.holds Try.pinned (OpenSpec.upto pileHasSpec)

/-- 'customhouselaw03.PileLean', WHERE WHAT IT READS IS OF BULK AT MOST 1048576: true; the input reads as it did. -/
def pileLeanUptoRow : OpenClaim := { program := "ytipkefljicoldaa", sum := "6d131f9cfe69f1525e4c053609d96b56e8b33f61f69c6925b7ecb9153414d704", func := "customhouse/customhouselaw03.PileLean", spec := "pileLean", unfollowed := true, recurses := true, apart := false, narrowed := true }
def PileLeanUptoSaid : Prop := pileLeanUptoRow.holds Try.pinned (OpenSpec.upto pileLeanSpec)

/-- 'customhouselaw03.PileJoins', WHERE WHAT IT READS IS OF BULK AT MOST 1048576: true; the input reads as it did. -/
def pileJoinsUptoRow : OpenClaim := { program := "ytipkefljicoldaa", sum := "6d131f9cfe69f1525e4c053609d96b56e8b33f61f69c6925b7ecb9153414d704", func := "customhouse/customhouselaw03.PileJoins", spec := "pileJoins", unfollowed := true, recurses := true, apart := false, narrowed := true }
def PileJoinsUptoSaid : Prop := pileJoinsUptoRow.holds Try.pinned (OpenSpec.upto pileJoinsSpec)

/-- 'customhouselaw03.PileParts', WHERE WHAT IT READS IS OF BULK AT MOST 1048576: true; the input reads as it did. -/
def pilePartsUptoRow : OpenClaim := { program := "ytipkefljicoldaa", sum := "6d131f9cfe69f1525e4c053609d96b56e8b33f61f69c6925b7ecb9153414d704", func := "customhouse/customhouselaw03.PileParts", spec := "pileParts", unfollowed := true, recurses := true, apart := false, narrowed := true }
def PilePartsUptoSaid : Prop := pilePartsUptoRow.holds Try.pinned (OpenSpec.upto pilePartsSpec)

/-- 'customhouselaw03.PileOnce', WHERE WHAT IT READS IS OF BULK AT MOST 1048576: true; the input reads as it did. -/
def pileOnceUptoRow : OpenClaim := { program := "ytipkefljicoldaa", sum := "6d131f9cfe69f1525e4c053609d96b56e8b33f61f69c6925b7ecb9153414d704", func := "customhouse/customhouselaw03.PileOnce", spec := "pileOnce", unfollowed := true, recurses := true, apart := false, narrowed := true }
def PileOnceUptoSaid : Prop := pileOnceUptoRow.holds Try.pinned (OpenSpec.upto pileOnceSpec)

end Rows
end Go.Proofs.Ytipkefljicoldaa
