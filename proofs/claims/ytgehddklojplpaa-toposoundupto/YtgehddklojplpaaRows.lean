/-
  No cell of these rows narrows 'for every input' (looked for: loops, veiled, ifaces, maps, wideKeys, modest, calm, conditions, laid).
  DERIVED. THE GIVEN ROWS OF THIS SEAT. 5 by the template 'for every input the law returns true; each argument reads behind the call as it read before'; 0 by the template 'total and deterministic' (their statements: YtgehddklojplpaaTotals.lean).
  GIVEN WITH THE SEED: the statements are not yours to turn. If you find one false, say at which input.
  Laid BY PROGRAM, IN A SANDBOX (cutbox-rows.mjs): the forced cells as the released guide's own fill.sh prints them over the translation 7503b964a2ea81a8… (all of the seat's roots in one cut). By AI agents, Wed Nov 11 2026. No macro, syntax, notation, axiom, sorry.
-/
import Derived.Test.YtgehddklojplpaaChecked
import GoSem.Claim
import GoSem.ClaimJoined
import GoSem.ClaimMapViews
import Derived.JoinedTies
import Derived.KernelRfl
namespace Go.Proofs.Ytgehddklojplpaa
/- THE CELL 'sum', in the pinned program and in every row, IS THE sha256 OF THE DUMP (.gsa) THAT YtgehddklojplpaaProg.lean LOADS. Nothing in Lean hashes anything: it is a label: what it is worth is what the hold of that sum in a sandbox is worth. -/
noncomputable def Try.pinned : Pinned := { name := "ytgehddklojplpaa", sum := "7503b964a2ea81a8b721099832f0ba12113d998f7e7b2ace890409669031021b", checked := Try.checked }
namespace Rows
def none {H : Type} : Left H := { results := [], args := [] }

/-- 'customhouselaw07.TopoSound': WHATEVER THE INPUT: true; the input reads as it did. -/
def topoSoundSpec : ChangeSpec := { name := "topoSound", fn := fun _ => fun
  | [d1, d2] => { results := [.lit (.bool true)], args := [d1, d2] }
  | _ => none }
def topoSoundRow : OpenClaim := { program := "ytgehddklojplpaa", sum := "7503b964a2ea81a8b721099832f0ba12113d998f7e7b2ace890409669031021b", func := "customhouse/customhouselaw07.TopoSound", spec := "topoSound", unfollowed := true, recurses := true, apart := false }
def TopoSoundSaid : Prop := topoSoundRow.holds Try.pinned (OpenSpec.ofChange topoSoundSpec)

/-- ITS FALSE NEIGHBOUR: 'it returns false'. Refute it at one input. -/
def topoSoundWrong : ChangeSpec := { name := "topoSound", fn := fun _ => fun
  | [d1, d2] => { results := [.lit (.bool false)], args := [d1, d2] }
  | _ => none }
def TopoSoundWrongFalsely : Prop := topoSoundRow.holds Try.pinned (OpenSpec.ofChange topoSoundWrong)

/-- 'customhouselaw07.TopoFar': WHATEVER THE INPUT: true; the input reads as it did. -/
def topoFarSpec : ChangeSpec := { name := "topoFar", fn := fun _ => fun
  | [d1, d2] => { results := [.lit (.bool true)], args := [d1, d2] }
  | _ => none }
def topoFarRow : OpenClaim := { program := "ytgehddklojplpaa", sum := "7503b964a2ea81a8b721099832f0ba12113d998f7e7b2ace890409669031021b", func := "customhouse/customhouselaw07.TopoFar", spec := "topoFar", unfollowed := true, recurses := true, apart := false }
def TopoFarSaid : Prop := topoFarRow.holds Try.pinned (OpenSpec.ofChange topoFarSpec)

/-- ITS FALSE NEIGHBOUR: 'it returns false'. Refute it at one input. -/
def topoFarWrong : ChangeSpec := { name := "topoFar", fn := fun _ => fun
  | [d1, d2] => { results := [.lit (.bool false)], args := [d1, d2] }
  | _ => none }
def TopoFarWrongFalsely : Prop := topoFarRow.holds Try.pinned (OpenSpec.ofChange topoFarWrong)

/-- 'customhouselaw07.TopoNext': WHATEVER THE INPUT: true; the input reads as it did. -/
def topoNextSpec : ChangeSpec := { name := "topoNext", fn := fun _ => fun
  | [d1, d2, d3] => { results := [.lit (.bool true)], args := [d1, d2, d3] }
  | _ => none }
def topoNextRow : OpenClaim := { program := "ytgehddklojplpaa", sum := "7503b964a2ea81a8b721099832f0ba12113d998f7e7b2ace890409669031021b", func := "customhouse/customhouselaw07.TopoNext", spec := "topoNext", unfollowed := true, recurses := true, apart := false }
def TopoNextSaid : Prop := topoNextRow.holds Try.pinned (OpenSpec.ofChange topoNextSpec)

/-- ITS FALSE NEIGHBOUR: 'it returns false'. Refute it at one input. -/
def topoNextWrong : ChangeSpec := { name := "topoNext", fn := fun _ => fun
  | [d1, d2, d3] => { results := [.lit (.bool false)], args := [d1, d2, d3] }
  | _ => none }
def TopoNextWrongFalsely : Prop := topoNextRow.holds Try.pinned (OpenSpec.ofChange topoNextWrong)

/-- 'customhouselaw07.TopoWays': WHATEVER THE INPUT: true; the input reads as it did. -/
def topoWaysSpec : ChangeSpec := { name := "topoWays", fn := fun _ => fun
  | [d1, d2, d3] => { results := [.lit (.bool true)], args := [d1, d2, d3] }
  | _ => none }
def topoWaysRow : OpenClaim := { program := "ytgehddklojplpaa", sum := "7503b964a2ea81a8b721099832f0ba12113d998f7e7b2ace890409669031021b", func := "customhouse/customhouselaw07.TopoWays", spec := "topoWays", unfollowed := true, recurses := true, apart := false }
def TopoWaysSaid : Prop := topoWaysRow.holds Try.pinned (OpenSpec.ofChange topoWaysSpec)

/-- ITS FALSE NEIGHBOUR: 'it returns false'. Refute it at one input. -/
def topoWaysWrong : ChangeSpec := { name := "topoWays", fn := fun _ => fun
  | [d1, d2, d3] => { results := [.lit (.bool false)], args := [d1, d2, d3] }
  | _ => none }
def TopoWaysWrongFalsely : Prop := topoWaysRow.holds Try.pinned (OpenSpec.ofChange topoWaysWrong)

/-- 'customhouselaw07.TopoOver': WHATEVER THE INPUT: true; the input reads as it did. -/
def topoOverSpec : ChangeSpec := { name := "topoOver", fn := fun _ => fun
  | [d1, d2, d3, d4] => { results := [.lit (.bool true)], args := [d1, d2, d3, d4] }
  | _ => none }
def topoOverRow : OpenClaim := { program := "ytgehddklojplpaa", sum := "7503b964a2ea81a8b721099832f0ba12113d998f7e7b2ace890409669031021b", func := "customhouse/customhouselaw07.TopoOver", spec := "topoOver", unfollowed := true, recurses := true, apart := false }
def TopoOverSaid : Prop := topoOverRow.holds Try.pinned (OpenSpec.ofChange topoOverSpec)

/-- ITS FALSE NEIGHBOUR: 'it returns false'. Refute it at one input. -/
def topoOverWrong : ChangeSpec := { name := "topoOver", fn := fun _ => fun
  | [d1, d2, d3, d4] => { results := [.lit (.bool false)], args := [d1, d2, d3, d4] }
  | _ => none }
def TopoOverWrongFalsely : Prop := topoOverRow.holds Try.pinned (OpenSpec.ofChange topoOverWrong)

/- THE SECOND FORM. 'bulk': how many values and letters a reading holds, each counted each time it is reached (what is shared counts as often as it is met; a slice's spare places count too). A statement '..UptoSaid' is the law's where the arguments, and the package variables that the reading takes, are together of bulk at most 1048576: NARROWER than '..Said'. Prove '..Said' where nothing that the law and all that it calls make is longer than what came in: it says more and counts as full. Else prove '..UptoSaid'. A law counts once. -/
mutual
def uptoBulk {H : Type} : DataW H → Nat
  | .lit (.string bytes) => bytes.length + 1
  | .lit _ => 1
  | .nil => 1
  | .ptr d => uptoBulk d + 1
  | .slice elems spare => uptoBulkAll elems + uptoBulkAll spare + 1
  | .agg parts => uptoBulkAll parts + 1
  | .iface _ d => uptoBulk d + 1
  | .map entries => uptoBulkEntries entries + 1
  | .held _ => 1
def uptoBulkAll {H : Type} : List (DataW H) → Nat
  | [] => 0
  | d :: r => uptoBulk d + uptoBulkAll r
def uptoBulkEntries {H : Type} : List (Lit × DataW H) → Nat
  | [] => 0
  | x :: r => uptoBulkEntry x + uptoBulkEntries r
def uptoBulkEntry {H : Type} : Lit × DataW H → Nat
  | (.string bytes, d) => bytes.length + uptoBulk d + 1
  | (_, d) => uptoBulk d + 1
 end
def uptoSmall : (H : Type) → List (DataW H) → Bool := fun _ ds => decide (uptoBulkAll ds ≤ 1048576)
def OpenSpec.upto (s : _root_.Go.ChangeSpec) : _root_.Go.OpenSpec := { _root_.Go.OpenSpec.ofChange s with cond := some uptoSmall }

/-- 'customhouselaw07.TopoSound', WHERE WHAT IT READS IS OF BULK AT MOST 1048576: true; the input reads as it did. -/
def topoSoundUptoRow : OpenClaim := { program := "ytgehddklojplpaa", sum := "7503b964a2ea81a8b721099832f0ba12113d998f7e7b2ace890409669031021b", func := "customhouse/customhouselaw07.TopoSound", spec := "topoSound", unfollowed := true, recurses := true, apart := false, narrowed := true }
def TopoSoundUptoSaid : Prop := topoSoundUptoRow.holds Try.pinned (OpenSpec.upto topoSoundSpec)

/-- 'customhouselaw07.TopoFar', WHERE WHAT IT READS IS OF BULK AT MOST 1048576: true; the input reads as it did. -/
def topoFarUptoRow : OpenClaim := { program := "ytgehddklojplpaa", sum := "7503b964a2ea81a8b721099832f0ba12113d998f7e7b2ace890409669031021b", func := "customhouse/customhouselaw07.TopoFar", spec := "topoFar", unfollowed := true, recurses := true, apart := false, narrowed := true }
def TopoFarUptoSaid : Prop := topoFarUptoRow.holds Try.pinned (OpenSpec.upto topoFarSpec)

/-- 'customhouselaw07.TopoNext', WHERE WHAT IT READS IS OF BULK AT MOST 1048576: true; the input reads as it did. -/
def topoNextUptoRow : OpenClaim := { program := "ytgehddklojplpaa", sum := "7503b964a2ea81a8b721099832f0ba12113d998f7e7b2ace890409669031021b", func := "customhouse/customhouselaw07.TopoNext", spec := "topoNext", unfollowed := true, recurses := true, apart := false, narrowed := true }
def TopoNextUptoSaid : Prop := topoNextUptoRow.holds Try.pinned (OpenSpec.upto topoNextSpec)

/-- 'customhouselaw07.TopoWays', WHERE WHAT IT READS IS OF BULK AT MOST 1048576: true; the input reads as it did. -/
def topoWaysUptoRow : OpenClaim := { program := "ytgehddklojplpaa", sum := "7503b964a2ea81a8b721099832f0ba12113d998f7e7b2ace890409669031021b", func := "customhouse/customhouselaw07.TopoWays", spec := "topoWays", unfollowed := true, recurses := true, apart := false, narrowed := true }
def TopoWaysUptoSaid : Prop := topoWaysUptoRow.holds Try.pinned (OpenSpec.upto topoWaysSpec)

/-- 'customhouselaw07.TopoOver', WHERE WHAT IT READS IS OF BULK AT MOST 1048576: true; the input reads as it did. -/
def topoOverUptoRow : OpenClaim := { program := "ytgehddklojplpaa", sum := "7503b964a2ea81a8b721099832f0ba12113d998f7e7b2ace890409669031021b", func := "customhouse/customhouselaw07.TopoOver", spec := "topoOver", unfollowed := true, recurses := true, apart := false, narrowed := true }
def TopoOverUptoSaid : Prop := topoOverUptoRow.holds Try.pinned (OpenSpec.upto topoOverSpec)

end Rows
end Go.Proofs.Ytgehddklojplpaa
