/-
  No cell of these rows narrows 'for every input' (looked for: loops, veiled, ifaces, maps, wideKeys, modest, calm, conditions, laid).
  DERIVED. THE GIVEN ROWS OF THIS SEAT. 5 by the template 'for every input the law returns true; each argument reads behind the call as it read before'; 0 by the template 'total and deterministic' (their statements: YtgoenjpllepdjaaTotals.lean).
  GIVEN WITH THE SEED: the statements are not yours to turn. If you find one false, say at which input.
  Laid BY PROGRAM, IN A SANDBOX (cutbox-rows.mjs): the forced cells as the released guide's own fill.sh prints them over the translation 81d94c893871ce02… (all of the seat's roots in one cut). By AI agents, Wed Nov 11 2026. No macro, syntax, notation, axiom, sorry.
-/
import Derived.Test.YtgoenjpllepdjaaChecked
import GoSem.Claim
import GoSem.ClaimJoined
import GoSem.ClaimMapViews
import Derived.JoinedTies
import Derived.KernelRfl
namespace Go.Proofs.Ytgoenjpllepdjaa
/- THE CELL 'sum', in the pinned program and in every row, IS THE sha256 OF THE DUMP (.gsa) THAT YtgoenjpllepdjaaProg.lean LOADS. Nothing in Lean hashes anything: it is a label: what it is worth is what the hold of that sum in a sandbox is worth. -/
noncomputable def Try.pinned : Pinned := { name := "ytgoenjpllepdjaa", sum := "81d94c893871ce0232fcbf01b2db34544b3c3d90ba9b8409f0bd9955c27e662e", checked := Try.checked }
namespace Rows
def none {H : Type} : Left H := { results := [], args := [] }

/-- 'customhouselaw09.WalkOnes': WHATEVER THE INPUT: true; the input reads as it did. -/
def walkOnesSpec : ChangeSpec := { name := "walkOnes", fn := fun _ => fun
  | [d1, d2, d3] => { results := [.lit (.bool true)], args := [d1, d2, d3] }
  | _ => none }
def walkOnesRow : OpenClaim := { program := "ytgoenjpllepdjaa", sum := "81d94c893871ce0232fcbf01b2db34544b3c3d90ba9b8409f0bd9955c27e662e", func := "customhouse/customhouselaw09.WalkOnes", spec := "walkOnes", unfollowed := true, recurses := true, apart := false }
def WalkOnesSaid : Prop := walkOnesRow.holds Try.pinned (OpenSpec.ofChange walkOnesSpec)

/-- ITS FALSE NEIGHBOUR: 'it returns false'. Refute it at one input. -/
def walkOnesWrong : ChangeSpec := { name := "walkOnes", fn := fun _ => fun
  | [d1, d2, d3] => { results := [.lit (.bool false)], args := [d1, d2, d3] }
  | _ => none }
def WalkOnesWrongFalsely : Prop := walkOnesRow.holds Try.pinned (OpenSpec.ofChange walkOnesWrong)

/-- 'customhouselaw09.WalkRuns': WHATEVER THE INPUT: true; the input reads as it did. -/
def walkRunsSpec : ChangeSpec := { name := "walkRuns", fn := fun _ => fun
  | [d1, d2, d3, d4] => { results := [.lit (.bool true)], args := [d1, d2, d3, d4] }
  | _ => none }
def walkRunsRow : OpenClaim := { program := "ytgoenjpllepdjaa", sum := "81d94c893871ce0232fcbf01b2db34544b3c3d90ba9b8409f0bd9955c27e662e", func := "customhouse/customhouselaw09.WalkRuns", spec := "walkRuns", unfollowed := true, recurses := true, apart := false }
def WalkRunsSaid : Prop := walkRunsRow.holds Try.pinned (OpenSpec.ofChange walkRunsSpec)

/-- ITS FALSE NEIGHBOUR: 'it returns false'. Refute it at one input. -/
def walkRunsWrong : ChangeSpec := { name := "walkRuns", fn := fun _ => fun
  | [d1, d2, d3, d4] => { results := [.lit (.bool false)], args := [d1, d2, d3, d4] }
  | _ => none }
def WalkRunsWrongFalsely : Prop := walkRunsRow.holds Try.pinned (OpenSpec.ofChange walkRunsWrong)

/-- 'customhouselaw09.WalkPassed': WHATEVER THE INPUT: true; the input reads as it did. -/
def walkPassedSpec : ChangeSpec := { name := "walkPassed", fn := fun _ => fun
  | [d1, d2] => { results := [.lit (.bool true)], args := [d1, d2] }
  | _ => none }
def walkPassedRow : OpenClaim := { program := "ytgoenjpllepdjaa", sum := "81d94c893871ce0232fcbf01b2db34544b3c3d90ba9b8409f0bd9955c27e662e", func := "customhouse/customhouselaw09.WalkPassed", spec := "walkPassed", unfollowed := true, recurses := true, apart := false }
def WalkPassedSaid : Prop := walkPassedRow.holds Try.pinned (OpenSpec.ofChange walkPassedSpec)

/-- ITS FALSE NEIGHBOUR: 'it returns false'. Refute it at one input. -/
def walkPassedWrong : ChangeSpec := { name := "walkPassed", fn := fun _ => fun
  | [d1, d2] => { results := [.lit (.bool false)], args := [d1, d2] }
  | _ => none }
def WalkPassedWrongFalsely : Prop := walkPassedRow.holds Try.pinned (OpenSpec.ofChange walkPassedWrong)

/-- 'customhouselaw09.WalkSame': WHATEVER THE INPUT: true; the input reads as it did. -/
def walkSameSpec : ChangeSpec := { name := "walkSame", fn := fun _ => fun
  | [d1, d2, d3, d4, d5] => { results := [.lit (.bool true)], args := [d1, d2, d3, d4, d5] }
  | _ => none }
def walkSameRow : OpenClaim := { program := "ytgoenjpllepdjaa", sum := "81d94c893871ce0232fcbf01b2db34544b3c3d90ba9b8409f0bd9955c27e662e", func := "customhouse/customhouselaw09.WalkSame", spec := "walkSame", unfollowed := true, recurses := true, apart := false }
def WalkSameSaid : Prop := walkSameRow.holds Try.pinned (OpenSpec.ofChange walkSameSpec)

/-- ITS FALSE NEIGHBOUR: 'it returns false'. Refute it at one input. -/
def walkSameWrong : ChangeSpec := { name := "walkSame", fn := fun _ => fun
  | [d1, d2, d3, d4, d5] => { results := [.lit (.bool false)], args := [d1, d2, d3, d4, d5] }
  | _ => none }
def WalkSameWrongFalsely : Prop := walkSameRow.holds Try.pinned (OpenSpec.ofChange walkSameWrong)

/-- 'customhouselaw09.WalkSteps': WHATEVER THE INPUT: true; the input reads as it did. -/
def walkStepsSpec : ChangeSpec := { name := "walkSteps", fn := fun _ => fun
  | [d1, d2, d3, d4] => { results := [.lit (.bool true)], args := [d1, d2, d3, d4] }
  | _ => none }
def walkStepsRow : OpenClaim := { program := "ytgoenjpllepdjaa", sum := "81d94c893871ce0232fcbf01b2db34544b3c3d90ba9b8409f0bd9955c27e662e", func := "customhouse/customhouselaw09.WalkSteps", spec := "walkSteps", unfollowed := true, recurses := true, apart := false }
def WalkStepsSaid : Prop := walkStepsRow.holds Try.pinned (OpenSpec.ofChange walkStepsSpec)

/-- ITS FALSE NEIGHBOUR: 'it returns false'. Refute it at one input. -/
def walkStepsWrong : ChangeSpec := { name := "walkSteps", fn := fun _ => fun
  | [d1, d2, d3, d4] => { results := [.lit (.bool false)], args := [d1, d2, d3, d4] }
  | _ => none }
def WalkStepsWrongFalsely : Prop := walkStepsRow.holds Try.pinned (OpenSpec.ofChange walkStepsWrong)

/- THE SECOND FORM. 'bulk': how many values and letters a reading holds, each counted each time it is reached (what is shared counts as often as it is met; a slice's spare places count too). A statement '..UptoSaid' is the law's where the arguments, and the package variables that the reading takes, are together of bulk at most 1048576: NARROWER than '..Said'. Prove '..Said' where nothing that the law and all that it calls make is longer than what came in: it says more and counts as full. Else prove '..UptoSaid'. A law counts once. -/
mutual
def uptoBulk {H : Type} : DataW H → Nat
  | .lit (.string bytes) => bytes.length + 1
  | .lit _ => 1
  | .nil => 1
  | .ptr d => uptoBulk d + 1
  | .slice elems spare => uptoBulkAll elems + uptoBulkAll spare + 1
  | .agg parts => uptoBulkAll parts + 1
  | .iface _ d => uptoBulk d + 1
  | .map entries => uptoBulkEntries entries + 1
  | .held _ => 1
def uptoBulkAll {H : Type} : List (DataW H) → Nat
  | [] => 0
  | d :: r => uptoBulk d + uptoBulkAll r
def uptoBulkEntries {H : Type} : List (Lit × DataW H) → Nat
  | [] => 0
  | x :: r => uptoBulkEntry x + uptoBulkEntries r
def uptoBulkEntry {H : Type} : Lit × DataW H → Nat
  | (.string bytes, d) => bytes.length + uptoBulk d + 1
  | (_, d) => uptoBulk d + 1
 end
def uptoSmall : (H : Type) → List (DataW H) → Bool := fun _ ds => decide (uptoBulkAll ds ≤ 1048576)
def OpenSpec.upto (s : _root_.Go.ChangeSpec) : _root_.Go.OpenSpec := { _root_.Go.OpenSpec.ofChange s with cond := some uptoSmall }

/-- 'customhouselaw09.WalkOnes', WHERE WHAT IT READS IS OF BULK AT MOST 1048576: true; the input reads as it did. -/
def walkOnesUptoRow : OpenClaim := { program := "ytgoenjpllepdjaa", sum := "81d94c893871ce0232fcbf01b2db34544b3c3d90ba9b8409f0bd9955c27e662e", func := "customhouse/customhouselaw09.WalkOnes", spec := "walkOnes", unfollowed := true, recurses := true, apart := false, narrowed := true }
def WalkOnesUptoSaid : Prop := walkOnesUptoRow.holds Try.pinned (OpenSpec.upto walkOnesSpec)

/-- 'customhouselaw09.WalkRuns', WHERE WHAT IT READS IS OF BULK AT MOST 1048576: true; the input reads as it did. -/
def walkRunsUptoRow : OpenClaim := { program := "ytgoenjpllepdjaa", sum := "81d94c893871ce0232fcbf01b2db34544b3c3d90ba9b8409f0bd9955c27e662e", func := "customhouse/customhouselaw09.WalkRuns", spec := "walkRuns", unfollowed := true, recurses := true, apart := false, narrowed := true }
def WalkRunsUptoSaid : Prop := walkRunsUptoRow.holds Try.pinned (OpenSpec.upto walkRunsSpec)

/-- 'customhouselaw09.WalkPassed', WHERE WHAT IT READS IS OF BULK AT MOST 1048576: true; the input reads as it did. -/
def walkPassedUptoRow : OpenClaim := { program := "ytgoenjpllepdjaa", sum := "81d94c893871ce0232fcbf01b2db34544b3c3d90ba9b8409f0bd9955c27e662e", func := "customhouse/customhouselaw09.WalkPassed", spec := "walkPassed", unfollowed := true, recurses := true, apart := false, narrowed := true }
def WalkPassedUptoSaid : Prop := walkPassedUptoRow.holds Try.pinned (OpenSpec.upto walkPassedSpec)

/-- 'customhouselaw09.WalkSame', WHERE WHAT IT READS IS OF BULK AT MOST 1048576: true; the input reads as it did. -/
def walkSameUptoRow : OpenClaim := { program := "ytgoenjpllepdjaa", sum := "81d94c893871ce0232fcbf01b2db34544b3c3d90ba9b8409f0bd9955c27e662e", func := "customhouse/customhouselaw09.WalkSame", spec := "walkSame", unfollowed := true, recurses := true, apart := false, narrowed := true }
def WalkSameUptoSaid : Prop := walkSameUptoRow.holds Try.pinned (OpenSpec.upto walkSameSpec)

/-- 'customhouselaw09.WalkSteps', WHERE WHAT IT READS IS OF BULK AT MOST 1048576: true; the input reads as it did. -/
def walkStepsUptoRow : OpenClaim := { program := "ytgoenjpllepdjaa", sum := "81d94c893871ce0232fcbf01b2db34544b3c3d90ba9b8409f0bd9955c27e662e", func := "customhouse/customhouselaw09.WalkSteps", spec := "walkSteps", unfollowed := true, recurses := true, apart := false, narrowed := true }
def WalkStepsUptoSaid : Prop := walkStepsUptoRow.holds Try.pinned (OpenSpec.upto walkStepsSpec)

end Rows
end Go.Proofs.Ytgoenjpllepdjaa
