/-
  No cell of these rows narrows 'for every input' (looked for: loops, veiled, ifaces, maps, wideKeys, modest, calm, conditions, laid).
  DERIVED. THE GIVEN ROWS OF THIS SEAT. 6 by the template 'for every input the law returns true; each argument reads behind the call as it read before'; 0 by the template 'total and deterministic' (their statements: YtpmgbofnikmhgaaGreatTotals.lean).
  GIVEN WITH THE SEED: the statements are not yours to turn. If you find one false, say at which input.
  Laid BY PROGRAM, IN A SANDBOX (cutbox-rows.mjs): the forced cells as the released guide's own fill.sh prints them over the translation c111b1a8b4e70171… (all of the seat's roots in one cut). By AI agents, Wed Nov 11 2026. No macro, syntax, notation, axiom, sorry.
-/
import Derived.Test.YtpmgbofnikmhgaaGreatChecked
import GoSem.Claim
import GoSem.ClaimJoined
import GoSem.ClaimMapViews
import Derived.JoinedTies
import Derived.KernelRfl
namespace Go.Proofs.YtpmgbofnikmhgaaGreat
/- THE CELL 'sum', in the pinned program and in every row, IS THE sha256 OF THE DUMP (.gsa) THAT YtpmgbofnikmhgaaGreatProg.lean LOADS. Nothing in Lean hashes anything: it is a label: what it is worth is what the hold of that sum in a sandbox is worth. -/
noncomputable def Tryz.pinned : Pinned := { name := "ytpmgbofnikmhgaagreat", sum := "c111b1a8b4e701719cd2e79f946908b41e19b41db31ace7d7f60ed9081116432", checked := Tryz.checked }
namespace Rows
def none {H : Type} : Left H := { results := [], args := [] }

/-- 'customhouselaw11.AtomsSplit': WHATEVER THE INPUT: true; the input reads as it did. -/
def atomsSplitSpec : ChangeSpec := { name := "atomsSplit", fn := fun _ => fun
  | [d1, d2] => { results := [.lit (.bool true)], args := [d1, d2] }
  | _ => none }
def atomsSplitRow : OpenClaim := { program := "ytpmgbofnikmhgaagreat", sum := "c111b1a8b4e701719cd2e79f946908b41e19b41db31ace7d7f60ed9081116432", func := "customhouse/customhouselaw11.AtomsSplit", spec := "atomsSplit", unfollowed := true, recurses := true, apart := false }
def AtomsSplitSaid : Prop := atomsSplitRow.holds Tryz.pinned (OpenSpec.ofChange atomsSplitSpec)

/-- ITS FALSE NEIGHBOUR: 'it returns false'. Refute it at one input. -/
def atomsSplitWrong : ChangeSpec := { name := "atomsSplit", fn := fun _ => fun
  | [d1, d2] => { results := [.lit (.bool false)], args := [d1, d2] }
  | _ => none }
def AtomsSplitWrongFalsely : Prop := atomsSplitRow.holds Tryz.pinned (OpenSpec.ofChange atomsSplitWrong)

/-- 'customhouselaw11.AtomsExact': WHATEVER THE INPUT: true; the input reads as it did. -/
def atomsExactSpec : ChangeSpec := { name := "atomsExact", fn := fun _ => fun
  | [d] => { results := [.lit (.bool true)], args := [d] }
  | _ => none }
def atomsExactRow : OpenClaim := { program := "ytpmgbofnikmhgaagreat", sum := "c111b1a8b4e701719cd2e79f946908b41e19b41db31ace7d7f60ed9081116432", func := "customhouse/customhouselaw11.AtomsExact", spec := "atomsExact", unfollowed := true, recurses := true, apart := false }
def AtomsExactSaid : Prop := atomsExactRow.holds Tryz.pinned (OpenSpec.ofChange atomsExactSpec)

/-- ITS FALSE NEIGHBOUR: 'it returns false'. Refute it at one input. -/
def atomsExactWrong : ChangeSpec := { name := "atomsExact", fn := fun _ => fun
  | [d] => { results := [.lit (.bool false)], args := [d] }
  | _ => none }
def AtomsExactWrongFalsely : Prop := atomsExactRow.holds Tryz.pinned (OpenSpec.ofChange atomsExactWrong)

/-- 'customhouselaw11.AtomsTurn': WHATEVER THE INPUT: true; the input reads as it did. -/
def atomsTurnSpec : ChangeSpec := { name := "atomsTurn", fn := fun _ => fun
  | [d1, d2, d3, d4] => { results := [.lit (.bool true)], args := [d1, d2, d3, d4] }
  | _ => none }
def atomsTurnRow : OpenClaim := { program := "ytpmgbofnikmhgaagreat", sum := "c111b1a8b4e701719cd2e79f946908b41e19b41db31ace7d7f60ed9081116432", func := "customhouse/customhouselaw11.AtomsTurn", spec := "atomsTurn", unfollowed := true, recurses := true, apart := false }
def AtomsTurnSaid : Prop := atomsTurnRow.holds Tryz.pinned (OpenSpec.ofChange atomsTurnSpec)

/-- ITS FALSE NEIGHBOUR: 'it returns false'. Refute it at one input. -/
def atomsTurnWrong : ChangeSpec := { name := "atomsTurn", fn := fun _ => fun
  | [d1, d2, d3, d4] => { results := [.lit (.bool false)], args := [d1, d2, d3, d4] }
  | _ => none }
def AtomsTurnWrongFalsely : Prop := atomsTurnRow.holds Tryz.pinned (OpenSpec.ofChange atomsTurnWrong)

/-- 'customhouselaw11.AtomsBack': WHATEVER THE INPUT: true; the input reads as it did. -/
def atomsBackSpec : ChangeSpec := { name := "atomsBack", fn := fun _ => fun
  | [d1, d2, d3, d4] => { results := [.lit (.bool true)], args := [d1, d2, d3, d4] }
  | _ => none }
def atomsBackRow : OpenClaim := { program := "ytpmgbofnikmhgaagreat", sum := "c111b1a8b4e701719cd2e79f946908b41e19b41db31ace7d7f60ed9081116432", func := "customhouse/customhouselaw11.AtomsBack", spec := "atomsBack", unfollowed := true, recurses := true, apart := false }
def AtomsBackSaid : Prop := atomsBackRow.holds Tryz.pinned (OpenSpec.ofChange atomsBackSpec)

/-- ITS FALSE NEIGHBOUR: 'it returns false'. Refute it at one input. -/
def atomsBackWrong : ChangeSpec := { name := "atomsBack", fn := fun _ => fun
  | [d1, d2, d3, d4] => { results := [.lit (.bool false)], args := [d1, d2, d3, d4] }
  | _ => none }
def AtomsBackWrongFalsely : Prop := atomsBackRow.holds Tryz.pinned (OpenSpec.ofChange atomsBackWrong)

/-- 'customhouselaw11.AtomsArgs': WHATEVER THE INPUT: true; the input reads as it did. -/
def atomsArgsSpec : ChangeSpec := { name := "atomsArgs", fn := fun _ => fun
  | [d1, d2, d3] => { results := [.lit (.bool true)], args := [d1, d2, d3] }
  | _ => none }
def atomsArgsRow : OpenClaim := { program := "ytpmgbofnikmhgaagreat", sum := "c111b1a8b4e701719cd2e79f946908b41e19b41db31ace7d7f60ed9081116432", func := "customhouse/customhouselaw11.AtomsArgs", spec := "atomsArgs", unfollowed := true, recurses := true, apart := false }
def AtomsArgsSaid : Prop := atomsArgsRow.holds Tryz.pinned (OpenSpec.ofChange atomsArgsSpec)

/-- ITS FALSE NEIGHBOUR: 'it returns false'. Refute it at one input. -/
def atomsArgsWrong : ChangeSpec := { name := "atomsArgs", fn := fun _ => fun
  | [d1, d2, d3] => { results := [.lit (.bool false)], args := [d1, d2, d3] }
  | _ => none }
def AtomsArgsWrongFalsely : Prop := atomsArgsRow.holds Tryz.pinned (OpenSpec.ofChange atomsArgsWrong)

/-- 'customhouselaw11.AtomsOrder': WHATEVER THE INPUT: true; the input reads as it did. -/
def atomsOrderSpec : ChangeSpec := { name := "atomsOrder", fn := fun _ => fun
  | [d1, d2, d3] => { results := [.lit (.bool true)], args := [d1, d2, d3] }
  | _ => none }
def atomsOrderRow : OpenClaim := { program := "ytpmgbofnikmhgaagreat", sum := "c111b1a8b4e701719cd2e79f946908b41e19b41db31ace7d7f60ed9081116432", func := "customhouse/customhouselaw11.AtomsOrder", spec := "atomsOrder", unfollowed := true, recurses := true, apart := false }
def AtomsOrderSaid : Prop := atomsOrderRow.holds Tryz.pinned (OpenSpec.ofChange atomsOrderSpec)

/-- ITS FALSE NEIGHBOUR: 'it returns false'. Refute it at one input. -/
def atomsOrderWrong : ChangeSpec := { name := "atomsOrder", fn := fun _ => fun
  | [d1, d2, d3] => { results := [.lit (.bool false)], args := [d1, d2, d3] }
  | _ => none }
def AtomsOrderWrongFalsely : Prop := atomsOrderRow.holds Tryz.pinned (OpenSpec.ofChange atomsOrderWrong)

/- THE SECOND FORM. 'bulk': how many values and letters a reading holds, each counted each time it is reached (what is shared counts as often as it is met; a slice's spare places count too). A statement '..UptoSaid' is the law's where the arguments, and the package variables that the reading takes, are together of bulk at most 1048576: NARROWER than '..Said'. Prove '..Said' where nothing that the law and all that it calls make is longer than what came in: it says more and counts as full. Else prove '..UptoSaid'. A law counts once. -/
mutual
def uptoBulk {H : Type} : DataW H → Nat
  | .lit (.string bytes) => bytes.length + 1
  | .lit _ => 1
  | .nil => 1
  | .ptr d => uptoBulk d + 1
  | .slice elems spare => uptoBulkAll elems + uptoBulkAll spare + 1
  | .agg parts => uptoBulkAll parts + 1
  | .iface _ d => uptoBulk d + 1
  | .map entries => uptoBulkEntries entries + 1
  | .held _ => 1
def uptoBulkAll {H : Type} : List (DataW H) → Nat
  | [] => 0
  | d :: r => uptoBulk d + uptoBulkAll r
def uptoBulkEntries {H : Type} : List (Lit × DataW H) → Nat
  | [] => 0
  | x :: r => uptoBulkEntry x + uptoBulkEntries r
def uptoBulkEntry {H : Type} : Lit × DataW H → Nat
  | (.string bytes, d) => bytes.length + uptoBulk d + 1
  | (_, d) => uptoBulk d + 1
 end
def uptoSmall : (H : Type) → List (DataW H) → Bool := fun _ ds => decide (uptoBulkAll ds ≤ 1048576)
def OpenSpec.upto (s : _root_.Go.ChangeSpec) : _root_.Go.OpenSpec := { _root_.Go.OpenSpec.ofChange s with cond := some uptoSmall }

/-- 'customhouselaw11.AtomsSplit', WHERE WHAT IT READS IS OF BULK AT MOST 1048576: true; the input reads as it did. -/
def atomsSplitUptoRow : OpenClaim := { program := "ytpmgbofnikmhgaagreat", sum := "c111b1a8b4e701719cd2e79f946908b41e19b41db31ace7d7f60ed9081116432", func := "customhouse/customhouselaw11.AtomsSplit", spec := "atomsSplit", unfollowed := true, recurses := true, apart := false, narrowed := true }
def AtomsSplitUptoSaid : Prop := atomsSplitUptoRow.holds Tryz.pinned (OpenSpec.upto atomsSplitSpec)

/-- 'customhouselaw11.AtomsExact', WHERE WHAT IT READS IS OF BULK AT MOST 1048576: true; the input reads as it did. -/
def atomsExactUptoRow : OpenClaim := { program := "ytpmgbofnikmhgaagreat", sum := "c111b1a8b4e701719cd2e79f946908b41e19b41db31ace7d7f60ed9081116432", func := "customhouse/customhouselaw11.AtomsExact", spec := "atomsExact", unfollowed := true, recurses := true, apart := false, narrowed := true }
def AtomsExactUptoSaid : Prop := atomsExactUptoRow.holds Tryz.pinned (OpenSpec.upto atomsExactSpec)

/-- 'customhouselaw11.AtomsTurn', WHERE WHAT IT READS IS OF BULK AT MOST 1048576: true; the input reads as it did. -/
def atomsTurnUptoRow : OpenClaim := { program := "ytpmgbofnikmhgaagreat", sum := "c111b1a8b4e701719cd2e79f946908b41e19b41db31ace7d7f60ed9081116432", func := "customhouse/customhouselaw11.AtomsTurn", spec := "atomsTurn", unfollowed := true, recurses := true, apart := false, narrowed := true }
def AtomsTurnUptoSaid : Prop := atomsTurnUptoRow.holds Tryz.pinned (OpenSpec.upto atomsTurnSpec)

/-- 'customhouselaw11.AtomsBack', WHERE WHAT IT READS IS OF BULK AT MOST 1048576: true; the input reads as it did. -/
def atomsBackUptoRow : OpenClaim := { program := "ytpmgbofnikmhgaagreat", sum := "c111b1a8b4e701719cd2e79f946908b41e19b41db31ace7d7f60ed9081116432", func := "customhouse/customhouselaw11.AtomsBack", spec := "atomsBack", unfollowed := true, recurses := true, apart := false, narrowed := true }
def AtomsBackUptoSaid : Prop := atomsBackUptoRow.holds Tryz.pinned (OpenSpec.upto atomsBackSpec)

/-- 'customhouselaw11.AtomsArgs', WHERE WHAT IT READS IS OF BULK AT MOST 1048576: true; the input reads as it did. -/
def atomsArgsUptoRow : OpenClaim := { program := "ytpmgbofnikmhgaagreat", sum := "c111b1a8b4e701719cd2e79f946908b41e19b41db31ace7d7f60ed9081116432", func := "customhouse/customhouselaw11.AtomsArgs", spec := "atomsArgs", unfollowed := true, recurses := true, apart := false, narrowed := true }
def AtomsArgsUptoSaid : Prop := atomsArgsUptoRow.holds Tryz.pinned (OpenSpec.upto atomsArgsSpec)

/-- 'customhouselaw11.AtomsOrder', WHERE WHAT IT READS IS OF BULK AT MOST 1048576: true; the input reads as it did. -/
def atomsOrderUptoRow : OpenClaim := { program := "ytpmgbofnikmhgaagreat", sum := "c111b1a8b4e701719cd2e79f946908b41e19b41db31ace7d7f60ed9081116432", func := "customhouse/customhouselaw11.AtomsOrder", spec := "atomsOrder", unfollowed := true, recurses := true, apart := false, narrowed := true }
def AtomsOrderUptoSaid : Prop := atomsOrderUptoRow.holds Tryz.pinned (OpenSpec.upto atomsOrderSpec)

end Rows
end Go.Proofs.YtpmgbofnikmhgaaGreat
