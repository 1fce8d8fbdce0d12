/-
  No cell of these rows narrows 'for every input' (looked for: loops, veiled, ifaces, maps, wideKeys, modest, calm, conditions, laid).
  DERIVED. THE GIVEN ROWS OF THIS SEAT. 5 by the template 'for every input the law returns true; each argument reads behind the call as it read before'; 0 by the template 'total and deterministic' (their statements: YtkbeppknmdejnaaTotals.lean).
  GIVEN WITH THE SEED: the statements are not yours to turn. If you find one false, say at which input.
  Laid BY PROGRAM, IN A SANDBOX (cutbox-rows.mjs): the forced cells as the released guide's own fill.sh prints them over the translation 4236a83d35030293… (all of the seat's roots in one cut). By AI agents, Wed Nov 11 2026. No macro, syntax, notation, axiom, sorry.
-/
import Derived.Test.YtkbeppknmdejnaaChecked
import GoSem.Claim
import GoSem.ClaimJoined
import GoSem.ClaimMapViews
import Derived.JoinedTies
import Derived.KernelRfl
namespace Go.Proofs.Ytkbeppknmdejnaa
/- THE CELL 'sum', in the pinned program and in every row, IS THE sha256 OF THE DUMP (.gsa) THAT YtkbeppknmdejnaaProg.lean LOADS. Nothing in Lean hashes anything: it is a label: what it is worth is what the hold of that sum in a sandbox is worth. -/
noncomputable def Try.pinned : Pinned := { name := "ytkbeppknmdejnaa", sum := "4236a83d35030293c92201bcb8be27f7a37835e1e3306c3f49b385745a53fbdf", checked := Try.checked }
namespace Rows
def none {H : Type} : Left H := { results := [], args := [] }

/-- 'customhouselaw05.RuleSound': WHATEVER THE INPUT: true; the input reads as it did. -/
def ruleSoundSpec : ChangeSpec := { name := "ruleSound", fn := fun _ => fun
  | [d1, d2, d3] => { results := [.lit (.bool true)], args := [d1, d2, d3] }
  | _ => none }
def ruleSoundRow : OpenClaim := { program := "ytkbeppknmdejnaa", sum := "4236a83d35030293c92201bcb8be27f7a37835e1e3306c3f49b385745a53fbdf", func := "customhouse/customhouselaw05.RuleSound", spec := "ruleSound", unfollowed := true, recurses := true, apart := false }
def RuleSoundSaid : Prop := ruleSoundRow.holds Try.pinned (OpenSpec.ofChange ruleSoundSpec)

/-- ITS FALSE NEIGHBOUR: 'it returns false'. Refute it at one input. -/
def ruleSoundWrong : ChangeSpec := { name := "ruleSound", fn := fun _ => fun
  | [d1, d2, d3] => { results := [.lit (.bool false)], args := [d1, d2, d3] }
  | _ => none }
def RuleSoundWrongFalsely : Prop := ruleSoundRow.holds Try.pinned (OpenSpec.ofChange ruleSoundWrong)

/-- 'customhouselaw05.RuleSorts': WHATEVER THE INPUT: true; the input reads as it did. -/
def ruleSortsSpec : ChangeSpec := { name := "ruleSorts", fn := fun _ => fun
  | [d] => { results := [.lit (.bool true)], args := [d] }
  | _ => none }
def ruleSortsRow : OpenClaim := { program := "ytkbeppknmdejnaa", sum := "4236a83d35030293c92201bcb8be27f7a37835e1e3306c3f49b385745a53fbdf", func := "customhouse/customhouselaw05.RuleSorts", spec := "ruleSorts", unfollowed := true, recurses := true, apart := false }
def RuleSortsSaid : Prop := ruleSortsRow.holds Try.pinned (OpenSpec.ofChange ruleSortsSpec)

/-- ITS FALSE NEIGHBOUR: 'it returns false'. Refute it at one input. -/
def ruleSortsWrong : ChangeSpec := { name := "ruleSorts", fn := fun _ => fun
  | [d] => { results := [.lit (.bool false)], args := [d] }
  | _ => none }
def RuleSortsWrongFalsely : Prop := ruleSortsRow.holds Try.pinned (OpenSpec.ofChange ruleSortsWrong)

/-- 'customhouselaw05.RuleSets': WHATEVER THE INPUT: true; the input reads as it did. -/
def ruleSetsSpec : ChangeSpec := { name := "ruleSets", fn := fun _ => fun
  | [d1, d2, d3] => { results := [.lit (.bool true)], args := [d1, d2, d3] }
  | _ => none }
def ruleSetsRow : OpenClaim := { program := "ytkbeppknmdejnaa", sum := "4236a83d35030293c92201bcb8be27f7a37835e1e3306c3f49b385745a53fbdf", func := "customhouse/customhouselaw05.RuleSets", spec := "ruleSets", unfollowed := true, recurses := true, apart := false }
def RuleSetsSaid : Prop := ruleSetsRow.holds Try.pinned (OpenSpec.ofChange ruleSetsSpec)

/-- ITS FALSE NEIGHBOUR: 'it returns false'. Refute it at one input. -/
def ruleSetsWrong : ChangeSpec := { name := "ruleSets", fn := fun _ => fun
  | [d1, d2, d3] => { results := [.lit (.bool false)], args := [d1, d2, d3] }
  | _ => none }
def RuleSetsWrongFalsely : Prop := ruleSetsRow.holds Try.pinned (OpenSpec.ofChange ruleSetsWrong)

/-- 'customhouselaw05.RuleOnce': WHATEVER THE INPUT: true; the input reads as it did. -/
def ruleOnceSpec : ChangeSpec := { name := "ruleOnce", fn := fun _ => fun
  | [d] => { results := [.lit (.bool true)], args := [d] }
  | _ => none }
def ruleOnceRow : OpenClaim := { program := "ytkbeppknmdejnaa", sum := "4236a83d35030293c92201bcb8be27f7a37835e1e3306c3f49b385745a53fbdf", func := "customhouse/customhouselaw05.RuleOnce", spec := "ruleOnce", unfollowed := true, recurses := true, apart := false }
def RuleOnceSaid : Prop := ruleOnceRow.holds Try.pinned (OpenSpec.ofChange ruleOnceSpec)

/-- ITS FALSE NEIGHBOUR: 'it returns false'. Refute it at one input. -/
def ruleOnceWrong : ChangeSpec := { name := "ruleOnce", fn := fun _ => fun
  | [d] => { results := [.lit (.bool false)], args := [d] }
  | _ => none }
def RuleOnceWrongFalsely : Prop := ruleOnceRow.holds Try.pinned (OpenSpec.ofChange ruleOnceWrong)

/-- 'customhouselaw05.RuleKeeps': WHATEVER THE INPUT: true; the input reads as it did. -/
def ruleKeepsSpec : ChangeSpec := { name := "ruleKeeps", fn := fun _ => fun
  | [d1, d2] => { results := [.lit (.bool true)], args := [d1, d2] }
  | _ => none }
def ruleKeepsRow : OpenClaim := { program := "ytkbeppknmdejnaa", sum := "4236a83d35030293c92201bcb8be27f7a37835e1e3306c3f49b385745a53fbdf", func := "customhouse/customhouselaw05.RuleKeeps", spec := "ruleKeeps", unfollowed := true, recurses := true, apart := false }
def RuleKeepsSaid : Prop := ruleKeepsRow.holds Try.pinned (OpenSpec.ofChange ruleKeepsSpec)

/-- ITS FALSE NEIGHBOUR: 'it returns false'. Refute it at one input. -/
def ruleKeepsWrong : ChangeSpec := { name := "ruleKeeps", fn := fun _ => fun
  | [d1, d2] => { results := [.lit (.bool false)], args := [d1, d2] }
  | _ => none }
def RuleKeepsWrongFalsely : Prop := ruleKeepsRow.holds Try.pinned (OpenSpec.ofChange ruleKeepsWrong)

/- THE SECOND FORM. 'bulk': how many values and letters a reading holds, each counted each time it is reached (what is shared counts as often as it is met; a slice's spare places count too). A statement '..UptoSaid' is the law's where the arguments, and the package variables that the reading takes, are together of bulk at most 1048576: NARROWER than '..Said'. Prove '..Said' where nothing that the law and all that it calls make is longer than what came in: it says more and counts as full. Else prove '..UptoSaid'. A law counts once. -/
mutual
def uptoBulk {H : Type} : DataW H → Nat
  | .lit (.string bytes) => bytes.length + 1
  | .lit _ => 1
  | .nil => 1
  | .ptr d => uptoBulk d + 1
  | .slice elems spare => uptoBulkAll elems + uptoBulkAll spare + 1
  | .agg parts => uptoBulkAll parts + 1
  | .iface _ d => uptoBulk d + 1
  | .map entries => uptoBulkEntries entries + 1
  | .held _ => 1
def uptoBulkAll {H : Type} : List (DataW H) → Nat
  | [] => 0
  | d :: r => uptoBulk d + uptoBulkAll r
def uptoBulkEntries {H : Type} : List (Lit × DataW H) → Nat
  | [] => 0
  | x :: r => uptoBulkEntry x + uptoBulkEntries r
def uptoBulkEntry {H : Type} : Lit × DataW H → Nat
  | (.string bytes, d) => bytes.length + uptoBulk d + 1
  | (_, d) => uptoBulk d + 1
 end
def uptoSmall : (H : Type) → List (DataW H) → Bool := fun _ ds => decide (uptoBulkAll ds ≤ 1048576)
def OpenSpec.upto (s : _root_.Go.ChangeSpec) : _root_.Go.OpenSpec := { _root_.Go.OpenSpec.ofChange s with cond := some uptoSmall }

/-- 'customhouselaw05.RuleSound', WHERE WHAT IT READS IS OF BULK AT MOST 1048576: true; the input reads as it did. -/
def ruleSoundUptoRow : OpenClaim := { program := "ytkbeppknmdejnaa", sum := "4236a83d35030293c92201bcb8be27f7a37835e1e3306c3f49b385745a53fbdf", func := "customhouse/customhouselaw05.RuleSound", spec := "ruleSound", unfollowed := true, recurses := true, apart := false, narrowed := true }
def RuleSoundUptoSaid : Prop := ruleSoundUptoRow.holds Try.pinned (OpenSpec.upto ruleSoundSpec)

/-- 'customhouselaw05.RuleSorts', WHERE WHAT IT READS IS OF BULK AT MOST 1048576: true; the input reads as it did. -/
def ruleSortsUptoRow : OpenClaim := { program := "ytkbeppknmdejnaa", sum := "4236a83d35030293c92201bcb8be27f7a37835e1e3306c3f49b385745a53fbdf", func := "customhouse/customhouselaw05.RuleSorts", spec := "ruleSorts", unfollowed := true, recurses := true, apart := false, narrowed := true }
def RuleSortsUptoSaid : Prop := ruleSortsUptoRow.holds Try.pinned (OpenSpec.upto ruleSortsSpec)

/-- 'customhouselaw05.RuleSets', WHERE WHAT IT READS IS OF BULK AT MOST 1048576: true; the input reads as it did. -/
def ruleSetsUptoRow : OpenClaim := { program := "ytkbeppknmdejnaa", sum := "4236a83d35030293c92201bcb8be27f7a37835e1e3306c3f49b385745a53fbdf", func := "customhouse/customhouselaw05.RuleSets", spec := "ruleSets", unfollowed := true, recurses := true, apart := false, narrowed := true }
def RuleSetsUptoSaid : Prop := ruleSetsUptoRow.holds Try.pinned (OpenSpec.upto ruleSetsSpec)

/-- 'customhouselaw05.RuleOnce', WHERE WHAT IT READS IS OF BULK AT MOST 1048576: true; the input reads as it did. -/
def ruleOnceUptoRow : OpenClaim := { program := "ytkbeppknmdejnaa", sum := "4236a83d35030293c92201bcb8be27f7a37835e1e3306c3f49b385745a53fbdf", func := "customhouse/customhouselaw05.RuleOnce", spec := "ruleOnce", unfollowed := true, recurses := true, apart := false, narrowed := true }
def RuleOnceUptoSaid : Prop := ruleOnceUptoRow.holds Try.pinned (OpenSpec.upto ruleOnceSpec)

/-- 'customhouselaw05.RuleKeeps', WHERE WHAT IT READS IS OF BULK AT MOST 1048576: true; the input reads as it did. -/
def ruleKeepsUptoRow : OpenClaim := { program := "ytkbeppknmdejnaa", sum := "4236a83d35030293c92201bcb8be27f7a37835e1e3306c3f49b385745a53fbdf", func := "customhouse/customhouselaw05.RuleKeeps", spec := "ruleKeeps", unfollowed := true, recurses := true, apart := false, narrowed := true }
def RuleKeepsUptoSaid : Prop := ruleKeepsUptoRow.holds Try.pinned (OpenSpec.upto ruleKeepsSpec)

end Rows
end Go.Proofs.Ytkbeppknmdejnaa
