/-
  No cell of these rows narrows 'for every input' (looked for: loops, veiled, ifaces, maps, wideKeys, modest, calm, conditions, laid).
  DERIVED. THE GIVEN ROWS OF THIS SEAT. 6 by the template 'for every input the law returns true; each argument reads behind the call as it read before'; 0 by the template 'total and deterministic' (their statements: YtmlammdipbkkfaaTotals.lean).
  GIVEN WITH THE SEED: the statements are not yours to turn. If you find one false, say at which input.
  Laid BY PROGRAM, IN A SANDBOX (cutbox-rows.mjs): the forced cells as the released guide's own fill.sh prints them over the translation 1e26fa54c069ad71… (all of the seat's roots in one cut). By AI agents, Wed Nov 11 2026. No macro, syntax, notation, axiom, sorry.
-/
import Derived.Test.YtmlammdipbkkfaaChecked
import GoSem.Claim
import GoSem.ClaimJoined
import GoSem.ClaimMapViews
import Derived.JoinedTies
import Derived.KernelRfl
namespace Go.Proofs.Ytmlammdipbkkfaa
/- THE CELL 'sum', in the pinned program and in every row, IS THE sha256 OF THE DUMP (.gsa) THAT YtmlammdipbkkfaaProg.lean LOADS. Nothing in Lean hashes anything: it is a label: what it is worth is what the hold of that sum in a sandbox is worth. -/
noncomputable def Try.pinned : Pinned := { name := "ytmlammdipbkkfaa", sum := "1e26fa54c069ad713b136da7d075752c033a62b6697d9d28682ac935d7a5efe1", checked := Try.checked }
namespace Rows
def none {H : Type} : Left H := { results := [], args := [] }

/-- 'customhouselaw06.TableFinds': WHATEVER THE INPUT: true; the input reads as it did. -/
def tableFindsSpec : ChangeSpec := { name := "tableFinds", fn := fun _ => fun
  | [d1, d2] => { results := [.lit (.bool true)], args := [d1, d2] }
  | _ => none }
def tableFindsRow : OpenClaim := { program := "ytmlammdipbkkfaa", sum := "1e26fa54c069ad713b136da7d075752c033a62b6697d9d28682ac935d7a5efe1", func := "customhouse/customhouselaw06.TableFinds", spec := "tableFinds", unfollowed := true, recurses := true, apart := false }
def TableFindsSaid : Prop := tableFindsRow.holds Try.pinned (OpenSpec.ofChange tableFindsSpec)

/-- ITS FALSE NEIGHBOUR: 'it returns false'. Refute it at one input. -/
def tableFindsWrong : ChangeSpec := { name := "tableFinds", fn := fun _ => fun
  | [d1, d2] => { results := [.lit (.bool false)], args := [d1, d2] }
  | _ => none }
def TableFindsWrongFalsely : Prop := tableFindsRow.holds Try.pinned (OpenSpec.ofChange tableFindsWrong)

/-- 'customhouselaw06.TableSound': WHATEVER THE INPUT: true; the input reads as it did. -/
def tableSoundSpec : ChangeSpec := { name := "tableSound", fn := fun _ => fun
  | [d1, d2] => { results := [.lit (.bool true)], args := [d1, d2] }
  | _ => none }
def tableSoundRow : OpenClaim := { program := "ytmlammdipbkkfaa", sum := "1e26fa54c069ad713b136da7d075752c033a62b6697d9d28682ac935d7a5efe1", func := "customhouse/customhouselaw06.TableSound", spec := "tableSound", unfollowed := true, recurses := true, apart := false }
def TableSoundSaid : Prop := tableSoundRow.holds Try.pinned (OpenSpec.ofChange tableSoundSpec)

/-- ITS FALSE NEIGHBOUR: 'it returns false'. Refute it at one input. -/
def tableSoundWrong : ChangeSpec := { name := "tableSound", fn := fun _ => fun
  | [d1, d2] => { results := [.lit (.bool false)], args := [d1, d2] }
  | _ => none }
def TableSoundWrongFalsely : Prop := tableSoundRow.holds Try.pinned (OpenSpec.ofChange tableSoundWrong)

/-- 'customhouselaw06.TableIdle': WHATEVER THE INPUT: true; the input reads as it did. -/
def tableIdleSpec : ChangeSpec := { name := "tableIdle", fn := fun _ => fun
  | [d] => { results := [.lit (.bool true)], args := [d] }
  | _ => none }
def tableIdleRow : OpenClaim := { program := "ytmlammdipbkkfaa", sum := "1e26fa54c069ad713b136da7d075752c033a62b6697d9d28682ac935d7a5efe1", func := "customhouse/customhouselaw06.TableIdle", spec := "tableIdle", unfollowed := true, recurses := true, apart := false }
def TableIdleSaid : Prop := tableIdleRow.holds Try.pinned (OpenSpec.ofChange tableIdleSpec)

/-- ITS FALSE NEIGHBOUR: 'it returns false'. Refute it at one input. -/
def tableIdleWrong : ChangeSpec := { name := "tableIdle", fn := fun _ => fun
  | [d] => { results := [.lit (.bool false)], args := [d] }
  | _ => none }
def TableIdleWrongFalsely : Prop := tableIdleRow.holds Try.pinned (OpenSpec.ofChange tableIdleWrong)

/-- 'customhouselaw06.TableShares': WHATEVER THE INPUT: true; the input reads as it did. -/
def tableSharesSpec : ChangeSpec := { name := "tableShares", fn := fun _ => fun
  | [d1, d2] => { results := [.lit (.bool true)], args := [d1, d2] }
  | _ => none }
def tableSharesRow : OpenClaim := { program := "ytmlammdipbkkfaa", sum := "1e26fa54c069ad713b136da7d075752c033a62b6697d9d28682ac935d7a5efe1", func := "customhouse/customhouselaw06.TableShares", spec := "tableShares", unfollowed := true, recurses := true, apart := false }
def TableSharesSaid : Prop := tableSharesRow.holds Try.pinned (OpenSpec.ofChange tableSharesSpec)

/-- ITS FALSE NEIGHBOUR: 'it returns false'. Refute it at one input. -/
def tableSharesWrong : ChangeSpec := { name := "tableShares", fn := fun _ => fun
  | [d1, d2] => { results := [.lit (.bool false)], args := [d1, d2] }
  | _ => none }
def TableSharesWrongFalsely : Prop := tableSharesRow.holds Try.pinned (OpenSpec.ofChange tableSharesWrong)

/-- 'customhouselaw06.TableSpare': WHATEVER THE INPUT: true; the input reads as it did. -/
def tableSpareSpec : ChangeSpec := { name := "tableSpare", fn := fun _ => fun
  | [d1, d2, d3] => { results := [.lit (.bool true)], args := [d1, d2, d3] }
  | _ => none }
def tableSpareRow : OpenClaim := { program := "ytmlammdipbkkfaa", sum := "1e26fa54c069ad713b136da7d075752c033a62b6697d9d28682ac935d7a5efe1", func := "customhouse/customhouselaw06.TableSpare", spec := "tableSpare", unfollowed := true, recurses := true, apart := false }
def TableSpareSaid : Prop := tableSpareRow.holds Try.pinned (OpenSpec.ofChange tableSpareSpec)

/-- ITS FALSE NEIGHBOUR: 'it returns false'. Refute it at one input. -/
def tableSpareWrong : ChangeSpec := { name := "tableSpare", fn := fun _ => fun
  | [d1, d2, d3] => { results := [.lit (.bool false)], args := [d1, d2, d3] }
  | _ => none }
def TableSpareWrongFalsely : Prop := tableSpareRow.holds Try.pinned (OpenSpec.ofChange tableSpareWrong)

/-- 'customhouselaw06.TableAdds': WHATEVER THE INPUT: true; the input reads as it did. -/
def tableAddsSpec : ChangeSpec := { name := "tableAdds", fn := fun _ => fun
  | [d1, d2, d3] => { results := [.lit (.bool true)], args := [d1, d2, d3] }
  | _ => none }
def tableAddsRow : OpenClaim := { program := "ytmlammdipbkkfaa", sum := "1e26fa54c069ad713b136da7d075752c033a62b6697d9d28682ac935d7a5efe1", func := "customhouse/customhouselaw06.TableAdds", spec := "tableAdds", unfollowed := true, recurses := true, apart := false }
def TableAddsSaid : Prop := tableAddsRow.holds Try.pinned (OpenSpec.ofChange tableAddsSpec)

/-- ITS FALSE NEIGHBOUR: 'it returns false'. Refute it at one input. -/
def tableAddsWrong : ChangeSpec := { name := "tableAdds", fn := fun _ => fun
  | [d1, d2, d3] => { results := [.lit (.bool false)], args := [d1, d2, d3] }
  | _ => none }
def TableAddsWrongFalsely : Prop := tableAddsRow.holds Try.pinned (OpenSpec.ofChange tableAddsWrong)

/- THE SECOND FORM. 'bulk': how many values and letters a reading holds, each counted each time it is reached (what is shared counts as often as it is met; a slice's spare places count too). A statement '..UptoSaid' is the law's where the arguments, and the package variables that the reading takes, are together of bulk at most 1048576: NARROWER than '..Said'. Prove '..Said' where nothing that the law and all that it calls make is longer than what came in: it says more and counts as full. Else prove '..UptoSaid'. A law counts once. -/
mutual
def uptoBulk {H : Type} : DataW H → Nat
  | .lit (.string bytes) => bytes.length + 1
  | .lit _ => 1
  | .nil => 1
  | .ptr d => uptoBulk d + 1
  | .slice elems spare => uptoBulkAll elems + uptoBulkAll spare + 1
  | .agg parts => uptoBulkAll parts + 1
  | .iface _ d => uptoBulk d + 1
  | .map entries => uptoBulkEntries entries + 1
  | .held _ => 1
def uptoBulkAll {H : Type} : List (DataW H) → Nat
  | [] => 0
  | d :: r => uptoBulk d + uptoBulkAll r
def uptoBulkEntries {H : Type} : List (Lit × DataW H) → Nat
  | [] => 0
  | x :: r => uptoBulkEntry x + uptoBulkEntries r
def uptoBulkEntry {H : Type} : Lit × DataW H → Nat
  | (.string bytes, d) => bytes.length + uptoBulk d + 1
  | (_, d) => uptoBulk d + 1
 end
def uptoSmall : (H : Type) → List (DataW H) → Bool := fun _ ds => decide (uptoBulkAll ds ≤ 1048576)
def OpenSpec.upto (s : _root_.Go.ChangeSpec) : _root_.Go.OpenSpec := { _root_.Go.OpenSpec.ofChange s with cond := some uptoSmall }

/-- 'customhouselaw06.TableFinds', WHERE WHAT IT READS IS OF BULK AT MOST 1048576: true; the input reads as it did. -/
def tableFindsUptoRow : OpenClaim := { program := "ytmlammdipbkkfaa", sum := "1e26fa54c069ad713b136da7d075752c033a62b6697d9d28682ac935d7a5efe1", func := "customhouse/customhouselaw06.TableFinds", spec := "tableFinds", unfollowed := true, recurses := true, apart := false, narrowed := true }
def TableFindsUptoSaid : Prop := tableFindsUptoRow.holds Try.pinned (OpenSpec.upto tableFindsSpec)

/-- 'customhouselaw06.TableSound', WHERE WHAT IT READS IS OF BULK AT MOST 1048576: true; the input reads as it did. -/
def tableSoundUptoRow : OpenClaim := { program := "ytmlammdipbkkfaa", sum := "1e26fa54c069ad713b136da7d075752c033a62b6697d9d28682ac935d7a5efe1", func := "customhouse/customhouselaw06.TableSound", spec := "tableSound", unfollowed := true, recurses := true, apart := false, narrowed := true }
def TableSoundUptoSaid : Prop := tableSoundUptoRow.holds Try.pinned (OpenSpec.upto tableSoundSpec)

/-- 'customhouselaw06.TableIdle', WHERE WHAT IT READS IS OF BULK AT MOST 1048576: true; the input reads as it did. -/
def tableIdleUptoRow : OpenClaim := { program := "ytmlammdipbkkfaa", sum := "1e26fa54c069ad713b136da7d075752c033a62b6697d9d28682ac935d7a5efe1", func := "customhouse/customhouselaw06.TableIdle", spec := "tableIdle", unfollowed := true, recurses := true, apart := false, narrowed := true }
def TableIdleUptoSaid : Prop := tableIdleUptoRow.holds Try.pinned (OpenSpec.upto tableIdleSpec)

/-- 'customhouselaw06.TableShares', WHERE WHAT IT READS IS OF BULK AT MOST 1048576: true; the input reads as it did. -/
def tableSharesUptoRow : OpenClaim := { program := "ytmlammdipbkkfaa", sum := "1e26fa54c069ad713b136da7d075752c033a62b6697d9d28682ac935d7a5efe1", func := "customhouse/customhouselaw06.TableShares", spec := "tableShares", unfollowed := true, recurses := true, apart := false, narrowed := true }
def TableSharesUptoSaid : Prop := tableSharesUptoRow.holds Try.pinned (OpenSpec.upto tableSharesSpec)

/-- 'customhouselaw06.TableSpare', WHERE WHAT IT READS IS OF BULK AT MOST 1048576: true; the input reads as it did. -/
def tableSpareUptoRow : OpenClaim := { program := "ytmlammdipbkkfaa", sum := "1e26fa54c069ad713b136da7d075752c033a62b6697d9d28682ac935d7a5efe1", func := "customhouse/customhouselaw06.TableSpare", spec := "tableSpare", unfollowed := true, recurses := true, apart := false, narrowed := true }
def TableSpareUptoSaid : Prop := tableSpareUptoRow.holds Try.pinned (OpenSpec.upto tableSpareSpec)

/-- 'customhouselaw06.TableAdds', WHERE WHAT IT READS IS OF BULK AT MOST 1048576: true; the input reads as it did. -/
def tableAddsUptoRow : OpenClaim := { program := "ytmlammdipbkkfaa", sum := "1e26fa54c069ad713b136da7d075752c033a62b6697d9d28682ac935d7a5efe1", func := "customhouse/customhouselaw06.TableAdds", spec := "tableAdds", unfollowed := true, recurses := true, apart := false, narrowed := true }
def TableAddsUptoSaid : Prop := tableAddsUptoRow.holds Try.pinned (OpenSpec.upto tableAddsSpec)

end Rows
end Go.Proofs.Ytmlammdipbkkfaa
