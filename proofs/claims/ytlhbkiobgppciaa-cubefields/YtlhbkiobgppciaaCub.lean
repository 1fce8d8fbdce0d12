/-
  Plain mathematics on cubes: headers of which some bits are fixed, as four words of 64 bits. No program in sight. No conditions.
-/
import Derived.Test.YtlhbkiobgppciaaMath
import Derived.Test.YtlhbkiobgppciaaHold
namespace Go.Proofs.Hd
open Go.RowKit
/-- Are two pairs of numbers the same? -/
def eq2 (a b c d : Int) : Bool := (a == c) && (b == d)
/-- Are two rows of four numbers the same? -/
def eq4 (a b c d e f g h : Int) : Bool := (a == e) && ((b == f) && ((c == g) && (d == h)))
theorem eq2_self (a b : Int) : eq2 a b a b = true := by simp [eq2]
theorem eq4_self (a b c d : Int) : eq4 a b c d a b c d = true := by simp [eq4]
theorem eq2_uv (a b c d : BitVec 64) : eq2 (uv a) (uv b) (uv c) (uv d) = ((a == c) && (b == d)) := by unfold eq2; rw [uv_beq, uv_beq]
theorem eq4_uv (a b c d e f g h : BitVec 64) : eq4 (uv a) (uv b) (uv c) (uv d) (uv e) (uv f) (uv g) (uv h) = ((a == e) && ((b == f) && ((c == g) && (d == h)))) := by unfold eq4; rw [uv_beq, uv_beq, uv_beq, uv_beq]
/-- Has Value no bit that Care does not have? -/
def sndB (vh vl ch cl : BitVec 64) : Bool := (vh &&& ch == vh) && (vl &&& cl == vl)
theorem sndB_eq (vh vl ch cl : BitVec 64) : eq2 (uv (vh &&& ch)) (uv (vl &&& cl)) (uv vh) (uv vl) = sndB vh vl ch cl := eq2_uv _ _ _ _
/-- Is a header in a cube? -/
def hasB (vh vl ch cl h l : BitVec 64) : Bool := (h &&& ch == vh) && (l &&& cl == vl)
theorem hasB_eq (vh vl ch cl h l : BitVec 64) : eq2 (uv (h &&& ch)) (uv (l &&& cl)) (uv vh) (uv vl) = hasB vh vl ch cl h l := eq2_uv _ _ _ _
/-- Have two cubes the same bits wherever both care? -/
def agrB (avh avl ach acl bvh bvl bch bcl : BitVec 64) : Bool := (avh &&& (ach &&& bch) == bvh &&& (ach &&& bch)) && (avl &&& (acl &&& bcl) == bvl &&& (acl &&& bcl))
theorem agrB_eq (avh avl ach acl bvh bvl bch bcl : BitVec 64) : eq2 (uv (avh &&& (ach &&& bch))) (uv (avl &&& (acl &&& bcl))) (uv (bvh &&& (ach &&& bch))) (uv (bvl &&& (acl &&& bcl))) = agrB avh avl ach acl bvh bvl bch bcl := eq2_uv _ _ _ _
attribute [irreducible] eq2 eq4
end Go.Proofs.Hd
