/-
  Plain facts on arrays of 128 bools as values in memory: no program in sight. No conditions.
-/
import Derived.Test.YtlhbkiobgppciaaMath
import Derived.Deep.MidRow
import Derived.Deep.WholeRow
import Derived.Below
namespace Go.Proofs.Hd
open Go.RowKit
/-- An array of 128 bools. -/
def bl (f : Nat → Bool) : List Value := (List.range 128).map fun i => Value.bool (f i)
theorem bl_len (f : Nat → Bool) : (bl f).length = 128 := by simp [bl]
theorem bl_size (f : Nat → Bool) : (bl f).toArray.size = 128 := by simp [bl]
theorem bl_get (f : Nat → Bool) (k : Nat) (h : k < 128) : (bl f)[k]? = some (.bool (f k)) := by simp [bl, h]
theorem bl_geta (f : Nat → Bool) (k : Nat) (h : k < 128) : (bl f).toArray[k]? = some (.bool (f k)) := by simp [bl, h]
theorem bl_one (f : Nat → Bool) : ∀ v ∈ bl f, v.oneCell' = true := by
  intro v hv; simp only [bl, List.mem_map] at hv; obtain ⟨i, _, rfl⟩ := hv; rfl
theorem bl_all (f : Nat → Bool) : (bl f).toArray.all (·.oneCell') = true := all_oneCell_toArray (bl_one f)
theorem bl_congr {f g : Nat → Bool} (h : ∀ j, j < 128 → f j = g j) : bl f = bl g := by
  unfold bl; apply List.map_congr_left; intro i hi; rw [h i (by simpa using hi)]
theorem bl_set (f : Nat → Bool) (k : Nat) (b : Bool) : (bl f).set k (.bool b) = bl (fun j => if j = k then b else f j) := by
  apply List.ext_getElem?
  intro i
  rw [List.getElem?_set]
  by_cases hi : i < 128
  · by_cases e : k = i
    · subst e; simp [bl, hi]
    · simp [bl, hi, e, show ¬ i = k from fun h => e h.symm]
  · have : (bl (fun j => if j = k then b else f j))[i]? = none := by simp [bl]; omega
    rw [this]
    by_cases e : k = i
    · subst e; simp [bl, hi]
    · simp [e, bl]; omega
/-- The first k of f, the others false. -/
def upTo (f : Nat → Bool) (k : Nat) : Nat → Bool := fun j => decide (j < k) && f j
theorem upTo_zero (f : Nat → Bool) : bl (upTo f 0) = bl (fun _ => false) := bl_congr fun j _ => by simp [upTo]
theorem upTo_all (f : Nat → Bool) : bl (upTo f 128) = bl f := bl_congr fun j hj => by simp [upTo, hj]
theorem upTo_succ (f : Nat → Bool) (k : Nat) : (bl (upTo f k)).toArray.setIfInBounds k (.bool (f k)) = (bl (upTo f (k + 1))).toArray := by
  rw [List.setIfInBounds_toArray, bl_set]
  congr 1
  apply bl_congr
  intro j _
  unfold upTo
  by_cases e : j = k
  · subst e; simp
  · have : (j < k + 1) ↔ (j < k) := by omega
    simp [e, this]
theorem upTo_set (f : Nat → Bool) (k : Nat) (b : Bool) (h : b = f k) : (bl (upTo f k)).set k (.bool b) = bl (upTo f (k + 1)) := by
  subst h
  rw [bl_set]
  apply bl_congr
  intro j _
  unfold upTo
  by_cases e : j = k
  · subst e; simp
  · have : (j < k + 1) ↔ (j < k) := by omega
    simp [e, this]
theorem uv_odd (x : BitVec 64) : ((uv x).tmod 2 == 1) = x.getLsbD 0 := by
  rw [Int.tmod_eq_emod_of_nonneg (uv_nonneg x)]
  unfold uv
  rw [BitVec.getLsbD, Nat.testBit_zero, Bool.eq_iff_iff]
  simp only [beq_iff_eq, decide_eq_true_eq]
  omega
theorem bit_lo (h l : BitVec 64) (k : Nat) (hk : k < 64) : ((uv (l >>> k)).tmod 2 == 1) = hbit h l k := by
  rw [uv_odd, BitVec.getLsbD_ushiftRight, hbit, if_pos hk, Nat.add_zero]
theorem bit_hi (h l : BitVec 64) (k : Nat) (hk : ¬ k < 64) : ((uv (h >>> (k - 64))).tmod 2 == 1) = hbit h l k := by
  rw [uv_odd, BitVec.getLsbD_ushiftRight, hbit, if_neg hk, Nat.add_zero]
theorem Below.setRow {B : Nat} {a w : World} (h : Below B a w) {g : Nat} (hg : B ≤ g) (cs : Array Value) : Below B a (w.setRow g cs) :=
  h.trans ⟨rfl, rfl, rfl, by simp, fun k hk => setRow_other _ _ _ _ (by omega)⟩
/-- A whole array of bools lies at the head of block b. -/
theorem range_of_alloc (w : World) (f : Nat → Bool) (t : TypeId) : (w.alloc (.cells (bl f).toArray t)).rangeAt w.heap.size 0 (bl f) := by
  intro j v hv
  rw [Nat.zero_add, World.cell?_alloc_new]
  simpa using hv
theorem Below.setCells {B b : Nat} {a : World} : ∀ (vs : List Value) (o : Nat) (w : World), Below B a w → B ≤ b → Below B a (w.setCells b o vs)
  | [], _, _, h, _ => h
  | v :: r, o, _, h, hb => Below.setCells r (o + 1) _ (h.setCell (p := ⟨b, o, none⟩) hb v) hb
theorem range_below {B b o : Nat} {cs : List Value} {w w' : World} (hb : Below B w w') (h : w.rangeAt b o cs) (hl : b < B) : w'.rangeAt b o cs :=
  fun j v hv => (hb.cell (p := ⟨b, o + j, none⟩) hl).trans (h j v hv)
theorem there_below {B b o n : Nat} {w w' : World} (hb : Below B w w') (h : w.there b o n) (hl : b < B) : w'.there b o n := by
  intro j hj
  have e1 := hb.cell (p := ⟨b, o + j, none⟩) hl
  have e2 := hb.frozen (p := ⟨b, o + j, none⟩) hl
  rw [e1, e2]; exact h j hj
theorem there_of_alloc (w : World) (f : Nat → Bool) (t : TypeId) : (w.alloc (.cells (bl f).toArray t)).there w.heap.size 0 128 := by
  intro j hj
  rw [Nat.zero_add, World.cell?_alloc_new]
  exact ⟨by simp [bl, hj], by simp⟩
attribute [irreducible] bl
end Go.Proofs.Hd
