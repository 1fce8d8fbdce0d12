/-
  Plain facts: a cube as a text of 128 signs, the highest bit first; rows of 128 bytes in memory. No program in sight. No conditions.
-/
import Derived.Test.YtlhbkiobgppciaaLessM
import Derived.Test.YtlhbkiobgppciaaArr
import Derived.Laws.IdiomStrings
import Derived.Laws.MakeOwn
namespace Go.Proofs.Hd
open Go.RowKit
/-- The sign of bit j. -/
def sgn (c : Cb) (j : Nat) : UInt8 := if c.K j = true then (if c.V j = true then 49 else 48) else 120
def txtL (c : Cb) : List UInt8 := (List.range 128).map fun i => sgn c (127 - i)
def txt (c : Cb) : ByteArray := ⟨(txtL c).toArray⟩
theorem txtL_len (c : Cb) : (txtL c).length = 128 := by simp [txtL]
theorem txt_size (c : Cb) : (txt c).size = 128 := by show (txtL c).toArray.size = 128; simp [txtL]
theorem txt_get (c : Cb) (i : Nat) (h : i < (txt c).size) : (txt c)[i] = sgn c (127 - i) := by
  show (txtL c).toArray[i]'h = _
  simp [txtL]
/-- 128 bytes as cells. -/
def by8 (f : Nat → UInt8) : List Value := (List.range 128).map fun i => Value.int .u8 (f i).toNat
theorem by8_len (f : Nat → UInt8) : (by8 f).length = 128 := by simp [by8]
theorem by8_get (f : Nat → UInt8) (k : Nat) (h : k < 128) : (by8 f)[k]? = some (.int .u8 (f k).toNat) := by simp [by8, h]
theorem by8_congr {f g : Nat → UInt8} (h : ∀ j, j < 128 → f j = g j) : by8 f = by8 g := by
  unfold by8; apply List.map_congr_left; intro i hi; rw [h i (by simpa using hi)]
theorem by8_set (f : Nat → UInt8) (k : Nat) (b : UInt8) : (by8 f).set k (.int .u8 b.toNat) = by8 (fun j => if j = k then b else f j) := by
  apply List.ext_getElem?
  intro i
  rw [List.getElem?_set]
  by_cases hi : i < 128
  · by_cases e : k = i
    · subst e; simp [by8, hi]
    · simp [by8, hi, e, show ¬ i = k from fun h => e h.symm]
  · have : (by8 (fun j => if j = k then b else f j))[i]? = none := by simp [by8]; omega
    rw [this]
    by_cases e : k = i
    · subst e; simp [by8, hi]
    · simp [e, by8]; omega
/-- The text from its k last signs on; the others 0. -/
def upTxt (c : Cb) (k : Nat) : Nat → UInt8 := fun i => if 128 ≤ i + k then sgn c (127 - i) else 0
theorem upTxt_zero (c : Cb) : by8 (upTxt c 0) = by8 (fun _ => 0) := by8_congr fun j hj => by simp [upTxt]; omega
theorem upTxt_set (c : Cb) (k : Nat) (hk : k < 128) (b : UInt8) (hb : b = sgn c k) : (by8 (upTxt c k)).set (127 - k) (.int .u8 b.toNat) = by8 (upTxt c (k + 1)) := by
  rw [by8_set]
  apply by8_congr
  intro j hj
  unfold upTxt
  by_cases e : j = 127 - k
  · subst e
    rw [if_pos rfl, if_pos (by omega), hb]
    congr 1; omega
  · rw [if_neg e]
    by_cases h : 128 ≤ j + k
    · rw [if_pos h, if_pos (by omega)]
    · rw [if_neg h, if_neg (by omega)]
theorem upTxt_all (c : Cb) : by8 (upTxt c 128) = (txtL c).map (fun b => Value.int .u8 b.toNat) := by
  unfold by8 txtL upTxt
  rw [List.map_map]
  apply List.map_congr_left
  intro i hi
  have : i < 128 := by simpa using hi
  simp [show 128 ≤ i + 128 by omega]
theorem upTxt_put (c : Cb) (k m : Nat) (hm : m + k = 127) (b : Int) (hb : b = ((sgn c k).toNat : Int)) : (by8 (upTxt c k)).set m (.int .u8 b) = by8 (upTxt c (k + 1)) := by
  subst hb
  have e : m = 127 - k := by omega
  subst e
  exact upTxt_set c k (by omega) _ rfl
theorem made8 : madeCells (Value.int .u8 0).cells (128 * 1) = (by8 (fun _ => 0)).toArray := by kernel_rfl
attribute [irreducible] by8
end Go.Proofs.Hd
