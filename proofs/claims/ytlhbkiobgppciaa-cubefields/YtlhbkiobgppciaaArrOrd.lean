/-
  Plain facts on comparing headers bit by bit. No conditions.
-/
import Derived.Test.YtlhbkiobgppciaaArrNum
namespace Go.Proofs.Hd
open Go.RowKit
/-- The number of the first k bits. -/
def V (f : Nat → Bool) : Nat → Nat
  | 0 => 0
  | k + 1 => V f k + 2 ^ k * (f k).toNat
theorem V_lt (f : Nat → Bool) (k : Nat) : V f k < 2 ^ k := by
  induction k with
  | zero => exact Nat.one_pos
  | succ k ih =>
    rw [V, Nat.pow_succ]
    cases f k <;> simp <;> omega
theorem V_congr {f g : Nat → Bool} (k : Nat) (h : ∀ i, i < k → f i = g i) : V f k = V g k := by
  induction k with
  | zero => rfl
  | succ k ih => rw [V, V, ih (fun i hi => h i (by omega)), h k (by omega)]
theorem V_testBit (x k : Nat) : V x.testBit k = x % 2 ^ k := by
  induction k with
  | zero => simp [V, Nat.mod_one]
  | succ k ih => rw [V, ih, Nat.mod_pow_succ, Nat.toNat_testBit]
theorem V_head (h l : BitVec 64) : V (hbit h l) 128 = 2 ^ 64 * h.toNat + l.toNat := by
  have hl := l.isLt
  have hh := h.isLt
  have e : ∀ i, i < 128 → hbit h l i = (2 ^ 64 * h.toNat + l.toNat).testBit i := by
    intro i _
    rw [Nat.testBit_two_pow_mul_add _ hl]
    unfold hbit BitVec.getLsbD
    by_cases c : i < 64 <;> simp [c]
  rw [V_congr 128 e, V_testBit, Nat.mod_eq_of_lt]
  have : (2 : Nat) ^ 128 = 2 ^ 64 * 2 ^ 64 := by decide +kernel
  rw [this]
  generalize (2 : Nat) ^ 64 = m at *
  calc m * h.toNat + l.toNat < m * h.toNat + m := by omega
    _ = m * (h.toNat + 1) := by rw [Nat.mul_add, Nat.mul_one]
    _ ≤ m * m := Nat.mul_le_mul_left m hh
/-- What the law's loop has found behind k bits. -/
def ordN (f g : Nat → Bool) : Nat → Int
  | 0 => 0
  | k + 1 => if (f k && !g k) = true then 1 else if (!f k && g k) = true then -1 else ordN f g k
theorem ordN_sign (f g : Nat → Bool) (k : Nat) : (V f k < V g k → ordN f g k = -1) ∧ (V g k < V f k → ordN f g k = 1) ∧ (V f k = V g k → ordN f g k = 0) := by
  induction k with
  | zero => exact ⟨fun h => absurd h (Nat.lt_irrefl _), fun h => absurd h (Nat.lt_irrefl _), fun _ => rfl⟩
  | succ k ih =>
    have h1 := V_lt f k
    have h2 := V_lt g k
    simp only [V, ordN]
    cases hf : f k <;> cases hg : g k <;> simp <;> omega
theorem ordN_cmp (h l p q : BitVec 64) : ordN (hbit h l) (hbit p q) 128 = cmpH h l p q := by
  have hs := ordN_sign (hbit h l) (hbit p q) 128
  rw [V_head, V_head] at hs
  have hl := l.isLt
  have hq := q.isLt
  rw [show (2 : Nat) ^ 64 = 18446744073709551616 by decide +kernel] at *
  unfold cmpH cmpW uv
  by_cases c1 : h.toNat < p.toNat
  · rw [hs.1 (by omega)]; simp [c1]
  · by_cases c2 : p.toNat < h.toNat
    · rw [hs.2.1 (by omega)]; simp [c1, c2]
    · have e : h.toNat = p.toNat := by omega
      by_cases c3 : l.toNat < q.toNat
      · rw [hs.1 (by omega)]; simp [e, c3]
      · by_cases c4 : q.toNat < l.toNat
        · rw [hs.2.1 (by omega)]; simp [e, c3, c4]
        · rw [hs.2.2 (by omega)]; simp [e, c3, c4]
theorem cmpH_neg (h l p q : BitVec 64) : cmpH p q h l = - cmpH h l p q := by
  have n1 : ∀ a b : BitVec 64, cmpW a b = - cmpW b a := by
    intro a b; unfold cmpW
    by_cases c1 : uv a < uv b
    · simp [c1, show ¬ uv b < uv a by omega]
    · by_cases c2 : uv b < uv a <;> simp [c1, c2]
  unfold cmpH
  rw [n1 p h, n1 q l]
  by_cases c : cmpW h p = 0 <;> simp [c]
theorem cmpH_bd (h l p q : BitVec 64) : -1 ≤ cmpH h l p q ∧ cmpH h l p q ≤ 1 := by
  have b : ∀ a b : BitVec 64, -1 ≤ cmpW a b ∧ cmpW a b ≤ 1 := by
    intro a b; unfold cmpW; by_cases c1 : uv a < uv b <;> by_cases c2 : uv b < uv a <;> simp [c1, c2]
  unfold cmpH
  by_cases c : cmpW h p = 0
  · rw [if_pos c]; exact b l q
  · rw [if_neg c]; exact b h p
theorem ordN_bd (f g : Nat → Bool) (k : Nat) : -1 ≤ ordN f g k ∧ ordN f g k ≤ 1 := by
  induction k with
  | zero => simp [ordN]
  | succ k ih => rw [ordN]; cases f k <;> cases g k <;> simp <;> omega
theorem range_cell {w : World} {b k : Nat} {f : Nat → Bool} (h : w.rangeAt b 0 (bl f)) (hk : k < 128) : w.cell? ⟨b, k, none⟩ = some (.bool (f k)) := by
  have := h k _ (bl_get f k hk)
  rwa [Nat.zero_add] at this
end Go.Proofs.Hd
