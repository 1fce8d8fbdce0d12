/-
  Plain mathematics: a header's highest bit, its bits from the highest to the lowest, and the difference of two cubes as a list. No program in sight. No conditions.
-/
import Derived.Test.YtlhbkiobgppciaaCub
import Derived.Lib.BitFns
namespace Go.Proofs.Hd
open Go.RowKit
theorem bitLen_bounds (x : Nat) : x < 2 ^ 64 → x ≠ 0 → 1 ≤ Lib.bitLen x ∧ 2 ^ (Lib.bitLen x - 1) ≤ x ∧ x < 2 ^ Lib.bitLen x := by
  induction x using Nat.strongRecOn with
  | ind x ih =>
    intro h h0
    rw [Lib.bitLen_half x h0 h]
    by_cases h2 : x / 2 = 0
    · have : x = 1 := by omega
      subst this
      decide
    · obtain ⟨a, b, c⟩ := ih (x / 2) (by omega) (by omega) h2
      generalize Lib.bitLen (x / 2) = L at a b c ⊢
      obtain ⟨k, rfl⟩ : ∃ k, L = k + 1 := ⟨L - 1, by omega⟩
      simp only [Nat.add_sub_cancel] at b
      refine ⟨by omega, ?_, ?_⟩
      · rw [show 1 + (k + 1) - 1 = k + 1 by omega, Nat.pow_succ]; omega
      · rw [show 1 + (k + 1) = k + 1 + 1 by omega, Nat.pow_succ]; omega
theorem bitLen_top (x : BitVec 64) (h : x ≠ 0#64) : 1 ≤ Lib.bitLen x.toNat ∧ Lib.bitLen x.toNat ≤ 64 ∧ x.getLsbD (Lib.bitLen x.toNat - 1) = true ∧ ∀ j, Lib.bitLen x.toNat ≤ j → x.getLsbD j = false := by
  have h0 : x.toNat ≠ 0 := fun e => h (BitVec.eq_of_toNat_eq (by simpa using e))
  obtain ⟨a, b, c⟩ := bitLen_bounds x.toNat x.isLt h0
  have l64 := Lib.bitLen_le x.toNat 64 (Nat.le_refl _) x.isLt
  generalize Lib.bitLen x.toNat = L at *
  obtain ⟨k, rfl⟩ : ∃ k, L = k + 1 := ⟨L - 1, by omega⟩
  simp only [Nat.add_sub_cancel] at *
  refine ⟨a, l64, ?_, fun j hj => ?_⟩
  · rw [BitVec.getLsbD, Nat.testBit_eq_decide_div_mod_eq]
    have hp : 0 < 2 ^ k := Nat.two_pow_pos k
    have e1 : 1 ≤ x.toNat / 2 ^ k := (Nat.le_div_iff_mul_le hp).2 (by omega)
    have e2 : x.toNat / 2 ^ k < 2 := (Nat.div_lt_iff_lt_mul hp).2 (by rw [Nat.pow_succ] at c; omega)
    simp; omega
  · rw [BitVec.getLsbD]
    exact Nat.testBit_lt_two_pow (Nat.lt_of_lt_of_le c (Nat.pow_le_pow_right (by omega) hj))
/-- The highest bit of a word, alone. -/
def topW (x : BitVec 64) : BitVec 64 := 9223372036854775808#64 >>> (64 - Lib.bitLen x.toNat)
theorem big_one : (9223372036854775808#64 : BitVec 64) = 1#64 <<< 63 := by decide +kernel
theorem one_shl (k i : Nat) (hk : k < 64) : (1#64 <<< k : BitVec 64).getLsbD i = decide (i = k) := by
  rw [BitVec.getLsbD_shiftLeft, BitVec.getLsbD_one]
  by_cases e : i = k
  · subst e; simp [hk]
  · simp only [e, decide_false]
    by_cases h : i < k
    · simp [h]
    · have : ¬ i - k = 0 := by omega
      simp [this]
theorem topW_eq (x : BitVec 64) (h : x ≠ 0#64) : topW x = 1#64 <<< (Lib.bitLen x.toNat - 1) := by
  obtain ⟨a, b, _, _⟩ := bitLen_top x h
  unfold topW
  apply BitVec.eq_of_getLsbD_eq
  intro i hi
  rw [big_one, BitVec.getLsbD_ushiftRight, one_shl 63 _ (by omega), one_shl _ _ (by omega)]
  congr 1
  exact propext ⟨fun h => by omega, fun h => by omega⟩
theorem topW_zero : topW 0#64 = 0#64 := by decide +kernel
def oneH (k : Nat) : BitVec 64 := if k < 64 then 0#64 else 1#64 <<< (k - 64)
def oneL (k : Nat) : BitVec 64 := if k < 64 then 1#64 <<< k else 0#64
theorem hbit_one (k j : Nat) (hk : k < 128) (hj : j < 128) : hbit (oneH k) (oneL k) j = decide (j = k) := by
  unfold hbit oneH oneL
  by_cases h1 : j < 64
  · by_cases h2 : k < 64
    · rw [if_pos h1, if_pos h2, one_shl _ _ h2]
    · rw [if_pos h1, if_neg h2]; simp; omega
  · by_cases h2 : k < 64
    · rw [if_neg h1, if_pos h2]; simp; omega
    · rw [if_neg h1, if_neg h2, one_shl _ _ (by omega)]
      congr 1
      exact propext ⟨fun h => by omega, fun h => by omega⟩
/-- The numbers below n at which f holds, the greatest first. -/
def bitsDown (f : Nat → Bool) : Nat → List Nat
  | 0 => []
  | n + 1 => if f n = true then n :: bitsDown f n else bitsDown f n
theorem bitsDown_congr {f g : Nat → Bool} (n : Nat) (h : ∀ j, j < n → f j = g j) : bitsDown f n = bitsDown g n := by
  induction n with
  | zero => rfl
  | succ n ih => rw [bitsDown, bitsDown, ih (fun j hj => h j (by omega)), h n (by omega)]
theorem bitsDown_len (f : Nat → Bool) (n : Nat) : (bitsDown f n).length ≤ n := by
  induction n with
  | zero => simp [bitsDown]
  | succ n ih =>
    rw [bitsDown]
    by_cases h : f n = true
    · rw [if_pos h]; simpa using ih
    · rw [if_neg h]; omega
theorem bitsDown_none {f : Nat → Bool} {n : Nat} (h : ∀ j, j < n → f j = false) : bitsDown f n = [] := by
  induction n with
  | zero => rfl
  | succ n ih => rw [bitsDown, if_neg (by rw [h n (by omega)]; simp), ih (fun j hj => h j (by omega))]
theorem bitsDown_nil {f : Nat → Bool} {n : Nat} (h : bitsDown f n = []) : ∀ j, j < n → f j = false := by
  induction n with
  | zero => intro j hj; omega
  | succ n ih =>
    intro j hj
    rw [bitsDown] at h
    by_cases c : f n = true
    · rw [if_pos c] at h; cases h
    · rw [if_neg c] at h
      by_cases e : j = n
      · subst e; simpa using c
      · exact ih h j (by omega)
theorem bitsDown_cons {f : Nat → Bool} {n k : Nat} {ks : List Nat} (h : bitsDown f n = k :: ks) :
    k < n ∧ f k = true ∧ (∀ j, k < j → j < n → f j = false) ∧ bitsDown (fun j => f j && !decide (j = k)) n = ks := by
  induction n with
  | zero => cases h
  | succ n ih =>
    rw [bitsDown] at h
    by_cases c : f n = true
    · rw [if_pos c] at h
      injection h with e1 e2
      subst e1
      refine ⟨by omega, c, fun j h1 h2 => by omega, ?_⟩
      rw [bitsDown, if_neg (by simp), ← e2]
      exact bitsDown_congr n fun j hj => by simp [show ¬ j = n by omega]
    · rw [if_neg c] at h
      obtain ⟨h1, h2, h3, h4⟩ := ih h
      refine ⟨by omega, h2, fun j a b => ?_, ?_⟩
      · by_cases e : j = n
        · subst e; simpa using c
        · exact h3 j a (by omega)
      · rw [bitsDown, if_neg (by simp [c]), h4]
def hiT (h _l : BitVec 64) : BitVec 64 := if h = 0#64 then 0#64 else topW h
def loT (h l : BitVec 64) : BitVec 64 := if h = 0#64 then topW l else 0#64
theorem highest_one {h l : BitVec 64} {k : Nat} {ks : List Nat} (hb : bitsDown (hbit h l) 128 = k :: ks) : hiT h l = oneH k ∧ loT h l = oneL k := by
  obtain ⟨hk, hf, hab, _⟩ := bitsDown_cons hb
  unfold hiT loT oneH oneL
  by_cases c : h = 0#64
  · rw [if_pos c, if_pos c]
    have k64 : k < 64 := by
      rcases Nat.lt_or_ge k 64 with h1 | h1
      · exact h1
      · exfalso; rw [hbit, if_neg (by omega), c] at hf; simp at hf
    rw [if_pos k64, if_pos k64]
    refine ⟨rfl, ?_⟩
    rw [hbit, if_pos k64] at hf
    have hl : l ≠ 0#64 := fun e => by rw [e] at hf; simp at hf
    obtain ⟨a, b, t, o⟩ := bitLen_top l hl
    rw [topW_eq l hl]
    congr 1
    rcases Nat.lt_trichotomy k (Lib.bitLen l.toNat - 1) with x | x | x
    · have := hab (Lib.bitLen l.toNat - 1) x (by omega)
      rw [hbit, if_pos (by omega), t] at this; cases this
    · exact x.symm
    · rw [o k (by omega)] at hf; cases hf
  · rw [if_neg c, if_neg c]
    obtain ⟨a, b, t, o⟩ := bitLen_top h c
    have k64 : ¬ k < 64 := by
      intro h1
      have := hab (64 + (Lib.bitLen h.toNat - 1)) (by omega) (by omega)
      rw [hbit, if_neg (by omega), Nat.add_sub_cancel_left, t] at this; cases this
    rw [if_neg k64, if_neg k64]
    refine ⟨?_, rfl⟩
    rw [topW_eq h c]
    rw [hbit, if_neg k64] at hf
    congr 1
    rcases Nat.lt_trichotomy (k - 64) (Lib.bitLen h.toNat - 1) with x | x | x
    · have := hab (64 + (Lib.bitLen h.toNat - 1)) (by omega) (by omega)
      rw [hbit, if_neg (by omega), Nat.add_sub_cancel_left, t] at this; cases this
    · exact x.symm
    · rw [o (k - 64) (by omega)] at hf; cases hf
/-- A cube as four words. -/
structure Cb where
  vh : BitVec 64
  vl : BitVec 64
  ch : BitVec 64
  cl : BitVec 64
def Cb.cells (c : Cb) : List Value := [.int .u64 (uv c.vh), .int .u64 (uv c.vl), .int .u64 (uv c.ch), .int .u64 (uv c.cl)]
def flat (L : List Cb) : List Value := L.flatMap Cb.cells
theorem flat_len (L : List Cb) : (flat L).length = L.length * 4 := by
  induction L with
  | nil => rfl
  | cons c L ih => unfold flat at *; rw [List.flatMap_cons, List.length_append, ih]; simp [Cb.cells]; omega
theorem flat_snoc (L : List Cb) (c : Cb) : flat (L ++ [c]) = flat L ++ c.cells := by simp [flat]
/-- a, with bit k other than in b. -/
def wOther (a b : Cb) (k : Nat) : Cb := ⟨a.vh ||| ((b.vh &&& oneH k) ^^^ oneH k), a.vl ||| ((b.vl &&& oneL k) ^^^ oneL k), a.ch ||| oneH k, a.cl ||| oneL k⟩
/-- a, with bit k as in b. -/
def wSame (a b : Cb) (k : Nat) : Cb := ⟨a.vh ||| (b.vh &&& oneH k), a.vl ||| (b.vl &&& oneL k), a.ch ||| oneH k, a.cl ||| oneL k⟩
def lessP (b : Cb) : Cb → List Nat → List Cb
  | _, [] => []
  | a, k :: ks => wOther a b k :: lessP b (wSame a b k) ks
theorem lessP_len (b : Cb) (a : Cb) (ks : List Nat) : (lessP b a ks).length = ks.length := by
  induction ks generalizing a with
  | nil => rfl
  | cons k ks ih => rw [lessP, List.length_cons, ih, List.length_cons]
/-- The bits that b cares for and a does not, the highest first. -/
def openBits (a b : Cb) : List Nat := bitsDown (hbit (b.ch &&& ~~~a.ch) (b.cl &&& ~~~a.cl)) 128
end Go.Proofs.Hd
