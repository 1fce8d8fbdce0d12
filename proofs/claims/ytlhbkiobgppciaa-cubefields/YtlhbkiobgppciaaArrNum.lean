/-
  Plain facts on the number that some bits are. No conditions.
-/
import Derived.Test.YtlhbkiobgppciaaArr
namespace Go.Proofs.Hd
open Go.RowKit
/-- The number of n bits from bit lo on. -/
def valN (f : Nat → Bool) : Nat → Nat → Nat
  | _, 0 => 0
  | lo, n + 1 => (f lo).toNat + 2 * valN f (lo + 1) n
def num (f : Nat → Bool) (lo n : Nat) : BitVec 64 := BitVec.ofNat 64 (valN f lo n)
theorem num_zero (f : Nat → Bool) (lo : Nat) : num f lo 0 = 0#64 := rfl
theorem valN_bit (f : Nat → Bool) (lo n i : Nat) : (valN f lo n).testBit i = (decide (i < n) && f (lo + i)) := by
  induction n generalizing lo i with
  | zero => simp [valN]
  | succ n ih =>
    rw [valN]
    cases i with
    | zero =>
      rw [Nat.testBit_zero]
      cases f lo <;> simp <;> omega
    | succ i =>
      rw [Nat.testBit_succ]
      have e : ((f lo).toNat + 2 * valN f (lo + 1) n) / 2 = valN f (lo + 1) n := by
        have := Bool.toNat_le (f lo); omega
      rw [e, ih, show lo + 1 + i = lo + (i + 1) by omega]
      congr 1
      simp
theorem num_bit (f : Nat → Bool) (lo n i : Nat) (hn : n ≤ 64) : (num f lo n).getLsbD i = (decide (i < n) && f (lo + i)) := by
  unfold num
  rw [BitVec.getLsbD_ofNat, valN_bit]
  by_cases c : i < n
  · simp [c, show i < 64 by omega]
  · simp [c]
theorem num_step (f : Nat → Bool) (lo n : Nat) (h : 0 < lo) (b : BitVec 64) (hb : b = BitVec.ofNat 64 (f (lo - 1)).toNat) : num f lo n + num f lo n + b = num f (lo - 1) (n + 1) := by
  subst hb
  unfold num
  rw [valN, show lo - 1 + 1 = lo by omega]
  apply BitVec.eq_of_toNat_eq
  simp only [BitVec.toNat_add, BitVec.toNat_ofNat]
  omega
theorem head_num (f : Nat → Bool) (j : Nat) (hj : j < 128) : hbit (num f 64 64) (num f 0 64) j = f j := by
  unfold hbit
  by_cases c : j < 64
  · rw [if_pos c, num_bit _ _ _ _ (by omega)]; simp [c]
  · rw [if_neg c, num_bit _ _ _ _ (by omega)]; simp only [show j - 64 < 64 by omega, decide_true, Bool.true_and]; congr 1; omega
/-- A header that has these bits is their number. -/
theorem num_of_bits {h l : BitVec 64} {f : Nat → Bool} (hb : ∀ j, j < 128 → hbit h l j = f j) : num f 64 64 = h ∧ num f 0 64 = l :=
  head_ext fun j hj => by rw [head_num f j hj, hb j hj]
theorem num_get (h l : BitVec 64) (a n : Nat) (hn : n ≤ 64) : num (hbit h l) a n = getW h l a n := by
  apply BitVec.eq_of_getLsbD_eq
  intro i _
  rw [num_bit _ _ _ _ hn, get_bit _ _ _ _ _ hn]
theorem num_congr {f g : Nat → Bool} (lo n : Nat) (h : ∀ i, lo ≤ i → i < lo + n → f i = g i) : num f lo n = num g lo n := by
  have : valN f lo n = valN g lo n := by
    induction n generalizing lo with
    | zero => rfl
    | succ n ih => rw [valN, valN, h lo (by omega) (by omega), ih (lo + 1) (fun i h1 h2 => h i (by omega) (by omega))]
  unfold num; rw [this]
theorem uv_twice (x : BitVec 64) : IntKind.u64.wrap (uv x * 2) = uv (x + x) := by
  rw [← uv_add]; congr 1; omega
theorem uv_add_one (x : BitVec 64) : IntKind.u64.wrap (uv x + 1) = uv (x + 1#64) := by
  rw [uv_one, uv_add]
theorem uv_wrap (x : BitVec 64) : IntKind.u64.wrap (uv x) = uv x := by
  rw [IntKind.wrap_u64]; have := uv_nonneg x; have := uv_lt x; omega
theorem num_step1 (f : Nat → Bool) (m n : Nat) (h : f m = true) : num f (m + 1) n + num f (m + 1) n + 1#64 = num f m (n + 1) :=
  num_step f (m + 1) n (by omega) 1#64 (by rw [Nat.add_sub_cancel, h]; rfl)
theorem num_step0 (f : Nat → Bool) (m n : Nat) (h : f m = false) : num f (m + 1) n + num f (m + 1) n = num f m (n + 1) := by
  have := num_step f (m + 1) n (by omega) 0#64 (by rw [Nat.add_sub_cancel, h]; rfl)
  rwa [BitVec.add_zero] at this
/-- The two words of a header whose bits from k on are known. -/
def hiW (f : Nat → Bool) (k : Nat) : BitVec 64 := num f (max k 64) (128 - max k 64)
def loW (f : Nat → Bool) (k : Nat) : BitVec 64 := num f (min k 64) (64 - min k 64)
theorem hiW_top (f : Nat → Bool) : hiW f 128 = 0#64 := num_zero f 128
theorem loW_top (f : Nat → Bool) : loW f 128 = 0#64 := num_zero f 64
theorem hiW_end (f : Nat → Bool) : hiW f 0 = num f 64 64 := rfl
theorem loW_end (f : Nat → Bool) : loW f 0 = num f 0 64 := rfl
theorem hiW_lo (f : Nat → Bool) (m : Nat) (h : m < 64) : hiW f (m + 1) = hiW f m := by
  unfold hiW; rw [show max (m + 1) 64 = 64 by omega, show max m 64 = 64 by omega]
theorem loW_hi (f : Nat → Bool) (m : Nat) (h : ¬ m < 64) : loW f (m + 1) = loW f m := by
  unfold loW; rw [show min (m + 1) 64 = 64 by omega, show min m 64 = 64 by omega]
theorem hiW_1 (f : Nat → Bool) (m : Nat) (h : ¬ m < 64) (h' : m < 128) (hf : f m = true) : hiW f (m + 1) + hiW f (m + 1) + 1#64 = hiW f m := by
  unfold hiW; rw [show max (m + 1) 64 = m + 1 by omega, show max m 64 = m by omega, num_step1 f m _ hf, show 128 - (m + 1) + 1 = 128 - m by omega]
theorem hiW_0 (f : Nat → Bool) (m : Nat) (h : ¬ m < 64) (h' : m < 128) (hf : f m = false) : hiW f (m + 1) + hiW f (m + 1) = hiW f m := by
  unfold hiW; rw [show max (m + 1) 64 = m + 1 by omega, show max m 64 = m by omega, num_step0 f m _ hf, show 128 - (m + 1) + 1 = 128 - m by omega]
theorem loW_1 (f : Nat → Bool) (m : Nat) (h : m < 64) (hf : f m = true) : loW f (m + 1) + loW f (m + 1) + 1#64 = loW f m := by
  unfold loW; rw [show min (m + 1) 64 = m + 1 by omega, show min m 64 = m by omega, num_step1 f m _ hf, show 64 - (m + 1) + 1 = 64 - m by omega]
theorem loW_0 (f : Nat → Bool) (m : Nat) (h : m < 64) (hf : f m = false) : loW f (m + 1) + loW f (m + 1) = loW f m := by
  unfold loW; rw [show min (m + 1) 64 = m + 1 by omega, show min m 64 = m by omega, num_step0 f m _ hf, show 64 - (m + 1) + 1 = 64 - m by omega]
attribute [irreducible] num hiW loW
end Go.Proofs.Hd
