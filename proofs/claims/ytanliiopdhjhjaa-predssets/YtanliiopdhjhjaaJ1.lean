/-
  Plain mathematics on words of 64 bits, headers of 128 bits and their counts of ones: no program in sight. No conditions.
  How a header that is handed in by value reads, and that it reads so again. No conditions.
  How a cube that is handed in by value reads, and that it reads so again. No conditions.
  Plain facts on worlds: what lies in memory stays behind a call that changes nothing that was there. No program in sight. No conditions.
  What a call adds to memory and no more (Grew); contracts of cmp.Compare and cmp.isNaN at ints. No conditions.
  Plain mathematics on cubes: headers of which some bits are fixed, as four words of 64 bits. No program in sight. No conditions.
  Plain mathematics: a header's highest bit, its bits from the highest to the lowest, and the difference of two cubes as a list. No program in sight. No conditions.
  Contracts: And, Or, Xor and Less of package head return the bitwise results, and change nothing that was there. No conditions.
  Plain facts on worlds: blocks known whole, rows that a call owns, appending what lies anywhere to such a row. No program in sight. No conditions.
  Contracts of package cube: Sound, Has, Make, All, Set, agree, withBit: what they return, and that they change nothing that was there. No conditions.
  Rules in memory, as rows of twelve cells; equality of two rules; contracts of package rule: the order's method, Same, Before, Set. No conditions.
  Lists of rules: the order of priorities that keeps equals as they stand; rules in memory as rows of twelve cells. Conditions as each theorem lists them.
-/
import Derived.WalkKit
import Derived.WalkSpells
import Derived.WalkLawsBesides
import Derived.Laws.BitsAllLaws
import Derived.Test.YtanliiopdhjhjaaProg
import Derived.Test.YtanliiopdhjhjaaChecked
import Derived.ProofKit
import Derived.OpenShut
import Derived.Lib.SmallJoins
import Derived.KernelRfl
import Derived.Below
import Derived.Sort.Grow
import Derived.Deep.RegionHeld3
import Derived.Lib.BitFns
import Derived.Deep.QuietTactic
import Derived.BigQuiet
import Derived.Laws.StructEq
import Derived.Outline
import Derived.Deep.AppendLies
import Derived.Laws.OwnMore
import Derived.OneCell
import Derived.Deep.Onto
import Derived.Maps.AppendAt
import Derived.Laws.AppendOwnNone
import Derived.BigFrame
import Derived.Lib.AppendStr
import Derived.Lib.AppendZeros
namespace Go.Proofs.Hd
open Go.RowKit
/-- A word of 64 bits as Go's uint64. -/
def uv (x : BitVec 64) : Int := (x.toNat : Int)
theorem big : ((2 ^ 64 : Nat) : Int) = 18446744073709551616 := by rfl
theorem uv_nonneg (x : BitVec 64) : 0 ≤ uv x := by unfold uv; omega
theorem uv_lt (x : BitVec 64) : uv x < 18446744073709551616 := by unfold uv; have := x.isLt; omega
theorem uv_inj {a b : BitVec 64} (h : uv a = uv b) : a = b := by
  unfold uv at h; exact BitVec.eq_of_toNat_eq (by omega)
theorem uv_and (a b : BitVec 64) : bits .and .u64 (uv a) (uv b) = uv (a &&& b) := by
  unfold uv; rw [u64_and_nat _ _ a.isLt b.isLt, BitVec.toNat_and]
theorem uv_or (a b : BitVec 64) : bits .or .u64 (uv a) (uv b) = uv (a ||| b) := by
  unfold uv; rw [u64_or_nat _ _ a.isLt b.isLt, BitVec.toNat_or]
theorem uv_xor (a b : BitVec 64) : bits .xor .u64 (uv a) (uv b) = uv (a ^^^ b) := by
  unfold uv; rw [u64_xor_nat _ _ a.isLt b.isLt, BitVec.toNat_xor]
theorem uv_andNot (a b : BitVec 64) : bits .andNot .u64 (uv a) (uv b) = uv (a &&& ~~~b) := by
  unfold uv; rw [u64_andNot_nat _ _ a.isLt b.isLt, BitVec.toNat_and, BitVec.toNat_not]
theorem uv_shr (a : BitVec 64) (k : Nat) : uv a / 2 ^ k = uv (a >>> k) := by
  unfold uv; rw [BitVec.toNat_ushiftRight, Nat.shiftRight_eq_div_pow]; norm_cast
theorem uv_shl (a : BitVec 64) (k : Nat) : IntKind.u64.wrap (uv a * 2 ^ k) = uv (a <<< k) := by
  unfold uv; rw [BitVec.toNat_shiftLeft, Nat.shiftLeft_eq, IntKind.wrap_u64, Int.natCast_emod, big, Int.natCast_mul, Int.natCast_pow]; rfl
theorem uv_add (a b : BitVec 64) : IntKind.u64.wrap (uv a + uv b) = uv (a + b) := by
  unfold uv; rw [BitVec.toNat_add, IntKind.wrap_u64, Int.natCast_emod, big, Int.natCast_add]
theorem uv_sub (a b : BitVec 64) : IntKind.u64.wrap (uv a - uv b) = uv (a - b) := by
  unfold uv; rw [BitVec.toNat_sub, IntKind.wrap_u64]
  have := a.isLt; have := b.isLt
  omega
theorem uv_beq (a b : BitVec 64) : (uv a == uv b) = (a == b) := by
  rw [Bool.eq_iff_iff]; simp only [beq_iff_eq]; exact ⟨uv_inj, fun h => by rw [h]⟩
theorem uv_one : (1 : Int) = uv 1#64 := rfl
theorem uv_zero : (0 : Int) = uv 0#64 := rfl
theorem uv_shl_one (k : Nat) : IntKind.u64.wrap (2 ^ k) = uv (1#64 <<< k) := by
  rw [← uv_shl, ← uv_one, Int.one_mul]
theorem uv_sub_one (a : BitVec 64) : IntKind.u64.wrap (uv a - 1) = uv (a - 1#64) := by
  rw [uv_one, uv_sub]
theorem uv_and_one (a : BitVec 64) : bits .and .u64 (uv a) 1 = uv (a &&& 1#64) := by
  rw [uv_one, uv_and]
theorem uv_div_2 (a : BitVec 64) : uv a / (2 : Int) = uv (a >>> 1) := uv_shr a 1
theorem uv_div_4 (a : BitVec 64) : uv a / (4 : Int) = uv (a >>> 2) := uv_shr a 2
theorem uv_div_16 (a : BitVec 64) : uv a / (16 : Int) = uv (a >>> 4) := uv_shr a 4
theorem uv_div_256 (a : BitVec 64) : uv a / (256 : Int) = uv (a >>> 8) := uv_shr a 8
theorem uv_div_65536 (a : BitVec 64) : uv a / (65536 : Int) = uv (a >>> 16) := uv_shr a 16
theorem uv_div_big (a : BitVec 64) : uv a / (4294967296 : Int) = uv (a >>> 32) := uv_shr a 32
theorem uv_and_m0 (a : BitVec 64) : bits .and .u64 (uv a) (6148914691236517205 : Int) = uv (a &&& 6148914691236517205#64) := uv_and a 6148914691236517205#64
theorem uv_and_m1 (a : BitVec 64) : bits .and .u64 (uv a) (3689348814741910323 : Int) = uv (a &&& 3689348814741910323#64) := uv_and a 3689348814741910323#64
theorem uv_and_m2 (a : BitVec 64) : bits .and .u64 (uv a) (1085102592571150095 : Int) = uv (a &&& 1085102592571150095#64) := uv_and a 1085102592571150095#64
/-- How many of the lowest k bits are 1. -/
def cnt (p : Nat → Bool) : Nat → Nat
  | 0 => 0
  | k + 1 => cnt p k + (p k).toNat
def ones (a : BitVec 64) : Nat := cnt a.getLsbD 64
/-- The lowest n bits. -/
def low (n : Nat) : BitVec 64 := (1#64 <<< n) - 1#64
def upHi (v : BitVec 64) (n : Nat) : BitVec 64 := if 64 ≤ n then v <<< (n - 64) else v >>> (64 - n)
def upLo (v : BitVec 64) (n : Nat) : BitVec 64 := if 64 ≤ n then 0#64 else v <<< n
theorem and_split (n a b c d : Nat) (ha : a < 2 ^ n) (hc : c < 2 ^ n) : (a + 2 ^ n * b) &&& (c + 2 ^ n * d) = (a &&& c) + 2 ^ n * (b &&& d) := by
  have hac : a &&& c < 2 ^ n := Nat.lt_of_le_of_lt Nat.and_le_left ha
  apply Nat.eq_of_testBit_eq
  intro i
  rw [Nat.testBit_and, Nat.add_comm a, Nat.add_comm c, Nat.add_comm (a &&& c), Nat.testBit_two_pow_mul_add _ ha, Nat.testBit_two_pow_mul_add _ hc, Nat.testBit_two_pow_mul_add _ hac]
  by_cases h : i < n
  · simp [h]
  · simp [h]
/-- The byte v, k times. -/
def rep (v : Nat) : Nat → Nat
  | 0 => 0
  | k + 1 => v + 256 * rep v k
def f1 (c : Nat) : Nat := (c / 2 &&& 85) + (c &&& 85)
def f2 (c : Nat) : Nat := (c / 4 &&& 51) + (c &&& 51)
def g (c : Nat) : Nat := (f2 (f1 c) / 16 + f2 (f1 c)) % 16
def F1 (k x : Nat) : Nat := (x / 2 &&& rep 85 k) + (x &&& rep 85 k)
def F2 (k x : Nat) : Nat := (x / 4 &&& rep 51 k) + (x &&& rep 51 k)
def F3 (k x : Nat) : Nat := (x / 16 + x) &&& rep 15 k
theorem and256 (a b c d : Nat) (ha : a < 256) (hc : c < 256) : (a + 256 * b) &&& (c + 256 * d) = (a &&& c) + 256 * (b &&& d) := and_split 8 a b c d ha hc
set_option maxRecDepth 100000 in
theorem small1 : ∀ c < 256, ∀ t < 2, (c / 2 + 128 * t) &&& 85 = c / 2 &&& 85 := by decide +kernel
set_option maxRecDepth 100000 in
theorem small2 : ∀ c < 256, ∀ t < 4, (c / 4 + 64 * t) &&& 51 = c / 4 &&& 51 := by decide +kernel
theorem small3 : ∀ c < 256, f1 c < 256 ∧ f2 (f1 c) ≤ 68 ∧ f2 (f1 c) % 16 ≤ 4 ∧ f2 (f1 c) / 16 ≤ 4 ∧ g c ≤ 8 := by decide +kernel
theorem small4 : ∀ c < 256, g c = cnt c.testBit 8 := by decide +kernel
theorem F1_succ (k x : Nat) : F1 (k + 1) x = f1 (x % 256) + 256 * F1 k (x / 256) := by
  unfold F1 f1
  have e1 : x / 2 = (x % 256 / 2 + 128 * (x / 256 % 2)) + 256 * (x / 256 / 2) := by omega
  have e2 : x = x % 256 + 256 * (x / 256) := by omega
  have hs := small1 (x % 256) (by omega) (x / 256 % 2) (by omega)
  show (x / 2 &&& (85 + 256 * rep 85 k)) + (x &&& (85 + 256 * rep 85 k)) = _
  have a1 : x / 2 &&& (85 + 256 * rep 85 k) = (x % 256 / 2 &&& 85) + 256 * (x / 256 / 2 &&& rep 85 k) := by
    rw [← hs]; conv => lhs; rw [e1]
    exact and256 _ _ _ _ (by omega) (by omega)
  have a2 : x &&& (85 + 256 * rep 85 k) = (x % 256 &&& 85) + 256 * (x / 256 &&& rep 85 k) := by
    conv => lhs; rw [e2]
    exact and256 _ _ _ _ (by omega) (by omega)
  rw [a1, a2]; omega
theorem F2_succ (k x : Nat) : F2 (k + 1) x = f2 (x % 256) + 256 * F2 k (x / 256) := by
  unfold F2 f2
  have e1 : x / 4 = (x % 256 / 4 + 64 * (x / 256 % 4)) + 256 * (x / 256 / 4) := by omega
  have e2 : x = x % 256 + 256 * (x / 256) := by omega
  have hs := small2 (x % 256) (by omega) (x / 256 % 4) (by omega)
  show (x / 4 &&& (51 + 256 * rep 51 k)) + (x &&& (51 + 256 * rep 51 k)) = _
  have a1 : x / 4 &&& (51 + 256 * rep 51 k) = (x % 256 / 4 &&& 51) + 256 * (x / 256 / 4 &&& rep 51 k) := by
    rw [← hs]; conv => lhs; rw [e1]
    exact and256 _ _ _ _ (by omega) (by omega)
  have a2 : x &&& (51 + 256 * rep 51 k) = (x % 256 &&& 51) + 256 * (x / 256 &&& rep 51 k) := by
    conv => lhs; rw [e2]
    exact and256 _ _ _ _ (by omega) (by omega)
  rw [a1, a2]; omega
def G (k x : Nat) : Nat := F3 k (F2 k (F1 k x))
theorem F21_succ (k x : Nat) : F2 (k + 1) (F1 (k + 1) x) = f2 (f1 (x % 256)) + 256 * F2 k (F1 k (x / 256)) := by
  have h := (small3 (x % 256) (by omega)).1
  rw [F2_succ, F1_succ]
  have e1 : (f1 (x % 256) + 256 * F1 k (x / 256)) % 256 = f1 (x % 256) := by omega
  have e2 : (f1 (x % 256) + 256 * F1 k (x / 256)) / 256 = F1 k (x / 256) := by omega
  rw [e1, e2]
theorem F21_low (k x : Nat) : F2 k (F1 k x) % 16 ≤ 4 := by
  cases k with
  | zero => simp [F2, F1, rep]
  | succ k =>
    rw [F21_succ]
    have h := (small3 (x % 256) (by omega)).2.2.1
    omega
theorem G_succ (k x : Nat) : G (k + 1) x = g (x % 256) + 256 * G k (x / 256) := by
  unfold G
  rw [F21_succ]
  have h := small3 (x % 256) (by omega)
  have hl := F21_low k (x / 256)
  unfold F3 g
  generalize F2 k (F1 k (x / 256)) = z at *
  generalize f2 (f1 (x % 256)) = s at *
  have e : (s + 256 * z) / 16 + (s + 256 * z) = (s / 16 + s + 16 * (z % 16)) + 256 * (z / 16 + z) := by omega
  rw [e]
  show (_ &&& (15 + 256 * rep 15 k)) = _
  rw [and256 _ _ _ _ (by omega) (by omega)]
  have e2 : (s / 16 + s + 16 * (z % 16)) &&& 15 = (s / 16 + s) % 16 := by
    rw [show (15 : Nat) = 2 ^ 4 - 1 by rfl, Nat.and_two_pow_sub_one_eq_mod]; omega
  rw [e2]
def P : Nat → Nat → Nat
  | 0, _ => 0
  | k + 1, x => g (x % 256) + P k (x / 256)
theorem cnt_congr {p q : Nat → Bool} (k : Nat) (h : ∀ i, i < k → p i = q i) : cnt p k = cnt q k := by
  induction k with
  | zero => rfl
  | succ k ih => rw [cnt, cnt, ih (fun i hi => h i (by omega)), h k (by omega)]
theorem cnt_add (p : Nat → Bool) (m k : Nat) : cnt p (m + k) = cnt p m + cnt (fun i => p (m + i)) k := by
  induction k with
  | zero => rfl
  | succ k ih => rw [← Nat.add_assoc, cnt, ih, cnt, Nat.add_assoc]
theorem P_cnt (k x : Nat) : P k x = cnt x.testBit (8 * k) := by
  induction k generalizing x with
  | zero => rfl
  | succ k ih =>
    rw [P, ih, show 8 * (k + 1) = 8 + 8 * k by omega, cnt_add, small4 _ (by omega)]
    congr 1
    · refine cnt_congr 8 fun i hi => ?_
      rw [show (256 : Nat) = 2 ^ 8 by rfl, Nat.testBit_mod_two_pow]; simp [hi]
    · refine cnt_congr _ fun i _ => ?_
      rw [show (256 : Nat) = 2 ^ 8 by rfl, Nat.testBit_div_two_pow, Nat.add_comm]
def s1 (a : BitVec 64) : BitVec 64 := (a >>> 1 &&& 6148914691236517205#64) + (a &&& 6148914691236517205#64)
def s2 (a : BitVec 64) : BitVec 64 := (a >>> 2 &&& 3689348814741910323#64) + (a &&& 3689348814741910323#64)
def s3 (a : BitVec 64) : BitVec 64 := a >>> 4 + a &&& 1085102592571150095#64
def s4 (a : BitVec 64) : BitVec 64 := a + a >>> 8
def s5 (a : BitVec 64) : BitVec 64 := a + a >>> 16
def s6 (a : BitVec 64) : BitVec 64 := a + a >>> 32
def swar (a : BitVec 64) : BitVec 64 := s6 (s5 (s4 (s3 (s2 (s1 a)))))
theorem rep85 : rep 85 8 = 6148914691236517205 := by decide +kernel
theorem rep51 : rep 51 8 = 3689348814741910323 := by decide +kernel
theorem rep15 : rep 15 8 = 1085102592571150095 := by decide +kernel
theorem s1_nat (a : BitVec 64) : (s1 a).toNat = F1 8 a.toNat := by
  unfold s1 F1
  rw [BitVec.toNat_add, BitVec.toNat_and, BitVec.toNat_and, BitVec.toNat_ushiftRight, Nat.shiftRight_eq_div_pow, rep85]
  have h1 : a.toNat / 2 &&& 6148914691236517205 ≤ 6148914691236517205 := Nat.and_le_right
  have h2 : a.toNat &&& 6148914691236517205 ≤ 6148914691236517205 := Nat.and_le_right
  rw [show (6148914691236517205#64).toNat = 6148914691236517205 by decide +kernel, show (2 : Nat) ^ 1 = 2 by rfl, show (2 : Nat) ^ 64 = 18446744073709551616 by decide +kernel]
  omega
theorem s2_nat (a : BitVec 64) : (s2 a).toNat = F2 8 a.toNat := by
  unfold s2 F2
  rw [BitVec.toNat_add, BitVec.toNat_and, BitVec.toNat_and, BitVec.toNat_ushiftRight, Nat.shiftRight_eq_div_pow, rep51]
  have h1 : a.toNat / 4 &&& 3689348814741910323 ≤ 3689348814741910323 := Nat.and_le_right
  have h2 : a.toNat &&& 3689348814741910323 ≤ 3689348814741910323 := Nat.and_le_right
  rw [show (3689348814741910323#64).toNat = 3689348814741910323 by decide +kernel, show (2 : Nat) ^ 2 = 4 by rfl, show (2 : Nat) ^ 64 = 18446744073709551616 by decide +kernel]
  omega
theorem F2_le (x : Nat) : F2 8 x ≤ 7378697629483820646 := by
  unfold F2; rw [rep51]
  have h1 : x / 4 &&& 3689348814741910323 ≤ 3689348814741910323 := Nat.and_le_right
  have h2 : x &&& 3689348814741910323 ≤ 3689348814741910323 := Nat.and_le_right
  omega
theorem s3_nat (a : BitVec 64) (h : a.toNat ≤ 7378697629483820646) : (s3 a).toNat = F3 8 a.toNat := by
  unfold s3 F3
  rw [BitVec.toNat_and, BitVec.toNat_add, BitVec.toNat_ushiftRight, Nat.shiftRight_eq_div_pow, rep15]
  rw [show (1085102592571150095#64).toNat = 1085102592571150095 by decide +kernel, show (2 : Nat) ^ 4 = 16 by rfl, show (2 : Nat) ^ 64 = 18446744073709551616 by decide +kernel]
  rw [Nat.mod_eq_of_lt (by omega)]
theorem s321_nat (a : BitVec 64) : (s3 (s2 (s1 a))).toNat = G 8 a.toNat := by
  rw [s3_nat _ (by rw [s2_nat]; exact F2_le _), s2_nat, s1_nat]; rfl
theorem div_of (x L R m : Nat) (h : x = L + m * R) (hl : L < m) : x / m = R := by
  rw [h, Nat.add_mul_div_left _ _ (by omega), Nat.div_eq_of_lt hl, Nat.zero_add]
theorem tail_sum (p0 p1 p2 p3 p4 p5 p6 p7 : Nat) (h0 : p0 ≤ 8) (h1 : p1 ≤ 8) (h2 : p2 ≤ 8) (h3 : p3 ≤ 8) (h4 : p4 ≤ 8) (h5 : p5 ≤ 8) (h6 : p6 ≤ 8) (h7 : p7 ≤ 8) (x y z : Nat)
    (hx : x = p0 + 256 * (p1 + 256 * (p2 + 256 * (p3 + 256 * (p4 + 256 * (p5 + 256 * (p6 + 256 * p7)))))))
    (hy : y = (x + x / 256) % 18446744073709551616) (hz : z = (y + y / 65536) % 18446744073709551616) :
    (z + z / 4294967296) % 18446744073709551616 % 128 = p0 + (p1 + (p2 + (p3 + (p4 + (p5 + (p6 + p7)))))) := by
  have y1 : y = (p0 + p1) + 256 * ((p1 + p2) + 256 * ((p2 + p3) + 256 * ((p3 + p4) + 256 * ((p4 + p5) + 256 * ((p5 + p6) + 256 * ((p6 + p7) + 256 * p7)))))) := by omega
  have yd : y / 65536 = (p2 + p3) + 256 * ((p3 + p4) + 256 * ((p4 + p5) + 256 * ((p5 + p6) + 256 * ((p6 + p7) + 256 * p7)))) :=
    div_of y ((p0 + p1) + 256 * (p1 + p2)) _ 65536 (by omega) (by omega)
  have z1 : z = (p0 + p1 + p2 + p3) + 256 * ((p1 + p2 + p3 + p4) + 256 * ((p2 + p3 + p4 + p5) + 256 * ((p3 + p4 + p5 + p6) + 256 * ((p4 + p5 + p6 + p7) + 256 * ((p5 + p6 + p7) + 256 * ((p6 + p7) + 256 * p7)))))) := by
    rw [hz, yd, Nat.mod_eq_of_lt (by omega)]; omega
  clear hx hy hz yd y1
  have zd : z / 4294967296 = (p4 + p5 + p6 + p7) + 256 * ((p5 + p6 + p7) + 256 * ((p6 + p7) + 256 * p7)) :=
    div_of z ((p0 + p1 + p2 + p3) + 256 * ((p1 + p2 + p3 + p4) + 256 * ((p2 + p3 + p4 + p5) + 256 * (p3 + p4 + p5 + p6)))) _ 4294967296 (by omega) (by omega)
  rw [zd, Nat.mod_eq_of_lt (a := z + _) (by omega)]
  have e : z + ((p4 + p5 + p6 + p7) + 256 * ((p5 + p6 + p7) + 256 * ((p6 + p7) + 256 * p7))) = (p0 + (p1 + (p2 + (p3 + (p4 + (p5 + (p6 + p7))))))) + 128 * (2 * ((p1 + p2 + p3 + p4) + (p5 + p6 + p7) + 256 * ((p2 + p3 + p4 + p5) + (p6 + p7) + 256 * ((p3 + p4 + p5 + p6) + p7 + 256 * ((p4 + p5 + p6 + p7) + 256 * ((p5 + p6 + p7) + 256 * ((p6 + p7) + 256 * p7))))))) := by omega
  rw [e, Nat.add_mul_mod_self_left, Nat.mod_eq_of_lt (by omega)]
theorem step_nat (a : BitVec 64) (k : Nat) : (a + a >>> k).toNat = (a.toNat + a.toNat / 2 ^ k) % 18446744073709551616 := by
  rw [BitVec.toNat_add, BitVec.toNat_ushiftRight, Nat.shiftRight_eq_div_pow, show (2 : Nat) ^ 64 = 18446744073709551616 by decide +kernel]
theorem g_le (c : Nat) : g (c % 256) ≤ 8 := (small3 (c % 256) (by omega)).2.2.2.2
theorem swar_nat (a : BitVec 64) : (swar a).toNat % 128 = ones a := by
  have hG := s321_nat a
  have e : ones a = P 8 a.toNat := by rw [P_cnt]; rfl
  rw [e]
  simp only [G_succ] at hG
  rw [show ∀ x, G 0 x = 0 from fun x => by simp [G, F3, rep]] at hG
  simp only [P]
  have t := tail_sum (g (a.toNat % 256)) _ _ _ _ _ _ _ (g_le a.toNat) (g_le (a.toNat / 256)) (g_le (a.toNat / 256 / 256)) (g_le (a.toNat / 256 / 256 / 256)) (g_le (a.toNat / 256 / 256 / 256 / 256)) (g_le (a.toNat / 256 / 256 / 256 / 256 / 256)) (g_le (a.toNat / 256 / 256 / 256 / 256 / 256 / 256)) (g_le (a.toNat / 256 / 256 / 256 / 256 / 256 / 256 / 256))
    (s3 (s2 (s1 a))).toNat _ _ hG rfl rfl
  unfold swar s6 s5 s4
  rw [step_nat, step_nat, step_nat]
  exact t
theorem and127 (z : BitVec 64) : bits .and .i64 (wrap64 (uv z)) 127 = ((z.toNat % 128 : Nat) : Int) := by
  unfold bits
  have e : BitVec.ofInt IntKind.i64.bits (wrap64 (uv z)) = z := by
    apply BitVec.eq_of_toNat_eq
    show (BitVec.ofInt 64 (wrap64 (uv z))).toNat = z.toNat
    rw [BitVec.toNat_ofInt]; unfold wrap64 uv; have := z.isLt
    rw [big]; omega
  have e2 : BitVec.ofInt IntKind.i64.bits 127 = 127#64 := rfl
  rw [e, e2]
  show IntKind.i64.wrap ((z &&& 127#64).toNat : Int) = _
  rw [BitVec.toNat_and, show (127#64 : BitVec 64).toNat = 2 ^ 7 - 1 by rfl, Nat.and_two_pow_sub_one_eq_mod]
  rw [IntKind.wrap_i64]; omega
theorem swar_ones (a : BitVec 64) : bits .and .i64 (wrap64 (uv (swar a))) 127 = (ones a : Int) := by
  rw [and127, swar_nat]
theorem cnt_le (p : Nat → Bool) (k : Nat) : cnt p k ≤ k := by
  induction k with
  | zero => exact Nat.le_refl 0
  | succ k ih => rw [cnt]; have := Bool.toNat_le (p k); omega
theorem ones_le (a : BitVec 64) : ones a ≤ 64 := cnt_le _ _
/-- Bit n of a header. -/
def hbit (h l : BitVec 64) (n : Nat) : Bool := if n < 64 then l.getLsbD n else h.getLsbD (n - 64)
theorem low_nat (n : Nat) (h : n ≤ 64) : (low n).toNat = 2 ^ n - 1 := by
  unfold low
  have hp : 0 < 2 ^ n := Nat.two_pow_pos n
  rw [BitVec.toNat_sub, BitVec.toNat_shiftLeft, Nat.shiftLeft_eq]
  rw [show (1#64 : BitVec 64).toNat = 1 by rfl, Nat.one_mul]
  by_cases e : n = 64
  · subst e; decide +kernel
  · have hlt : 2 ^ n < 2 ^ 64 := Nat.pow_lt_pow_right (by omega) (by omega)
    rw [Nat.mod_eq_of_lt hlt]
    generalize 2 ^ n = p at *
    rw [show (2 : Nat) ^ 64 = 18446744073709551616 by decide +kernel] at *
    omega
theorem low_bit (n i : Nat) (h : n ≤ 64) : (low n).getLsbD i = decide (i < n) := by
  rw [BitVec.getLsbD, low_nat n h, Nat.testBit_two_pow_sub_one]
theorem up_bit (v : BitVec 64) (n j : Nat) (hj : j < 128) : hbit (upHi v n) (upLo v n) j = (decide (n ≤ j) && v.getLsbD (j - n)) := by
  unfold hbit upHi upLo
  by_cases hn : 64 ≤ n
  · rw [if_pos hn, if_pos hn]
    by_cases h : j < 64
    · rw [if_pos h]; simp [show ¬ n ≤ j by omega]
    · rw [if_neg h, BitVec.getLsbD_shiftLeft]
      by_cases hc : n ≤ j
      · simp only [show j - 64 < 64 by omega, show ¬ j - 64 < n - 64 by omega, hc, decide_true, decide_false, Bool.not_false, Bool.true_and]
        congr 1; omega
      · simp only [show j - 64 < n - 64 by omega, hc, decide_true, decide_false, Bool.not_true, Bool.and_false, Bool.false_and]
  · rw [if_neg hn, if_neg hn]
    by_cases h : j < 64
    · rw [if_pos h, BitVec.getLsbD_shiftLeft]
      by_cases hc : n ≤ j
      · simp [h, hc, show ¬ j < n by omega]
      · simp [h, hc, show j < n by omega]
    · rw [if_neg h, BitVec.getLsbD_ushiftRight]
      simp only [show n ≤ j by omega, decide_true, Bool.true_and]; congr 1; omega
/-- The header in which exactly the bits of a field are 1. -/
def maskH (a n : Nat) : BitVec 64 := low (a + n - 64) &&& ~~~ low (a - 64)
def maskL (a n : Nat) : BitVec 64 := low (min (a + n) 64) &&& ~~~ low (min a 64)
def putH (h : BitVec 64) (a n : Nat) (v : BitVec 64) : BitVec 64 := (h &&& ~~~ upHi (low n) a) ||| upHi v a
def putL (l : BitVec 64) (a n : Nat) (v : BitVec 64) : BitVec 64 := (l &&& ~~~ upLo (low n) a) ||| upLo v a
theorem hbit_and (h l h' l' : BitVec 64) (j : Nat) : hbit (h &&& h') (l &&& l') j = (hbit h l j && hbit h' l' j) := by
  unfold hbit; by_cases c : j < 64 <;> simp [c]
theorem hbit_or (h l h' l' : BitVec 64) (j : Nat) : hbit (h ||| h') (l ||| l') j = (hbit h l j || hbit h' l' j) := by
  unfold hbit; by_cases c : j < 64 <;> simp [c]
theorem hbit_andNot (h l h' l' : BitVec 64) (j : Nat) (hj : j < 128) : hbit (h &&& ~~~ h') (l &&& ~~~ l') j = (hbit h l j && !hbit h' l' j) := by
  unfold hbit; by_cases c : j < 64
  · simp [c]
  · simp [c, show j - 64 < 64 by omega]
theorem hbit_low (n j : Nat) (hn : n ≤ 128) (hj : j < 128) : hbit (low (n - 64)) (low (min n 64)) j = decide (j < n) := by
  unfold hbit
  by_cases c : j < 64
  · rw [if_pos c, low_bit _ _ (by omega)]; congr 1; apply propext; omega
  · rw [if_neg c, low_bit _ _ (by omega)]; congr 1; apply propext; omega
theorem mask_bit (a n j : Nat) (h : a + n ≤ 128) (hj : j < 128) : hbit (maskH a n) (maskL a n) j = (decide (a ≤ j) && decide (j < a + n)) := by
  unfold maskH maskL
  rw [hbit_andNot _ _ _ _ _ hj, hbit_low _ _ h hj, hbit_low _ _ (by omega) hj, Bool.and_comm]
  congr 1; rw [← decide_not]; congr 1; apply propext; omega
theorem put_bit (h l : BitVec 64) (a n : Nat) (v : BitVec 64) (j : Nat) (hn : n ≤ 64) (hj : j < 128) :
    hbit (putH h a n v) (putL l a n v) j = ((hbit h l j && !(decide (a ≤ j) && decide (j < a + n))) || (decide (a ≤ j) && v.getLsbD (j - a))) := by
  unfold putH putL
  rw [hbit_or, hbit_andNot _ _ _ _ _ hj, up_bit _ _ _ hj, up_bit _ _ _ hj, low_bit _ _ hn]
  congr 3
  by_cases c : a ≤ j
  · simp only [c, decide_true, Bool.true_and]; congr 1; apply propext; omega
  · simp [c]
/-- A header is its bits. -/
theorem head_ext {h l h' l' : BitVec 64} (hb : ∀ j, j < 128 → hbit h l j = hbit h' l' j) : h = h' ∧ l = l' := by
  constructor
  · apply BitVec.eq_of_getLsbD_eq
    intro i hi
    have := hb (i + 64) (by omega)
    simpa [hbit, show ¬ i + 64 < 64 by omega] using this
  · apply BitVec.eq_of_getLsbD_eq
    intro i hi
    have := hb i (by omega)
    simpa [hbit, hi] using this
theorem cnt_128 (h l : BitVec 64) : cnt (hbit h l) 128 = ones h + ones l := by
  rw [show (128 : Nat) = 64 + 64 by rfl, cnt_add, Nat.add_comm]
  have e1 : cnt (fun i => hbit h l (64 + i)) 64 = ones h := cnt_congr 64 fun i hi => by simp [hbit, show ¬ 64 + i < 64 by omega]
  have e2 : cnt (hbit h l) 64 = ones l := cnt_congr 64 fun i hi => by simp [hbit, hi]
  rw [e1, e2]
end Go.Proofs.Hd

namespace Go.Proofs.Ytanliiopdhjhjaa
open Go.ChangeShapes Go.WideShapes Go.ChangeAt Go.RowKit Go.Joins Go.Proofs.Hd

theorem own : ownKnob Try.prog.godebug = none := by kernel_rfl
theorem cellsHead : Try.prog.cellsOf 41 = 2 := by kernel_rfl

theorem uv_of (a : Int) (h : (Lit.int .u64 a).wf = true) : ∃ x : BitVec 64, a = uv x := by
  obtain ⟨h1, h2⟩ := bounds_u64 h
  refine ⟨BitVec.ofInt 64 a, ?_⟩
  unfold uv
  rw [BitVec.toNat_ofInt, big]
  omega

end Go.Proofs.Ytanliiopdhjhjaa

namespace Go.Proofs.Ytanliiopdhjhjaa
open Go.ChangeShapes Go.WideShapes Go.ChangeAt Go.RowKit Go.Joins Go.Proofs.Hd

theorem cellsCube : Try.prog.cellsOf 43 = 4 := by kernel_rfl
theorem cellsWord : Try.prog.cellsOf 39 = 1 := by kernel_rfl
set_option maxRecDepth 100000 in
theorem read_head {H : Type} {enc : TypeId × Value → H} {W : World} {base : Nat} {sp : Nat → Bool} {n : Nat} {c0 c1 : Value} {y : DataW H × List MemPlace} (h0 : DataW.trod enc Try.prog W base sp true n 41 [c0, c1] = some y) :
    ∃ h l : BitVec 64, c0 = .int .u64 (uv h) ∧ c1 = .int .u64 (uv l) ∧ y = (.agg [.lit (.int .u64 (uv h)), .lit (.int .u64 (uv l))], []) := by
  obtain ⟨y0, y1, m, hx, _, q0, q1⟩ := trod_struct2 Try.underlying41 h0
  have q0' : DataW.trod enc Try.prog W base sp true m 39 [c0] = some y0 := by simpa [cellsWord] using q0
  have q1' : DataW.trod enc Try.prog W base sp true m 39 [c1] = some y1 := by simpa [cellsWord] using q1
  obtain ⟨ah, e0, rfl, wa⟩ := DataW.trod_int Try.underlying39 q0'
  obtain ⟨al, e1, rfl, wb⟩ := DataW.trod_int Try.underlying39 q1'
  simp at e0 e1
  subst e0 e1
  obtain ⟨h, rfl⟩ := uv_of ah wa
  obtain ⟨l, rfl⟩ := uv_of al wb
  exact ⟨h, l, rfl, rfl, by rw [hx]; rfl⟩
end Go.Proofs.Ytanliiopdhjhjaa

namespace Go.Proofs.Hd
open Go.RowKit
theorem on_some {W w1 : World} {p : Addr} {v : Value} (hb : Below W.heap.size W w1) (h : W.cell? p = some v) : w1.cell? p = some v :=
  (hb.cell (World.block_lt_of_cell? W p h)).trans h
theorem hold4 {p0 p1 p2 p3 : Addr} {x0 x1 x2 x3 : Value} {W0 w1 w2 : World} (hb : Below w1.heap.size w1 w2) (h : Below W0.heap.size W0 w1 ∧ w1.cell? p0 = some x0 ∧ w1.cell? p1 = some x1 ∧ w1.cell? p2 = some x2 ∧ w1.cell? p3 = some x3) :
    Below W0.heap.size W0 w2 ∧ w2.cell? p0 = some x0 ∧ w2.cell? p1 = some x1 ∧ w2.cell? p2 = some x2 ∧ w2.cell? p3 = some x3 :=
  ⟨h.1.trans (hb.mono h.1.size), on_some hb h.2.1, on_some hb h.2.2.1, on_some hb h.2.2.2.1, on_some hb h.2.2.2.2⟩
theorem hold8 {p0 p1 p2 p3 p4 p5 p6 p7 : Addr} {x0 x1 x2 x3 x4 x5 x6 x7 : Value} {W0 w1 w2 : World} (hb : Below w1.heap.size w1 w2) (h : Below W0.heap.size W0 w1 ∧ w1.cell? p0 = some x0 ∧ w1.cell? p1 = some x1 ∧ w1.cell? p2 = some x2 ∧ w1.cell? p3 = some x3 ∧ w1.cell? p4 = some x4 ∧ w1.cell? p5 = some x5 ∧ w1.cell? p6 = some x6 ∧ w1.cell? p7 = some x7) :
    Below W0.heap.size W0 w2 ∧ w2.cell? p0 = some x0 ∧ w2.cell? p1 = some x1 ∧ w2.cell? p2 = some x2 ∧ w2.cell? p3 = some x3 ∧ w2.cell? p4 = some x4 ∧ w2.cell? p5 = some x5 ∧ w2.cell? p6 = some x6 ∧ w2.cell? p7 = some x7 :=
  ⟨h.1.trans (hb.mono h.1.size), on_some hb h.2.1, on_some hb h.2.2.1, on_some hb h.2.2.2.1, on_some hb h.2.2.2.2.1, on_some hb h.2.2.2.2.2.1, on_some hb h.2.2.2.2.2.2.1, on_some hb h.2.2.2.2.2.2.2.1, on_some hb h.2.2.2.2.2.2.2.2⟩
theorem hold10 {p0 p1 p2 p3 p4 p5 p6 p7 p8 p9 : Addr} {x0 x1 x2 x3 x4 x5 x6 x7 x8 x9 : Value} {W0 w1 w2 : World} (hb : Below w1.heap.size w1 w2) (h : Below W0.heap.size W0 w1 ∧ w1.cell? p0 = some x0 ∧ w1.cell? p1 = some x1 ∧ w1.cell? p2 = some x2 ∧ w1.cell? p3 = some x3 ∧ w1.cell? p4 = some x4 ∧ w1.cell? p5 = some x5 ∧ w1.cell? p6 = some x6 ∧ w1.cell? p7 = some x7 ∧ w1.cell? p8 = some x8 ∧ w1.cell? p9 = some x9) :
    Below W0.heap.size W0 w2 ∧ w2.cell? p0 = some x0 ∧ w2.cell? p1 = some x1 ∧ w2.cell? p2 = some x2 ∧ w2.cell? p3 = some x3 ∧ w2.cell? p4 = some x4 ∧ w2.cell? p5 = some x5 ∧ w2.cell? p6 = some x6 ∧ w2.cell? p7 = some x7 ∧ w2.cell? p8 = some x8 ∧ w2.cell? p9 = some x9 :=
  ⟨h.1.trans (hb.mono h.1.size), on_some hb h.2.1, on_some hb h.2.2.1, on_some hb h.2.2.2.1, on_some hb h.2.2.2.2.1, on_some hb h.2.2.2.2.2.1, on_some hb h.2.2.2.2.2.2.1, on_some hb h.2.2.2.2.2.2.2.1, on_some hb h.2.2.2.2.2.2.2.2.1, on_some hb h.2.2.2.2.2.2.2.2.2.1, on_some hb h.2.2.2.2.2.2.2.2.2.2⟩
theorem shold4 {B : Nat} {p0 p1 p2 p3 : Addr} {x0 x1 x2 x3 : Value} {W0 w1 w2 : World} (hb : Below B w1 w2) (h : Below W0.heap.size W0 w1 ∧ w1.cell? p0 = some x0 ∧ w1.cell? p1 = some x1 ∧ w1.cell? p2 = some x2 ∧ w1.cell? p3 = some x3) (hB : W0.heap.size ≤ B) (h0 : p0.block < B) (h1 : p1.block < B) (h2 : p2.block < B) (h3 : p3.block < B) :
    Below W0.heap.size W0 w2 ∧ w2.cell? p0 = some x0 ∧ w2.cell? p1 = some x1 ∧ w2.cell? p2 = some x2 ∧ w2.cell? p3 = some x3 :=
  ⟨h.1.trans (hb.mono hB), (hb.cell h0).trans h.2.1, (hb.cell h1).trans h.2.2.1, (hb.cell h2).trans h.2.2.2.1, (hb.cell h3).trans h.2.2.2.2⟩
theorem shold8 {B : Nat} {p0 p1 p2 p3 p4 p5 p6 p7 : Addr} {x0 x1 x2 x3 x4 x5 x6 x7 : Value} {W0 w1 w2 : World} (hb : Below B w1 w2) (h : Below W0.heap.size W0 w1 ∧ w1.cell? p0 = some x0 ∧ w1.cell? p1 = some x1 ∧ w1.cell? p2 = some x2 ∧ w1.cell? p3 = some x3 ∧ w1.cell? p4 = some x4 ∧ w1.cell? p5 = some x5 ∧ w1.cell? p6 = some x6 ∧ w1.cell? p7 = some x7) (hB : W0.heap.size ≤ B) (h0 : p0.block < B) (h1 : p1.block < B) (h2 : p2.block < B) (h3 : p3.block < B) (h4 : p4.block < B) (h5 : p5.block < B) (h6 : p6.block < B) (h7 : p7.block < B) :
    Below W0.heap.size W0 w2 ∧ w2.cell? p0 = some x0 ∧ w2.cell? p1 = some x1 ∧ w2.cell? p2 = some x2 ∧ w2.cell? p3 = some x3 ∧ w2.cell? p4 = some x4 ∧ w2.cell? p5 = some x5 ∧ w2.cell? p6 = some x6 ∧ w2.cell? p7 = some x7 :=
  ⟨h.1.trans (hb.mono hB), (hb.cell h0).trans h.2.1, (hb.cell h1).trans h.2.2.1, (hb.cell h2).trans h.2.2.2.1, (hb.cell h3).trans h.2.2.2.2.1, (hb.cell h4).trans h.2.2.2.2.2.1, (hb.cell h5).trans h.2.2.2.2.2.2.1, (hb.cell h6).trans h.2.2.2.2.2.2.2.1, (hb.cell h7).trans h.2.2.2.2.2.2.2.2⟩
/-- Block r holds 2 words 0 that may be written. -/
def Zero2 (w : World) (r : Nat) : Prop := ∀ i, i < 2 → w.cell? ⟨r, i, none⟩ = some (.int .u64 0) ∧ w.frozen? ⟨r, i, none⟩ = false
theorem Zero2.on {r : Nat} {w1 w2 : World} (hb : Below w1.heap.size w1 w2) (h : Zero2 w1 r) : Zero2 w2 r := fun i hi =>
  have hl := World.block_lt_of_cell? w1 ⟨r, i, none⟩ (h i hi).1
  ⟨(hb.cell hl).trans (h i hi).1, (hb.frozen hl).trans (h i hi).2⟩
theorem Zero2.out {r : Nat} {w : World} (h : Zero2 w r) : w.cell? ⟨r, 0, none⟩ = some (.int .u64 0) ∧ w.frozen? ⟨r, 0, none⟩ = false ∧ w.cell? ⟨r, 1, none⟩ = some (.int .u64 0) ∧ w.frozen? ⟨r, 1, none⟩ = false :=
  ⟨(h 0 (by omega)).1, (h 0 (by omega)).2, (h 1 (by omega)).1, (h 1 (by omega)).2⟩
theorem sets2 (w : World) (r : Nat) (a0 a1 : Value) : Below r w ((w.setCell ⟨r, 0, none⟩ a0).setCell ⟨r, 1, none⟩ a1) :=
  (((Below.refl r w).setCell (p := ⟨r, 0, none⟩) (Nat.le_refl r) a0).setCell (p := ⟨r, 1, none⟩) (Nat.le_refl r) a1)
/-- Block r holds 4 words 0 that may be written. -/
def Zero4 (w : World) (r : Nat) : Prop := ∀ i, i < 4 → w.cell? ⟨r, i, none⟩ = some (.int .u64 0) ∧ w.frozen? ⟨r, i, none⟩ = false
theorem Zero4.on {r : Nat} {w1 w2 : World} (hb : Below w1.heap.size w1 w2) (h : Zero4 w1 r) : Zero4 w2 r := fun i hi =>
  have hl := World.block_lt_of_cell? w1 ⟨r, i, none⟩ (h i hi).1
  ⟨(hb.cell hl).trans (h i hi).1, (hb.frozen hl).trans (h i hi).2⟩
theorem Zero4.out {r : Nat} {w : World} (h : Zero4 w r) : w.cell? ⟨r, 0, none⟩ = some (.int .u64 0) ∧ w.frozen? ⟨r, 0, none⟩ = false ∧ w.cell? ⟨r, 1, none⟩ = some (.int .u64 0) ∧ w.frozen? ⟨r, 1, none⟩ = false ∧ w.cell? ⟨r, 2, none⟩ = some (.int .u64 0) ∧ w.frozen? ⟨r, 2, none⟩ = false ∧ w.cell? ⟨r, 3, none⟩ = some (.int .u64 0) ∧ w.frozen? ⟨r, 3, none⟩ = false :=
  ⟨(h 0 (by omega)).1, (h 0 (by omega)).2, (h 1 (by omega)).1, (h 1 (by omega)).2, (h 2 (by omega)).1, (h 2 (by omega)).2, (h 3 (by omega)).1, (h 3 (by omega)).2⟩
theorem sets4 (w : World) (r : Nat) (a0 a1 a2 a3 : Value) : Below r w ((((w.setCell ⟨r, 0, none⟩ a0).setCell ⟨r, 1, none⟩ a1).setCell ⟨r, 2, none⟩ a2).setCell ⟨r, 3, none⟩ a3) :=
  (((((Below.refl r w).setCell (p := ⟨r, 0, none⟩) (Nat.le_refl r) a0).setCell (p := ⟨r, 1, none⟩) (Nat.le_refl r) a1).setCell (p := ⟨r, 2, none⟩) (Nat.le_refl r) a2).setCell (p := ⟨r, 3, none⟩) (Nat.le_refl r) a3)
theorem ret_bool {a b : Bool} (h : a = b) : Ending.returned (.bool a) = .returned (.bool b) := by rw [h]
end Go.Proofs.Hd

namespace Go.Proofs.Hd
open Go.RowKit Go.Sort
/-- World w' is W behind some draws, with some blocks laid behind it. -/
def Grew (W w' : World) : Prop := ∃ q os, w' = grow (W.drewN q) os
theorem Grew.refl (W : World) : Grew W W := ⟨0, #[], by rw [grow_empty]; rfl⟩
theorem Grew.trans {a b c : World} (h : Grew a b) (k : Grew b c) : Grew a c := by
  obtain ⟨q, os, rfl⟩ := h
  obtain ⟨q', os', rfl⟩ := k
  exact ⟨q + q', os ++ os', by show grow (grow ((a.drewN q).drewN q') os) os' = _; rw [grow_grow, World.drewN_drewN]⟩
theorem Grew.drew1 (W : World) : Grew W W.drew := ⟨1, #[], by rw [grow_empty]; rfl⟩
theorem Grew.alloc1 (W : World) (o : Obj) : Grew W (W.alloc o) := ⟨0, #[o], by rw [← alloc_eq_grow]; rfl⟩
theorem Grew.drewN1 (W : World) (n : Nat) : Grew W (W.drewN n) := ⟨n, #[], by rw [grow_empty]⟩
theorem Grew.below {W w' : World} (h : Grew W w') : Below W.heap.size W w' := by
  obtain ⟨q, os, rfl⟩ := h
  exact ⟨rfl, rfl, rfl, by simp [grow], fun k hk => heap_grow_old _ _ hk⟩
/-- What Go's cmp.Compare says of two ints. -/
def icmp (a b : Int) : Int := if a < b then -1 else if b < a then 1 else 0
end Go.Proofs.Hd
namespace Go.Proofs
open Go.RowKit Go.Proofs.Hd Go.Sort
attribute [local go_sem] uv_nonneg
theorem nanI_c (a : Int) (w : World) : Calls Try.prog 71 #[.int .i64 a] w fun e w' => e = .returned (.bool false) ∧ w = w' := by
  go_enter Try.func71, Try.ntmps71
  go_wp2
  go_ret
  exact ⟨by simp, rfl⟩
theorem cmpI_g (a b r : Int) (w : World) (hr : icmp a b = r) : Calls Try.prog 52 #[.int .i64 a, .int .i64 b] w fun e w' => e = .returned (.int .i64 r) ∧ Grew w w' := by
  unfold icmp at hr
  by_cases h1 : a < b
  · rw [if_pos h1] at hr; subst hr
    go_enter Try.func52, Try.ntmps52
    go_wp2_with (go_at_call 71; refine (nanI_c _ _).mono ?_; rintro e w' ⟨rfl, rfl⟩)
    go_ret
    exact ⟨rfl, Grew.refl _⟩
  · rw [if_neg h1] at hr
    by_cases h2 : b < a
    · rw [if_pos h2] at hr; subst hr
      go_enter Try.func52, Try.ntmps52
      go_wp2_with (go_at_call 71; refine (nanI_c _ _).mono ?_; rintro e w' ⟨rfl, rfl⟩)
      go_ret
      exact ⟨rfl, Grew.refl _⟩
    · rw [if_neg h2] at hr; subst hr
      go_enter Try.func52, Try.ntmps52
      go_wp2_with (go_at_call 71; refine (nanI_c _ _).mono ?_; rintro e w' ⟨rfl, rfl⟩)
      go_ret
      exact ⟨rfl, Grew.refl _⟩
end Go.Proofs

namespace Go.Proofs.Hd
open Go.RowKit
/-- Are two pairs of numbers the same? -/
def eq2 (a b c d : Int) : Bool := (a == c) && (b == d)
/-- Are two rows of four numbers the same? -/
def eq4 (a b c d e f g h : Int) : Bool := (a == e) && ((b == f) && ((c == g) && (d == h)))
theorem eq2_self (a b : Int) : eq2 a b a b = true := by simp [eq2]
theorem eq4_self (a b c d : Int) : eq4 a b c d a b c d = true := by simp [eq4]
theorem eq2_uv (a b c d : BitVec 64) : eq2 (uv a) (uv b) (uv c) (uv d) = ((a == c) && (b == d)) := by unfold eq2; rw [uv_beq, uv_beq]
theorem eq4_uv (a b c d e f g h : BitVec 64) : eq4 (uv a) (uv b) (uv c) (uv d) (uv e) (uv f) (uv g) (uv h) = ((a == e) && ((b == f) && ((c == g) && (d == h)))) := by unfold eq4; rw [uv_beq, uv_beq, uv_beq, uv_beq]
/-- Has Value no bit that Care does not have? -/
def sndB (vh vl ch cl : BitVec 64) : Bool := (vh &&& ch == vh) && (vl &&& cl == vl)
theorem sndB_eq (vh vl ch cl : BitVec 64) : eq2 (uv (vh &&& ch)) (uv (vl &&& cl)) (uv vh) (uv vl) = sndB vh vl ch cl := eq2_uv _ _ _ _
/-- Is a header in a cube? -/
def hasB (vh vl ch cl h l : BitVec 64) : Bool := (h &&& ch == vh) && (l &&& cl == vl)
/-- Have two cubes the same bits wherever both care? -/
def agrB (avh avl ach acl bvh bvl bch bcl : BitVec 64) : Bool := (avh &&& (ach &&& bch) == bvh &&& (ach &&& bch)) && (avl &&& (acl &&& bcl) == bvl &&& (acl &&& bcl))
theorem agrB_eq (avh avl ach acl bvh bvl bch bcl : BitVec 64) : eq2 (uv (avh &&& (ach &&& bch))) (uv (avl &&& (acl &&& bcl))) (uv (bvh &&& (ach &&& bch))) (uv (bvl &&& (acl &&& bcl))) = agrB avh avl ach acl bvh bvl bch bcl := eq2_uv _ _ _ _
attribute [irreducible] eq2 eq4
end Go.Proofs.Hd

namespace Go.Proofs.Hd
open Go.RowKit
/-- A cube as four words. -/
structure Cb where
  vh : BitVec 64
  vl : BitVec 64
  ch : BitVec 64
  cl : BitVec 64
def Cb.cells (c : Cb) : List Value := [.int .u64 (uv c.vh), .int .u64 (uv c.vl), .int .u64 (uv c.ch), .int .u64 (uv c.cl)]
def flat (L : List Cb) : List Value := L.flatMap Cb.cells
theorem flat_len (L : List Cb) : (flat L).length = L.length * 4 := by
  induction L with
  | nil => rfl
  | cons c L ih => unfold flat at *; rw [List.flatMap_cons, List.length_append, ih]; simp [Cb.cells]; omega
end Go.Proofs.Hd

namespace Go.Proofs
open Go.RowKit Go.Proofs.Hd
attribute [local go_sem] uv_and uv_or uv_xor uv_andNot uv_shr uv_shl uv_add uv_sub uv_nonneg
theorem bcell {W w1 : World} (hb : Below W.heap.size W w1) : (∀ b o, b < W.heap.size → w1.cell? ⟨b, o, none⟩ = W.cell? ⟨b, o, none⟩) ∧ (∀ b o, b < W.heap.size → w1.frozen? ⟨b, o, none⟩ = W.frozen? ⟨b, o, none⟩) :=
  ⟨fun b o h => hb.cell (p := ⟨b, o, none⟩) h, fun b o h => hb.frozen (p := ⟨b, o, none⟩) h⟩

theorem half_and (a b : BitVec 64) (w : World) : Calls Try.prog 79 #[.int .u64 (uv a), .int .u64 (uv b)] w fun e w' => e = .returned (.int .u64 (uv (a &&& b))) ∧ w = w' := by
  go_enter Try.func79, Try.ntmps79
  go_wp2
  go_ret
  exact ⟨rfl, rfl⟩

theorem both_and (ah al bh bl : BitVec 64) (w : World) : Calls Try.prog 67 #[.func (Fn.func 79) #[] #[], .agg #[.int .u64 (uv ah), .int .u64 (uv al)], .agg #[.int .u64 (uv bh), .int .u64 (uv bl)]] w fun e w' => e = .returned (.agg #[.int .u64 (uv (ah &&& bh)), .int .u64 (uv (al &&& bl))]) ∧ Below w.heap.size w w' := by
  go_enter Try.func67, Try.ntmps67
  go_wp2_with fail
  go_region_held3 (fun w' => w'.cell? ⟨w.heap.size, 0, none⟩ = some (.int .u64 (uv ah)) ∧ w'.cell? ⟨w.heap.size, 1, none⟩ = some (.int .u64 (uv al)) ∧ w'.cell? ⟨w.heap.size + 1, 0, none⟩ = some (.int .u64 (uv bh)) ∧ w'.cell? ⟨w.heap.size + 1, 1, none⟩ = some (.int .u64 (uv bl))) (go_keep)
    (first | (go_at_call 79; refine (half_and _ _ _).mono ?_; rintro e w' ⟨rfl, rfl⟩))
  go_wp2
  exact bodyPost_ret (v := .agg #[.int .u64 (uv (ah &&& bh)), .int .u64 (uv (al &&& bl))]) (by simp [results, Try.results67, go_sem]) rfl ⟨rfl, by repeat (first | exact Below.refl _ _ | apply Below.drew | (refine Below.alloc ?_ (by simp <;> omega) _))⟩

theorem and_c (ah al bh bl : BitVec 64) (w : World) : Calls Try.prog 66 #[.agg #[.int .u64 (uv ah), .int .u64 (uv al)], .agg #[.int .u64 (uv bh), .int .u64 (uv bl)]] w fun e w' => e = .returned (.agg #[.int .u64 (uv (ah &&& bh)), .int .u64 (uv (al &&& bl))]) ∧ Below w.heap.size w w' := by
  go_enter Try.func66, Try.ntmps66
  go_wp2_with fail
  refine (both_and _ _ _ _ _).mono ?_
  rintro e w1 ⟨rfl, hb⟩
  obtain ⟨hc, hf⟩ := bcell hb
  go_wp2
  exact bodyPost_ret (v := .agg #[.int .u64 (uv (ah &&& bh)), .int .u64 (uv (al &&& bl))]) (by simp [results, Try.results66, go_sem, hc]) rfl ⟨rfl, (((((Below.refl _ w).alloc (Nat.le_refl _) _).alloc (by simp) _).alloc (by simp <;> omega) _).trans (hb.mono (by simp <;> omega))).setCell (by simp <;> omega) _ |>.setCell (by simp <;> omega) _⟩

theorem half_or (a b : BitVec 64) (w : World) : Calls Try.prog 88 #[.int .u64 (uv a), .int .u64 (uv b)] w fun e w' => e = .returned (.int .u64 (uv (a ||| b))) ∧ w = w' := by
  go_enter Try.func88, Try.ntmps88
  go_wp2
  go_ret
  exact ⟨rfl, rfl⟩

theorem both_or (ah al bh bl : BitVec 64) (w : World) : Calls Try.prog 67 #[.func (Fn.func 88) #[] #[], .agg #[.int .u64 (uv ah), .int .u64 (uv al)], .agg #[.int .u64 (uv bh), .int .u64 (uv bl)]] w fun e w' => e = .returned (.agg #[.int .u64 (uv (ah ||| bh)), .int .u64 (uv (al ||| bl))]) ∧ Below w.heap.size w w' := by
  go_enter Try.func67, Try.ntmps67
  go_wp2_with fail
  go_region_held3 (fun w' => w'.cell? ⟨w.heap.size, 0, none⟩ = some (.int .u64 (uv ah)) ∧ w'.cell? ⟨w.heap.size, 1, none⟩ = some (.int .u64 (uv al)) ∧ w'.cell? ⟨w.heap.size + 1, 0, none⟩ = some (.int .u64 (uv bh)) ∧ w'.cell? ⟨w.heap.size + 1, 1, none⟩ = some (.int .u64 (uv bl))) (go_keep)
    (first | (go_at_call 88; refine (half_or _ _ _).mono ?_; rintro e w' ⟨rfl, rfl⟩))
  go_wp2
  exact bodyPost_ret (v := .agg #[.int .u64 (uv (ah ||| bh)), .int .u64 (uv (al ||| bl))]) (by simp [results, Try.results67, go_sem]) rfl ⟨rfl, by repeat (first | exact Below.refl _ _ | apply Below.drew | (refine Below.alloc ?_ (by simp <;> omega) _))⟩

theorem or_c (ah al bh bl : BitVec 64) (w : World) : Calls Try.prog 78 #[.agg #[.int .u64 (uv ah), .int .u64 (uv al)], .agg #[.int .u64 (uv bh), .int .u64 (uv bl)]] w fun e w' => e = .returned (.agg #[.int .u64 (uv (ah ||| bh)), .int .u64 (uv (al ||| bl))]) ∧ Below w.heap.size w w' := by
  go_enter Try.func78, Try.ntmps78
  go_wp2_with fail
  refine (both_or _ _ _ _ _).mono ?_
  rintro e w1 ⟨rfl, hb⟩
  obtain ⟨hc, hf⟩ := bcell hb
  go_wp2
  exact bodyPost_ret (v := .agg #[.int .u64 (uv (ah ||| bh)), .int .u64 (uv (al ||| bl))]) (by simp [results, Try.results78, go_sem, hc]) rfl ⟨rfl, (((((Below.refl _ w).alloc (Nat.le_refl _) _).alloc (by simp) _).alloc (by simp <;> omega) _).trans (hb.mono (by simp <;> omega))).setCell (by simp <;> omega) _ |>.setCell (by simp <;> omega) _⟩

theorem half_less (a b : BitVec 64) (w : World) : Calls Try.prog 68 #[.int .u64 (uv a), .int .u64 (uv b)] w fun e w' => e = .returned (.int .u64 (uv (a &&& ~~~b))) ∧ w = w' := by
  go_enter Try.func68, Try.ntmps68
  go_wp2
  go_ret
  exact ⟨rfl, rfl⟩

theorem both_less (ah al bh bl : BitVec 64) (w : World) : Calls Try.prog 67 #[.func (Fn.func 68) #[] #[], .agg #[.int .u64 (uv ah), .int .u64 (uv al)], .agg #[.int .u64 (uv bh), .int .u64 (uv bl)]] w fun e w' => e = .returned (.agg #[.int .u64 (uv (ah &&& ~~~bh)), .int .u64 (uv (al &&& ~~~bl))]) ∧ Below w.heap.size w w' := by
  go_enter Try.func67, Try.ntmps67
  go_wp2_with fail
  go_region_held3 (fun w' => w'.cell? ⟨w.heap.size, 0, none⟩ = some (.int .u64 (uv ah)) ∧ w'.cell? ⟨w.heap.size, 1, none⟩ = some (.int .u64 (uv al)) ∧ w'.cell? ⟨w.heap.size + 1, 0, none⟩ = some (.int .u64 (uv bh)) ∧ w'.cell? ⟨w.heap.size + 1, 1, none⟩ = some (.int .u64 (uv bl))) (go_keep)
    (first | (go_at_call 68; refine (half_less _ _ _).mono ?_; rintro e w' ⟨rfl, rfl⟩))
  go_wp2
  exact bodyPost_ret (v := .agg #[.int .u64 (uv (ah &&& ~~~bh)), .int .u64 (uv (al &&& ~~~bl))]) (by simp [results, Try.results67, go_sem]) rfl ⟨rfl, by repeat (first | exact Below.refl _ _ | apply Below.drew | (refine Below.alloc ?_ (by simp <;> omega) _))⟩

theorem less_c (ah al bh bl : BitVec 64) (w : World) : Calls Try.prog 50 #[.agg #[.int .u64 (uv ah), .int .u64 (uv al)], .agg #[.int .u64 (uv bh), .int .u64 (uv bl)]] w fun e w' => e = .returned (.agg #[.int .u64 (uv (ah &&& ~~~bh)), .int .u64 (uv (al &&& ~~~bl))]) ∧ Below w.heap.size w w' := by
  go_enter Try.func50, Try.ntmps50
  go_wp2_with fail
  refine (both_less _ _ _ _ _).mono ?_
  rintro e w1 ⟨rfl, hb⟩
  obtain ⟨hc, hf⟩ := bcell hb
  go_wp2
  exact bodyPost_ret (v := .agg #[.int .u64 (uv (ah &&& ~~~bh)), .int .u64 (uv (al &&& ~~~bl))]) (by simp [results, Try.results50, go_sem, hc]) rfl ⟨rfl, (((((Below.refl _ w).alloc (Nat.le_refl _) _).alloc (by simp) _).alloc (by simp <;> omega) _).trans (hb.mono (by simp <;> omega))).setCell (by simp <;> omega) _ |>.setCell (by simp <;> omega) _⟩
end Go.Proofs

namespace Go.Proofs
open Go.RowKit
theorem below1 (w : World) (o : Obj) : Below w.heap.size w (w.alloc o) := (Below.refl _ _).alloc (Nat.le_refl _) _
theorem below2 (w : World) (o p : Obj) : Below w.heap.size w ((w.alloc o).alloc p) := (below1 w o).alloc (by simp) _
theorem below3 (w : World) (o p q : Obj) : Below w.heap.size w (((w.alloc o).alloc p).alloc q) := (below2 w o p).alloc (by simp; omega) _
theorem below4 (w : World) (o p q r : Obj) : Below w.heap.size w ((((w.alloc o).alloc p).alloc q).alloc r) := (below3 w o p q).alloc (by simp; omega) _
end Go.Proofs
namespace Go.Proofs.Hd
open Go.RowKit
theorem grown_of_below {w w' : World} (hb : Below w.heap.size w w') (row : Option Nat) : w.grownBy w' row := ⟨hb.os, hb.tape, hb.output, hb.size, fun k hk _ => hb.block k hk⟩
theorem own_on {w w' : World} {base : Nat} {e : TypeId} {size : Nat} {v : Value} {n : Nat} {xs : List Value} (h : w.ownsRow base e size v n xs) (hb : Below w.heap.size w w') : w'.ownsRow base e size v n xs := by
  refine h.kept (grown_of_below hb none) ?_
  cases v.ownBlock with
  | none => exact .inl rfl
  | some k => exact .inr (by simp)
/-- Block g is just these cells, and may be written. -/
def Blk (w : World) (g : Nat) (t : TypeId) (cs : Array Value) : Prop := w.heap[g]? = some (.cells cs t (0, 0))
theorem Blk.lt {w : World} {g : Nat} {t : TypeId} {cs : Array Value} (h : Blk w g t cs) : g < w.heap.size := by
  rcases Nat.lt_or_ge g w.heap.size with hlt | hge
  · exact hlt
  · unfold Blk at h; rw [Array.getElem?_eq_none hge] at h; cases h
theorem Blk.cell {w : World} {g : Nat} {t : TypeId} {cs : Array Value} (h : Blk w g t cs) (i : Nat) : w.cell? ⟨g, i, none⟩ = cs[i]? := cell_of_row w g i cs t (0, 0) h
theorem Blk.free {w : World} {g : Nat} {t : TypeId} {cs : Array Value} (h : Blk w g t cs) (i : Nat) : w.frozen? ⟨g, i, none⟩ = false := by
  unfold Blk at h; simp [World.frozen?, h]
theorem Blk.on {w w' : World} {g : Nat} {t : TypeId} {cs : Array Value} (h : Blk w g t cs) (hb : Below w.heap.size w w') : Blk w' g t cs := (hb.block g h.lt).trans h
theorem Blk.new (w : World) (t : TypeId) (cs : Array Value) : Blk (w.alloc (.cells cs t)) w.heap.size t cs := heap_alloc_new w _
theorem Blk.far {w : World} {g : Nat} {t : TypeId} {cs : Array Value} (h : Blk w g t cs) {p : Addr} (hp : g ≠ p.block) (u : Value) : Blk (w.setCell p u) g t cs := (Below.heap_setCell w p u g hp).trans h
theorem Blk.set {w : World} {g : Nat} {t : TypeId} {cs : Array Value} (h : Blk w g t cs) (i : Nat) (u : Value) : Blk (w.setCell ⟨g, i, none⟩ u) g t (cs.setIfInBounds i u) := by
  unfold Blk at h ⊢; simp [World.setCell, Array.getElem?_modify, h]
theorem Blk.grown {w w' : World} {g : Nat} {t : TypeId} {cs : Array Value} {row : Option Nat} (h : Blk w g t cs) (hb : w.grownBy w' row) (hg : some g ≠ row) : Blk w' g t cs := (hb.block g h.lt hg).trans h
/-- A row that is owned and a block of another element type are apart. -/
theorem own_apart {w : World} {base : Nat} {e t : TypeId} {size n g : Nat} {v : Value} {xs : List Value} {cs : Array Value} (h : w.ownsRow base e size v n xs) (hg : Blk w g t cs) (hne : e ≠ t) : some g ≠ v.ownBlock := by
  rcases h.2 with ⟨rfl, _⟩ | ⟨g', cap, cur, rfl, _, hh, _⟩
  · simp [Value.ownBlock]
  · intro he
    have e1 : g = g' := by simpa [Value.ownBlock] using he
    subst e1
    unfold Blk at hg
    rw [hh] at hg
    injection hg with hg
    injection hg with _ ht
    exact hne ht
/-- Block g holds cells of type t. -/
def TB (w : World) (g : Nat) (t : TypeId) : Prop := ∃ cs fr, w.heap[g]? = some (.cells cs t fr)
theorem TB.lt {w : World} {g : Nat} {t : TypeId} (h : TB w g t) : g < w.heap.size := by
  obtain ⟨cs, fr, h⟩ := h
  rcases Nat.lt_or_ge g w.heap.size with hlt | hge
  · exact hlt
  · rw [Array.getElem?_eq_none hge] at h; cases h
theorem TB.on {w w' : World} {g : Nat} {t : TypeId} (h : TB w g t) (hb : Below w.heap.size w w') : TB w' g t := by
  obtain ⟨cs, fr, e⟩ := h
  exact ⟨cs, fr, (hb.block g (TB.lt ⟨cs, fr, e⟩)).trans e⟩
theorem TB.grown {w w' : World} {g : Nat} {t : TypeId} {row : Option Nat} (h : TB w g t) (hb : w.grownBy w' row) (hg : some g ≠ row) : TB w' g t := by
  obtain ⟨cs, fr, e⟩ := h
  exact ⟨cs, fr, (hb.block g (TB.lt ⟨cs, fr, e⟩) hg).trans e⟩
theorem TB.set {w : World} {g i : Nat} {t : TypeId} {v : Value} (h : TB w g t) : TB (w.setCell ⟨g, i, none⟩ v) g t := by
  obtain ⟨cs, fr, e⟩ := h
  refine ⟨cs.setIfInBounds i v, fr, ?_⟩
  simp [World.setCell, Array.getElem?_modify, e]
theorem own_apartT {w : World} {base : Nat} {e t : TypeId} {size n g : Nat} {v : Value} {xs : List Value} (h : w.ownsRow base e size v n xs) (hg : TB w g t) (hne : e ≠ t) : some g ≠ v.ownBlock := by
  rcases h.2 with ⟨rfl, _⟩ | ⟨g', cap, cur, rfl, _, hh, _⟩
  · simp [Value.ownBlock]
  · intro he
    have e1 : g = g' := by simpa [Value.ownBlock] using he
    subst e1
    obtain ⟨cs, fr, hg⟩ := hg
    rw [hh] at hg
    injection hg with hg
    injection hg with _ ht
    exact hne ht
/-- v is a slice of m elements of 'size' cells each that reads as the cells 'news'. -/
def Src (w : World) (size : Nat) (v : Value) (m : Nat) (news : List Value) : Prop :=
  news.length = m * size ∧ (∀ u ∈ news, u.oneCell' = true) ∧ ((m = 0 ∧ ∃ c, v = .slice none 0 c) ∨ ∃ ad c, v = .slice (some ad) m c ∧ ∀ (j : Nat) (u : Value), news[j]? = some u → w.cell? (ad.add j) = some u)
section
variable {P : Program} (w : World)
theorem run_app (base : Nat) (t ty e : TypeId) (i : TypeInfo) (z : Value) (size bytes : Nat) (ht : P.underlying t = some (.slice e)) (hi : P.info? e = some i) (hz : i.zero = some z)
    (hsize : i.size = size) (hby : i.bytes = bytes) (hzs : z.cells.size = size) (hsz : 0 < size) (v : Value) (n : Nat) (xs : List Value) (hown : w.ownsRow base e size v n xs)
    (x : Value) (m : Nat) (news : List Value) (hx : Src w size x m news) (h63 : n + m ≤ maxLen) (hbytes : (n + m) * bytes ≤ 140737488355328) (hbase : base ≤ w.heap.size) :
    ∃ v' w', (Builtin.append_ #[t, t] ty #[v, x]).run P w = .ok v' w' ∧ w'.ownsRow base e size v' (n + m) (xs ++ news) ∧ w.grownBy w' v.ownBlock := by
  obtain ⟨hl, h1, ⟨rfl, c, rfl⟩ | ⟨ad, c, rfl, hc⟩⟩ := hx
  · obtain rfl : news = [] := List.eq_nil_of_length_eq_zero (by simpa using hl)
    refine ⟨v, w, ?_, by simpa using hown, World.grownBy.refl w _⟩
    rcases hown.2 with ⟨rfl, rfl⟩ | ⟨g, cap, cur, rfl, _, _, hnc, _⟩
    · simp [Builtin.append_, run_underlying ht, sizeOf, typeInfo, hi, Builtin.lenOf, Builtin.firstCells]
    · simp [Builtin.append_, run_underlying ht, sizeOf, typeInfo, hi, Builtin.lenOf, Builtin.firstCells, hnc, storeCells]
  · obtain ⟨v', w', hr, h2, h3, _, _⟩ := run_append_own_at (P := P) w base t ty e i z size bytes ht hi hz hsize hby hzs hsz v n xs hown ad m c news hl hc h1 h63 hbytes hbase
    exact ⟨v', w', hr, h2, h3⟩
theorem wp_app {o : Oper} {a : Act} {K : Act → World → Prop} {Q : Exit → Act → World → Prop} (s x : Operand) (t : TypeId)
    (ho : o.op = .call { callee := .builtin .append, args := #[s, x], argTypes := #[t, t] }) (base : Nat) (e : TypeId) (i : TypeInfo) (z : Value) (size bytes : Nat) (ht : P.underlying t = some (.slice e)) (hi : P.info? e = some i) (hz : i.zero = some z)
    (hsize : i.size = size) (hby : i.bytes = bytes) (hzs : z.cells.size = size) (hsz : 0 < size) (v : Value) (n : Nat) (xs : List Value) (hs : a.eval s = v) (hown : w.ownsRow base e size v n xs)
    (y : Value) (m : Nat) (news : List Value) (hy : a.eval x = y) (hx : Src w size y m news) (h63 : n + m ≤ maxLen) (hbytes : (n + m) * bytes ≤ 140737488355328) (hbase : base ≤ w.heap.size)
    (h : ∀ v' w', w'.ownsRow base e size v' (n + m) (xs ++ news) → w.grownBy w' v.ownBlock → K (a.put o.dst v') w') : o.wp P a w K Q := by
  obtain ⟨v', w', hr, h2, h3⟩ := run_app (P := P) w base t o.type e i z size bytes ht hi hz hsize hby hzs hsz v n xs hown y m news hx h63 hbytes hbase
  exact Lib.wp_append_run w s x t t ho v y hs hy v' w' hr (h v' w' h2 h3)
theorem wpList_app {ops : Array Oper} {rest : List Oper} {o : Oper} {a : Act} {Q : Exit → Act → World → Prop} (hgd : o.guard = none) (s x : Operand) (t : TypeId)
    (ho : o.op = .call { callee := .builtin .append, args := #[s, x], argTypes := #[t, t] }) (base : Nat) (e : TypeId) (i : TypeInfo) (z : Value) (size bytes : Nat) (ht : P.underlying t = some (.slice e)) (hi : P.info? e = some i) (hz : i.zero = some z)
    (hsize : i.size = size) (hby : i.bytes = bytes) (hzs : z.cells.size = size) (hsz : 0 < size) (v : Value) (n : Nat) (xs : List Value) (hs : a.eval s = v) (hown : w.ownsRow base e size v n xs)
    (y : Value) (m : Nat) (news : List Value) (hy : a.eval x = y) (hx : Src w size y m news) (h63 : n + m ≤ maxLen) (hbytes : (n + m) * bytes ≤ 140737488355328) (hbase : base ≤ w.heap.size)
    (h : ∀ v' w', w'.ownsRow base e size v' (n + m) (xs ++ news) → w.grownBy w' v.ownBlock → wpList P ops Q rest (a.put o.dst v') w') : wpList P ops Q (o :: rest) a w :=
  wpList_plain hgd fun _ hK => wp_app w s x t ho base e i z size bytes ht hi hz hsize hby hzs hsz v n xs hs hown y m news hy hx h63 hbytes hbase fun v' w' h2 h3 => hK _ _ (h v' w' h2 h3)
end
section
variable {P : Program} (w : World)
theorem step_app {ops : Array Oper} {o : Oper} {a : Act} {K : Act → World → Prop} {Q : Exit → Act → World → Prop} {E : Prop} (hgd : o.guard = none) (s x : Operand) (t : TypeId)
    (ho : o.op = .call { callee := .builtin .append, args := #[s, x], argTypes := #[t, t] }) (base : Nat) (e : TypeId) (i : TypeInfo) (z : Value) (size bytes : Nat) (ht : P.underlying t = some (.slice e)) (hi : P.info? e = some i) (hz : i.zero = some z)
    (hsize : i.size = size) (hby : i.bytes = bytes) (hzs : z.cells.size = size) (hsz : 0 < size) (v : Value) (n : Nat) (xs : List Value) (hs : a.eval s = v) (hown : w.ownsRow base e size v n xs)
    (y : Value) (m : Nat) (news : List Value) (hy : a.eval x = y) (hx : Src w size y m news) (h63 : n + m ≤ maxLen) (hbytes : (n + m) * bytes ≤ 140737488355328) (hbase : base ≤ w.heap.size)
    (h : ∀ v' w', w'.ownsRow base e size v' (n + m) (xs ++ news) → w.grownBy w' v.ownBlock → K (a.put o.dst v') w') :
    if Region.wanted o (yielded ops a.tmps) = true then Oper.wp P o a w K Q else E := by
  have hw : Region.wanted o (yielded ops a.tmps) = true := by simp [Region.wanted, hgd]
  rw [if_pos hw]
  exact wp_app w s x t ho base e i z size bytes ht hi hz hsize hby hzs hsz v n xs hs hown y m news hy hx h63 hbytes hbase h
end
end Go.Proofs.Hd

namespace Go.Proofs
open Go.RowKit Go.Proofs.Hd
attribute [local go_sem] uv_and uv_or uv_xor uv_andNot uv_shr uv_shl uv_add uv_sub uv_nonneg
theorem run_eq2 (w : World) (a b c d : Int) : (Op.equalIn 10000 41 (.agg #[.int .u64 a, .int .u64 b]) (.agg #[.int .u64 c, .int .u64 d])).run Try.prog w = .ok (eq2 a b c d) w := by
  unfold eq2
  cases h1 : a == c <;> cases h2 : b == d <;> go_simp
theorem run_eq4 (w : World) (a b c d e f g h : Int) : (Op.equalIn 10000 43 (.agg #[.int .u64 a, .int .u64 b, .int .u64 c, .int .u64 d]) (.agg #[.int .u64 e, .int .u64 f, .int .u64 g, .int .u64 h])).run Try.prog w = .ok (eq4 a b c d e f g h) w := by
  unfold eq4
  cases h1 : a == e <;> cases h2 : b == f <;> cases h3 : c == g <;> cases h4 : d == h <;> go_simp
attribute [local go_sem high] run_eq2 run_eq4
theorem zero4_new (w : World) : Zero4 (w.alloc (.cells #[.int .u64 0, .int .u64 0, .int .u64 0, .int .u64 0] 43)) w.heap.size := by
  intro i hi
  rcases (show i = 0 ∨ i = 1 ∨ i = 2 ∨ i = 3 by omega) with rfl | rfl | rfl | rfl <;> simp
theorem zero2_new (w : World) : Zero2 (w.alloc (.cells #[.int .u64 0, .int .u64 0] 41)) w.heap.size := by
  intro i hi
  rcases (show i = 0 ∨ i = 1 by omega) with rfl | rfl <;> simp
theorem zero4_at (w : World) (r : Nat) (h : r = w.heap.size) : Zero4 (w.alloc (.cells #[.int .u64 0, .int .u64 0, .int .u64 0, .int .u64 0] 43)).drew r := by
  subst h; exact fun i hi => zero4_new w i hi
theorem zero2_at (w : World) (r : Nat) (h : r = w.heap.size) : Zero2 (w.alloc (.cells #[.int .u64 0, .int .u64 0] 41)).drew r := by
  subst h; exact fun i hi => zero2_new w i hi

theorem all_c (w : World) : Calls Try.prog 60 #[] w fun e w' => e = .returned (.agg #[.int .u64 0, .int .u64 0, .int .u64 0, .int .u64 0]) ∧ Below w.heap.size w w' := by
  go_enter Try.func60, Try.ntmps60
  go_wp2
  exact bodyPost_ret (v := .agg #[.int .u64 0, .int .u64 0, .int .u64 0, .int .u64 0]) (by simp [results, Try.results60, go_sem]) rfl ⟨rfl, below1 _ _⟩

set_option maxHeartbeats 1000000 in
theorem sound_c (cvh cvl cch ccl : BitVec 64) (w : World) : Calls Try.prog 47 #[.agg #[.int .u64 (uv cvh), .int .u64 (uv cvl), .int .u64 (uv cch), .int .u64 (uv ccl)]] w fun e w' => e = .returned (.bool (sndB cvh cvl cch ccl)) ∧ Below w.heap.size w w' := by
  have S0 := below1 w (.cells #[.int .u64 (uv cvh), .int .u64 (uv cvl), .int .u64 (uv cch), .int .u64 (uv ccl)] 43)
  go_enter Try.func47, Try.ntmps47
  go_wp2_with fail
  go_region_held3 (fun w' => Below w.heap.size w w' ∧ w'.cell? ⟨w.heap.size, 0, none⟩ = some (.int .u64 (uv cvh)) ∧ w'.cell? ⟨w.heap.size, 1, none⟩ = some (.int .u64 (uv cvl)) ∧ w'.cell? ⟨w.heap.size, 2, none⟩ = some (.int .u64 (uv cch)) ∧ w'.cell? ⟨w.heap.size, 3, none⟩ = some (.int .u64 (uv ccl)))
    (first
      | exact hold4 (by assumption) (by assumption)
      | exact ⟨S0.drew, by go_simp, by go_simp, by go_simp, by go_simp⟩)
    (first
      | (go_at_call 66; (with_reducible refine (and_c _ _ _ _ _).mono ?_); rintro e w' ⟨rfl, hb⟩))
  go_wp2
  go_ret
  exact ⟨ret_bool (sndB_eq _ _ _ _), And.left (by assumption)⟩

set_option maxHeartbeats 1000000 in
theorem make_c (vh vl ch cl : BitVec 64) (w : World) : Calls Try.prog 49 #[.agg #[.int .u64 (uv vh), .int .u64 (uv vl)], .agg #[.int .u64 (uv ch), .int .u64 (uv cl)]] w fun e w' => e = .returned (.agg #[.int .u64 (uv (vh &&& ch)), .int .u64 (uv (vl &&& cl)), .int .u64 (uv ch), .int .u64 (uv cl)]) ∧ Below w.heap.size w w' := by
  have S0 := below3 w (.cells #[.int .u64 (uv vh), .int .u64 (uv vl)] 41) (.cells #[.int .u64 (uv ch), .int .u64 (uv cl)] 41) (.cells #[.int .u64 0, .int .u64 0, .int .u64 0, .int .u64 0] 43)
  have Z0 := zero4_at ((w.alloc (.cells #[.int .u64 (uv vh), .int .u64 (uv vl)] 41)).alloc (.cells #[.int .u64 (uv ch), .int .u64 (uv cl)] 41)) (w.heap.size + 1 + 1) (by simp)
  go_enter Try.func49, Try.ntmps49
  go_wp2_with fail
  go_region_held3 (fun w' => Below w.heap.size w w' ∧ w'.cell? ⟨w.heap.size, 0, none⟩ = some (.int .u64 (uv vh)) ∧ w'.cell? ⟨w.heap.size, 1, none⟩ = some (.int .u64 (uv vl)) ∧ w'.cell? ⟨w.heap.size + 1, 0, none⟩ = some (.int .u64 (uv ch)) ∧ w'.cell? ⟨w.heap.size + 1, 1, none⟩ = some (.int .u64 (uv cl)))
    (first
      | exact hold4 (by assumption) (by assumption)
      | exact shold4 (sets4 _ _ _ _ _ _) (by assumption) (by omega) (by first | omega | (simp; done) | (simp; omega)) (by first | omega | (simp; done) | (simp; omega)) (by first | omega | (simp; done) | (simp; omega)) (by first | omega | (simp; done) | (simp; omega))
      | exact ⟨S0.drew, by go_simp, by go_simp, by go_simp, by go_simp⟩)
    (first
      | (go_at_call 66; (with_reducible refine (and_c _ _ _ _ _).mono ?_); rintro e w' ⟨rfl, hb⟩; have Z := Zero4.on hb (by assumption); obtain ⟨z0, y0, z1, y1, z2, y2, z3, y3⟩ := Z.out))
  go_wp2
  exact bodyPost_ret (v := .agg #[.int .u64 (uv (vh &&& ch)), .int .u64 (uv (vl &&& cl)), .int .u64 (uv ch), .int .u64 (uv cl)]) (by simp [results, Try.results49, go_sem, z0, z1, z2, z3]) rfl ⟨rfl, And.left (by assumption)⟩

set_option maxHeartbeats 1000000 in
theorem agree_c (avh avl ach acl bvh bvl bch bcl : BitVec 64) (w : World) : Calls Try.prog 48 #[.agg #[.int .u64 (uv avh), .int .u64 (uv avl), .int .u64 (uv ach), .int .u64 (uv acl)], .agg #[.int .u64 (uv bvh), .int .u64 (uv bvl), .int .u64 (uv bch), .int .u64 (uv bcl)]] w fun e w' => e = .returned (.bool (agrB avh avl ach acl bvh bvl bch bcl)) ∧ Below w.heap.size w w' := by
  have S0 := below2 w (.cells #[.int .u64 (uv avh), .int .u64 (uv avl), .int .u64 (uv ach), .int .u64 (uv acl)] 43) (.cells #[.int .u64 (uv bvh), .int .u64 (uv bvl), .int .u64 (uv bch), .int .u64 (uv bcl)] 43)
  go_enter Try.func48, Try.ntmps48
  go_wp2_with fail
  (with_reducible refine (and_c _ _ _ _ _).mono ?_)
  rintro e w1 ⟨rfl, hb1⟩
  have S1 : Below w.heap.size w w1 ∧ w1.cell? ⟨w.heap.size, 0, none⟩ = some (.int .u64 (uv avh)) ∧ w1.cell? ⟨w.heap.size, 1, none⟩ = some (.int .u64 (uv avl)) ∧ w1.cell? ⟨w.heap.size, 2, none⟩ = some (.int .u64 (uv ach)) ∧ w1.cell? ⟨w.heap.size, 3, none⟩ = some (.int .u64 (uv acl)) ∧ w1.cell? ⟨w.heap.size + 1, 0, none⟩ = some (.int .u64 (uv bvh)) ∧ w1.cell? ⟨w.heap.size + 1, 1, none⟩ = some (.int .u64 (uv bvl)) ∧ w1.cell? ⟨w.heap.size + 1, 2, none⟩ = some (.int .u64 (uv bch)) ∧ w1.cell? ⟨w.heap.size + 1, 3, none⟩ = some (.int .u64 (uv bcl)) := hold8 hb1 ⟨S0, by go_simp, by go_simp, by go_simp, by go_simp, by go_simp, by go_simp, by go_simp, by go_simp⟩
  clear hb1 S0
  obtain ⟨B1, a0, a1, a2, a3, b0, b1, b2, b3⟩ := S1
  have hz := B1.size
  have hz1 : w.heap.size + 1 < w1.heap.size := World.block_lt_of_cell? w1 _ b0
  have hz0 : w.heap.size < w1.heap.size := by omega
  have B2 := B1.alloc hz (.cells #[.int .u64 (uv (ach &&& bch)), .int .u64 (uv (acl &&& bcl))] 41)
  go_wp2_with fail
  go_region_held3 (fun w' => Below w.heap.size w w' ∧ w'.cell? ⟨w.heap.size, 0, none⟩ = some (.int .u64 (uv avh)) ∧ w'.cell? ⟨w.heap.size, 1, none⟩ = some (.int .u64 (uv avl)) ∧ w'.cell? ⟨w.heap.size, 2, none⟩ = some (.int .u64 (uv ach)) ∧ w'.cell? ⟨w.heap.size, 3, none⟩ = some (.int .u64 (uv acl)) ∧ w'.cell? ⟨w.heap.size + 1, 0, none⟩ = some (.int .u64 (uv bvh)) ∧ w'.cell? ⟨w.heap.size + 1, 1, none⟩ = some (.int .u64 (uv bvl)) ∧ w'.cell? ⟨w.heap.size + 1, 2, none⟩ = some (.int .u64 (uv bch)) ∧ w'.cell? ⟨w.heap.size + 1, 3, none⟩ = some (.int .u64 (uv bcl)) ∧ w'.cell? ⟨w1.heap.size, 0, none⟩ = some (.int .u64 (uv (ach &&& bch))) ∧ w'.cell? ⟨w1.heap.size, 1, none⟩ = some (.int .u64 (uv (acl &&& bcl))))
    (first
      | exact hold10 (by assumption) (by assumption)
      | exact ⟨B2.drew, by go_simp, by go_simp, by go_simp, by go_simp, by go_simp, by go_simp, by go_simp, by go_simp, by go_simp, by go_simp⟩)
    (first
      | (go_at_call 66; (with_reducible refine (and_c _ _ _ _ _).mono ?_); rintro e w' ⟨rfl, hb⟩))
  go_wp2
  go_ret
  exact ⟨ret_bool (agrB_eq _ _ _ _ _ _ _ _), And.left (by assumption)⟩
end Go.Proofs

namespace Go.Proofs.Hd
open Go.RowKit
instance : Inhabited Cb := ⟨⟨0#64, 0#64, 0#64, 0#64⟩⟩
/-- A rule: its priority, the two words each of its match's value and care, its kind, port and table, and what it sets. -/
structure Rl where
  pri : Int
  m : Cb
  kind : Int
  port : Int
  tab : Int
  s : Cb
instance : Inhabited Rl := ⟨⟨0, default, 0, 0, 0, default⟩⟩
/-- Its cells. -/
def Rl.cs (r : Rl) : List Value := [.int .i64 r.pri, .int .u64 (uv r.m.vh), .int .u64 (uv r.m.vl), .int .u64 (uv r.m.ch), .int .u64 (uv r.m.cl), .int .i64 r.kind, .int .i64 r.port, .int .i64 r.tab, .int .u64 (uv r.s.vh), .int .u64 (uv r.s.vl), .int .u64 (uv r.s.ch), .int .u64 (uv r.s.cl)]
theorem Rl.cs_len (r : Rl) : r.cs.length = 12 := rfl
theorem Rl.cs_one (r : Rl) : ∀ v ∈ r.cs, v.oneCell' = true := by
  intro v hv
  unfold Rl.cs at hv
  simp only [List.mem_cons, List.not_mem_nil, or_false] at hv
  rcases hv with rfl | rfl | rfl | rfl | rfl | rfl | rfl | rfl | rfl | rfl | rfl | rfl <;> rfl
/-- Are two rules the same? -/
def eqR (a b : Rl) : Bool := (a.pri == b.pri) && ((uv a.m.vh == uv b.m.vh) && ((uv a.m.vl == uv b.m.vl) && ((uv a.m.ch == uv b.m.ch) && ((uv a.m.cl == uv b.m.cl) && ((a.kind == b.kind) && ((a.port == b.port) && ((a.tab == b.tab) && ((uv a.s.vh == uv b.s.vh) && ((uv a.s.vl == uv b.s.vl) && ((uv a.s.ch == uv b.s.ch) && (uv a.s.cl == uv b.s.cl)))))))))))
end Go.Proofs.Hd
namespace Go.Proofs
open Go.RowKit Go.Proofs.Hd Go.Sort
attribute [local go_sem] uv_nonneg
set_option maxRecDepth 100000 in
set_option maxHeartbeats 4000000 in
theorem run_eqR (w : World) (a b : Rl) : (Op.equalIn 10000 51 (.agg #[.int .i64 a.pri, .int .u64 (uv a.m.vh), .int .u64 (uv a.m.vl), .int .u64 (uv a.m.ch), .int .u64 (uv a.m.cl), .int .i64 a.kind, .int .i64 a.port, .int .i64 a.tab, .int .u64 (uv a.s.vh), .int .u64 (uv a.s.vl), .int .u64 (uv a.s.ch), .int .u64 (uv a.s.cl)]) (.agg #[.int .i64 b.pri, .int .u64 (uv b.m.vh), .int .u64 (uv b.m.vl), .int .u64 (uv b.m.ch), .int .u64 (uv b.m.cl), .int .i64 b.kind, .int .i64 b.port, .int .i64 b.tab, .int .u64 (uv b.s.vh), .int .u64 (uv b.s.vl), .int .u64 (uv b.s.ch), .int .u64 (uv b.s.cl)])).run Try.prog w = .ok (eqR a b) w := by
  unfold eqR
  cases h1 : a.pri == b.pri
  · go_simp
  cases h2 : uv a.m.vh == uv b.m.vh
  · go_simp
  cases h3 : uv a.m.vl == uv b.m.vl
  · go_simp
  cases h4 : uv a.m.ch == uv b.m.ch
  · go_simp
  cases h5 : uv a.m.cl == uv b.m.cl
  · go_simp
  cases h6 : a.kind == b.kind
  · go_simp
  cases h7 : a.port == b.port
  · go_simp
  cases h8 : a.tab == b.tab
  · go_simp
  cases h9 : uv a.s.vh == uv b.s.vh
  · go_simp
  cases h10 : uv a.s.vl == uv b.s.vl
  · go_simp
  cases h11 : uv a.s.ch == uv b.s.ch
  · go_simp
  cases h12 : uv a.s.cl == uv b.s.cl <;> go_simp
attribute [irreducible] eqR
attribute [local go_sem high] run_eqR
end Go.Proofs

namespace Go.Proofs.Hd
open Go.RowKit Go.Sort
/-! ### memory -/
/-- The cells of rules, one behind the other. -/
def flatR (L : List Rl) : List Value := L.flatMap Rl.cs
theorem flatR_len (L : List Rl) : (flatR L).length = L.length * 12 := by
  unfold flatR
  induction L with
  | nil => rfl
  | cons r L ih => rw [List.flatMap_cons, List.length_append, ih, Rl.cs_len, List.length_cons]; omega
theorem flatR_get {L : List Rl} {i j : Nat} {r : Rl} (h : L[i]? = some r) (hj : j < 12) : (flatR L)[i * 12 + j]? = r.cs[j]? := by
  unfold flatR
  induction L generalizing i with
  | nil => simp at h
  | cons c L ih =>
    rw [List.flatMap_cons]
    cases i with
    | zero =>
      simp only [List.getElem?_cons_zero, Option.some.injEq] at h
      subst h
      rw [List.getElem?_append_left (by rw [Rl.cs_len]; omega)]
      simp
    | succ i =>
      rw [List.getElem?_cons_succ] at h
      rw [List.getElem?_append_right (by rw [Rl.cs_len]; omega), Rl.cs_len]
      rw [show (i + 1) * 12 + j - 12 = i * 12 + j by omega]
      exact ih h
/-- The twelve cells of a rule lie in block b from place o on. -/
def AtR (w : World) (b o : Nat) (r : Rl) : Prop := ∀ (j : Nat) (v : Value), r.cs[j]? = some v → w.cell? ⟨b, o + j, none⟩ = some v
theorem AtR.on {w w' : World} {b o : Nat} {r : Rl} (h : AtR w b o r) (hb : Below w.heap.size w w') : AtR w' b o r := fun j v hv => on_some hb (h j v hv)
theorem AtR.out {w : World} {b o : Nat} {r : Rl} (h : AtR w b o r) : w.cell? ⟨b, o, none⟩ = some (.int .i64 r.pri) ∧ w.cell? ⟨b, o + 1, none⟩ = some (.int .u64 (uv r.m.vh)) ∧ w.cell? ⟨b, o + 2, none⟩ = some (.int .u64 (uv r.m.vl)) ∧ w.cell? ⟨b, o + 3, none⟩ = some (.int .u64 (uv r.m.ch)) ∧ w.cell? ⟨b, o + 4, none⟩ = some (.int .u64 (uv r.m.cl)) ∧
    w.cell? ⟨b, o + 5, none⟩ = some (.int .i64 r.kind) ∧ w.cell? ⟨b, o + 6, none⟩ = some (.int .i64 r.port) ∧ w.cell? ⟨b, o + 7, none⟩ = some (.int .i64 r.tab) ∧ w.cell? ⟨b, o + 8, none⟩ = some (.int .u64 (uv r.s.vh)) ∧ w.cell? ⟨b, o + 9, none⟩ = some (.int .u64 (uv r.s.vl)) ∧ w.cell? ⟨b, o + 10, none⟩ = some (.int .u64 (uv r.s.ch)) ∧ w.cell? ⟨b, o + 11, none⟩ = some (.int .u64 (uv r.s.cl)) :=
  ⟨h 0 _ rfl, h 1 _ rfl, h 2 _ rfl, h 3 _ rfl, h 4 _ rfl, h 5 _ rfl, h 6 _ rfl, h 7 _ rfl, h 8 _ rfl, h 9 _ rfl, h 10 _ rfl, h 11 _ rfl⟩
/-- v is a slice that reads as the rules L. -/
def Ru (w : World) (v : Value) (L : List Rl) : Prop := (L = [] ∧ ∃ A cap, v = .slice A 0 cap) ∨ ∃ b off cap, v = .slice (some ⟨b, off, none⟩) L.length cap ∧ b < w.heap.size ∧ ∀ k r, L[k]? = some r → AtR w b (off + k * 12) r
theorem Ru.on {w w' : World} {v : Value} {L : List Rl} (h : Ru w v L) (hb : Below w.heap.size w w') : Ru w' v L := by
  rcases h with h | ⟨b, off, cap, e, hs, h⟩
  · exact .inl h
  · exact .inr ⟨b, off, cap, e, Nat.lt_of_lt_of_le hs hb.size, fun k c hk => (h k c hk).on hb⟩
theorem Ru.form {w : World} {v : Value} {L : List Rl} (h : Ru w v L) : ∃ A cap, v = .slice A L.length cap ∧ (L ≠ [] → ∃ b off, A = some ⟨b, off, none⟩ ∧ b < w.heap.size ∧ ∀ k r, L[k]? = some r → AtR w b (off + k * 12) r) := by
  rcases h with ⟨rfl, A, cap, rfl⟩ | ⟨b, off, cap, rfl, hb, h⟩
  · exact ⟨A, cap, rfl, fun h => absurd rfl h⟩
  · exact ⟨_, cap, rfl, fun _ => ⟨b, off, rfl, hb, h⟩⟩
theorem own_Ru {w : World} {base : Nat} {t : TypeId} {v : Value} {L : List Rl} (h : w.ownsRow base t 12 v L.length (flatR L)) : Ru w v L := by
  rcases h.2 with ⟨rfl, hn⟩ | ⟨g, cap, cur, rfl, hb, hg, _⟩
  · exact .inl ⟨List.eq_nil_of_length_eq_zero hn, _, _, rfl⟩
  · refine .inr ⟨g, 0, cap, rfl, (Array.getElem?_eq_some_iff.1 hg).1, fun k r hk j v hv => ?_⟩
    have hkl : k < L.length := (List.getElem?_eq_some_iff.1 hk).1
    have hj : j < 12 := by have := (List.getElem?_eq_some_iff.1 hv).1; rwa [Rl.cs_len] at this
    rw [show 0 + k * 12 + j = k * 12 + j by omega, h.cellAt (k * 12 + j) (by omega), flatR_get hk hj, hv]
end Go.Proofs.Hd
