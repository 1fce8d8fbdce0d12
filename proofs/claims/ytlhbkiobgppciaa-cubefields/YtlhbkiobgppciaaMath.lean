/-
  Plain mathematics on words of 64 bits, headers of 128 bits and their counts of ones: no program in sight. No conditions.
-/
import Derived.WalkKit
import Derived.WalkSpells
import Derived.WalkLawsBesides
import Derived.Laws.BitsAllLaws
namespace Go.Proofs.Hd
open Go.RowKit
/-- A word of 64 bits as Go's uint64. -/
def uv (x : BitVec 64) : Int := (x.toNat : Int)
theorem big : ((2 ^ 64 : Nat) : Int) = 18446744073709551616 := by rfl
theorem uv_def (x : BitVec 64) : uv x = (x.toNat : Int) := rfl
theorem uv_nonneg (x : BitVec 64) : 0 ≤ uv x := by unfold uv; omega
theorem uv_lt (x : BitVec 64) : uv x < 18446744073709551616 := by unfold uv; have := x.isLt; omega
theorem uv_inj {a b : BitVec 64} (h : uv a = uv b) : a = b := by
  unfold uv at h; exact BitVec.eq_of_toNat_eq (by omega)
theorem uv_and (a b : BitVec 64) : bits .and .u64 (uv a) (uv b) = uv (a &&& b) := by
  unfold uv; rw [u64_and_nat _ _ a.isLt b.isLt, BitVec.toNat_and]
theorem uv_or (a b : BitVec 64) : bits .or .u64 (uv a) (uv b) = uv (a ||| b) := by
  unfold uv; rw [u64_or_nat _ _ a.isLt b.isLt, BitVec.toNat_or]
theorem uv_xor (a b : BitVec 64) : bits .xor .u64 (uv a) (uv b) = uv (a ^^^ b) := by
  unfold uv; rw [u64_xor_nat _ _ a.isLt b.isLt, BitVec.toNat_xor]
theorem uv_andNot (a b : BitVec 64) : bits .andNot .u64 (uv a) (uv b) = uv (a &&& ~~~b) := by
  unfold uv; rw [u64_andNot_nat _ _ a.isLt b.isLt, BitVec.toNat_and, BitVec.toNat_not]
theorem uv_shr (a : BitVec 64) (k : Nat) : uv a / 2 ^ k = uv (a >>> k) := by
  unfold uv; rw [BitVec.toNat_ushiftRight, Nat.shiftRight_eq_div_pow]; norm_cast
theorem uv_shl (a : BitVec 64) (k : Nat) : IntKind.u64.wrap (uv a * 2 ^ k) = uv (a <<< k) := by
  unfold uv; rw [BitVec.toNat_shiftLeft, Nat.shiftLeft_eq, IntKind.wrap_u64, Int.natCast_emod, big, Int.natCast_mul, Int.natCast_pow]; rfl
theorem uv_add (a b : BitVec 64) : IntKind.u64.wrap (uv a + uv b) = uv (a + b) := by
  unfold uv; rw [BitVec.toNat_add, IntKind.wrap_u64, Int.natCast_emod, big, Int.natCast_add]
theorem uv_sub (a b : BitVec 64) : IntKind.u64.wrap (uv a - uv b) = uv (a - b) := by
  unfold uv; rw [BitVec.toNat_sub, IntKind.wrap_u64]
  have := a.isLt; have := b.isLt
  omega
theorem uv_beq (a b : BitVec 64) : (uv a == uv b) = (a == b) := by
  rw [Bool.eq_iff_iff]; simp only [beq_iff_eq]; exact ⟨uv_inj, fun h => by rw [h]⟩
theorem uv_lt_iff (a b : BitVec 64) : uv a < uv b ↔ a < b := by
  unfold uv; rw [BitVec.lt_def]; omega
theorem uv_ofNat (n : Nat) : uv (BitVec.ofNat 64 n) = IntKind.u64.wrap n := by
  unfold uv; rw [BitVec.toNat_ofNat, IntKind.wrap_u64, Int.natCast_emod, big]
theorem uv_one : (1 : Int) = uv 1#64 := rfl
theorem uv_zero : (0 : Int) = uv 0#64 := rfl
theorem uv_shl_one (k : Nat) : IntKind.u64.wrap (2 ^ k) = uv (1#64 <<< k) := by
  rw [← uv_shl, ← uv_one, Int.one_mul]
theorem uv_sub_one (a : BitVec 64) : IntKind.u64.wrap (uv a - 1) = uv (a - 1#64) := by
  rw [uv_one, uv_sub]
theorem uv_and_one (a : BitVec 64) : bits .and .u64 (uv a) 1 = uv (a &&& 1#64) := by
  rw [uv_one, uv_and]
theorem uv_div_2 (a : BitVec 64) : uv a / (2 : Int) = uv (a >>> 1) := uv_shr a 1
theorem uv_div_4 (a : BitVec 64) : uv a / (4 : Int) = uv (a >>> 2) := uv_shr a 2
theorem uv_div_16 (a : BitVec 64) : uv a / (16 : Int) = uv (a >>> 4) := uv_shr a 4
theorem uv_div_256 (a : BitVec 64) : uv a / (256 : Int) = uv (a >>> 8) := uv_shr a 8
theorem uv_div_65536 (a : BitVec 64) : uv a / (65536 : Int) = uv (a >>> 16) := uv_shr a 16
theorem uv_div_big (a : BitVec 64) : uv a / (4294967296 : Int) = uv (a >>> 32) := uv_shr a 32
theorem uv_and_m0 (a : BitVec 64) : bits .and .u64 (uv a) (6148914691236517205 : Int) = uv (a &&& 6148914691236517205#64) := uv_and a 6148914691236517205#64
theorem uv_and_m1 (a : BitVec 64) : bits .and .u64 (uv a) (3689348814741910323 : Int) = uv (a &&& 3689348814741910323#64) := uv_and a 3689348814741910323#64
theorem uv_and_m2 (a : BitVec 64) : bits .and .u64 (uv a) (1085102592571150095 : Int) = uv (a &&& 1085102592571150095#64) := uv_and a 1085102592571150095#64
/-- -1, 0, 1: as numbers. -/
def cmpW (a b : BitVec 64) : Int := if uv a < uv b then -1 else if uv b < uv a then 1 else 0
theorem cmpW_cases (a b : BitVec 64) : (uv a < uv b ∧ cmpW a b = -1) ∨ (¬ uv a < uv b ∧ uv b < uv a ∧ cmpW a b = 1) ∨ (¬ uv a < uv b ∧ ¬ uv b < uv a ∧ cmpW a b = 0) := by
  unfold cmpW; by_cases h1 : uv a < uv b
  · left; exact ⟨h1, if_pos h1⟩
  · by_cases h2 : uv b < uv a
    · right; left; exact ⟨h1, h2, by rw [if_neg h1, if_pos h2]⟩
    · right; right; exact ⟨h1, h2, by rw [if_neg h1, if_neg h2]⟩
/-- How many of the lowest k bits are 1. -/
def cnt (p : Nat → Bool) : Nat → Nat
  | 0 => 0
  | k + 1 => cnt p k + (p k).toNat
def ones (a : BitVec 64) : Nat := cnt a.getLsbD 64
/-- The lowest n bits. -/
def low (n : Nat) : BitVec 64 := (1#64 <<< n) - 1#64
/-- The 64 bits of a header from bit n on. -/
def downW (h l : BitVec 64) (n : Nat) : BitVec 64 := if 64 ≤ n then h >>> (n - 64) else (l >>> n) ||| (h <<< (64 - n))
def upHi (v : BitVec 64) (n : Nat) : BitVec 64 := if 64 ≤ n then v <<< (n - 64) else v >>> (64 - n)
def upLo (v : BitVec 64) (n : Nat) : BitVec 64 := if 64 ≤ n then 0#64 else v <<< n
theorem and_split (n a b c d : Nat) (ha : a < 2 ^ n) (hc : c < 2 ^ n) : (a + 2 ^ n * b) &&& (c + 2 ^ n * d) = (a &&& c) + 2 ^ n * (b &&& d) := by
  have hac : a &&& c < 2 ^ n := Nat.lt_of_le_of_lt Nat.and_le_left ha
  apply Nat.eq_of_testBit_eq
  intro i
  rw [Nat.testBit_and, Nat.add_comm a, Nat.add_comm c, Nat.add_comm (a &&& c), Nat.testBit_two_pow_mul_add _ ha, Nat.testBit_two_pow_mul_add _ hc, Nat.testBit_two_pow_mul_add _ hac]
  by_cases h : i < n
  · simp [h]
  · simp [h]
/-- The byte v, k times. -/
def rep (v : Nat) : Nat → Nat
  | 0 => 0
  | k + 1 => v + 256 * rep v k
def f1 (c : Nat) : Nat := (c / 2 &&& 85) + (c &&& 85)
def f2 (c : Nat) : Nat := (c / 4 &&& 51) + (c &&& 51)
def g (c : Nat) : Nat := (f2 (f1 c) / 16 + f2 (f1 c)) % 16
def F1 (k x : Nat) : Nat := (x / 2 &&& rep 85 k) + (x &&& rep 85 k)
def F2 (k x : Nat) : Nat := (x / 4 &&& rep 51 k) + (x &&& rep 51 k)
def F3 (k x : Nat) : Nat := (x / 16 + x) &&& rep 15 k
theorem and256 (a b c d : Nat) (ha : a < 256) (hc : c < 256) : (a + 256 * b) &&& (c + 256 * d) = (a &&& c) + 256 * (b &&& d) := and_split 8 a b c d ha hc
set_option maxRecDepth 100000 in
theorem small1 : ∀ c < 256, ∀ t < 2, (c / 2 + 128 * t) &&& 85 = c / 2 &&& 85 := by decide +kernel
set_option maxRecDepth 100000 in
theorem small2 : ∀ c < 256, ∀ t < 4, (c / 4 + 64 * t) &&& 51 = c / 4 &&& 51 := by decide +kernel
theorem small3 : ∀ c < 256, f1 c < 256 ∧ f2 (f1 c) ≤ 68 ∧ f2 (f1 c) % 16 ≤ 4 ∧ f2 (f1 c) / 16 ≤ 4 ∧ g c ≤ 8 := by decide +kernel
theorem small4 : ∀ c < 256, g c = cnt c.testBit 8 := by decide +kernel
theorem f2_lt (c : Nat) : f2 c < 256 := by
  unfold f2
  have h1 : c / 4 &&& 51 ≤ 51 := Nat.and_le_right
  have h2 : c &&& 51 ≤ 51 := Nat.and_le_right
  omega
theorem F1_succ (k x : Nat) : F1 (k + 1) x = f1 (x % 256) + 256 * F1 k (x / 256) := by
  unfold F1 f1
  have e1 : x / 2 = (x % 256 / 2 + 128 * (x / 256 % 2)) + 256 * (x / 256 / 2) := by omega
  have e2 : x = x % 256 + 256 * (x / 256) := by omega
  have hs := small1 (x % 256) (by omega) (x / 256 % 2) (by omega)
  show (x / 2 &&& (85 + 256 * rep 85 k)) + (x &&& (85 + 256 * rep 85 k)) = _
  have a1 : x / 2 &&& (85 + 256 * rep 85 k) = (x % 256 / 2 &&& 85) + 256 * (x / 256 / 2 &&& rep 85 k) := by
    rw [← hs]; conv => lhs; rw [e1]
    exact and256 _ _ _ _ (by omega) (by omega)
  have a2 : x &&& (85 + 256 * rep 85 k) = (x % 256 &&& 85) + 256 * (x / 256 &&& rep 85 k) := by
    conv => lhs; rw [e2]
    exact and256 _ _ _ _ (by omega) (by omega)
  rw [a1, a2]; omega
theorem F2_succ (k x : Nat) : F2 (k + 1) x = f2 (x % 256) + 256 * F2 k (x / 256) := by
  unfold F2 f2
  have e1 : x / 4 = (x % 256 / 4 + 64 * (x / 256 % 4)) + 256 * (x / 256 / 4) := by omega
  have e2 : x = x % 256 + 256 * (x / 256) := by omega
  have hs := small2 (x % 256) (by omega) (x / 256 % 4) (by omega)
  show (x / 4 &&& (51 + 256 * rep 51 k)) + (x &&& (51 + 256 * rep 51 k)) = _
  have a1 : x / 4 &&& (51 + 256 * rep 51 k) = (x % 256 / 4 &&& 51) + 256 * (x / 256 / 4 &&& rep 51 k) := by
    rw [← hs]; conv => lhs; rw [e1]
    exact and256 _ _ _ _ (by omega) (by omega)
  have a2 : x &&& (51 + 256 * rep 51 k) = (x % 256 &&& 51) + 256 * (x / 256 &&& rep 51 k) := by
    conv => lhs; rw [e2]
    exact and256 _ _ _ _ (by omega) (by omega)
  rw [a1, a2]; omega
def G (k x : Nat) : Nat := F3 k (F2 k (F1 k x))
theorem F21_succ (k x : Nat) : F2 (k + 1) (F1 (k + 1) x) = f2 (f1 (x % 256)) + 256 * F2 k (F1 k (x / 256)) := by
  have h := (small3 (x % 256) (by omega)).1
  rw [F2_succ, F1_succ]
  have e1 : (f1 (x % 256) + 256 * F1 k (x / 256)) % 256 = f1 (x % 256) := by omega
  have e2 : (f1 (x % 256) + 256 * F1 k (x / 256)) / 256 = F1 k (x / 256) := by omega
  rw [e1, e2]
theorem F21_low (k x : Nat) : F2 k (F1 k x) % 16 ≤ 4 := by
  cases k with
  | zero => simp [F2, F1, rep]
  | succ k =>
    rw [F21_succ]
    have h := (small3 (x % 256) (by omega)).2.2.1
    omega
theorem G_succ (k x : Nat) : G (k + 1) x = g (x % 256) + 256 * G k (x / 256) := by
  unfold G
  rw [F21_succ]
  have h := small3 (x % 256) (by omega)
  have hl := F21_low k (x / 256)
  unfold F3 g
  generalize F2 k (F1 k (x / 256)) = z at *
  generalize f2 (f1 (x % 256)) = s at *
  have e : (s + 256 * z) / 16 + (s + 256 * z) = (s / 16 + s + 16 * (z % 16)) + 256 * (z / 16 + z) := by omega
  rw [e]
  show (_ &&& (15 + 256 * rep 15 k)) = _
  rw [and256 _ _ _ _ (by omega) (by omega)]
  have e2 : (s / 16 + s + 16 * (z % 16)) &&& 15 = (s / 16 + s) % 16 := by
    rw [show (15 : Nat) = 2 ^ 4 - 1 by rfl, Nat.and_two_pow_sub_one_eq_mod]; omega
  rw [e2]
def P : Nat → Nat → Nat
  | 0, _ => 0
  | k + 1, x => g (x % 256) + P k (x / 256)
theorem cnt_congr {p q : Nat → Bool} (k : Nat) (h : ∀ i, i < k → p i = q i) : cnt p k = cnt q k := by
  induction k with
  | zero => rfl
  | succ k ih => rw [cnt, cnt, ih (fun i hi => h i (by omega)), h k (by omega)]
theorem cnt_add (p : Nat → Bool) (m k : Nat) : cnt p (m + k) = cnt p m + cnt (fun i => p (m + i)) k := by
  induction k with
  | zero => rfl
  | succ k ih => rw [← Nat.add_assoc, cnt, ih, cnt, Nat.add_assoc]
theorem P_cnt (k x : Nat) : P k x = cnt x.testBit (8 * k) := by
  induction k generalizing x with
  | zero => rfl
  | succ k ih =>
    rw [P, ih, show 8 * (k + 1) = 8 + 8 * k by omega, cnt_add, small4 _ (by omega)]
    congr 1
    · refine cnt_congr 8 fun i hi => ?_
      rw [show (256 : Nat) = 2 ^ 8 by rfl, Nat.testBit_mod_two_pow]; simp [hi]
    · refine cnt_congr _ fun i _ => ?_
      rw [show (256 : Nat) = 2 ^ 8 by rfl, Nat.testBit_div_two_pow, Nat.add_comm]
def s1 (a : BitVec 64) : BitVec 64 := (a >>> 1 &&& 6148914691236517205#64) + (a &&& 6148914691236517205#64)
def s2 (a : BitVec 64) : BitVec 64 := (a >>> 2 &&& 3689348814741910323#64) + (a &&& 3689348814741910323#64)
def s3 (a : BitVec 64) : BitVec 64 := a >>> 4 + a &&& 1085102592571150095#64
def s4 (a : BitVec 64) : BitVec 64 := a + a >>> 8
def s5 (a : BitVec 64) : BitVec 64 := a + a >>> 16
def s6 (a : BitVec 64) : BitVec 64 := a + a >>> 32
def swar (a : BitVec 64) : BitVec 64 := s6 (s5 (s4 (s3 (s2 (s1 a)))))
theorem rep85 : rep 85 8 = 6148914691236517205 := by decide +kernel
theorem rep51 : rep 51 8 = 3689348814741910323 := by decide +kernel
theorem rep15 : rep 15 8 = 1085102592571150095 := by decide +kernel
theorem s1_nat (a : BitVec 64) : (s1 a).toNat = F1 8 a.toNat := by
  unfold s1 F1
  rw [BitVec.toNat_add, BitVec.toNat_and, BitVec.toNat_and, BitVec.toNat_ushiftRight, Nat.shiftRight_eq_div_pow, rep85]
  have h1 : a.toNat / 2 &&& 6148914691236517205 ≤ 6148914691236517205 := Nat.and_le_right
  have h2 : a.toNat &&& 6148914691236517205 ≤ 6148914691236517205 := Nat.and_le_right
  rw [show (6148914691236517205#64).toNat = 6148914691236517205 by decide +kernel, show (2 : Nat) ^ 1 = 2 by rfl, show (2 : Nat) ^ 64 = 18446744073709551616 by decide +kernel]
  omega
theorem s2_nat (a : BitVec 64) : (s2 a).toNat = F2 8 a.toNat := by
  unfold s2 F2
  rw [BitVec.toNat_add, BitVec.toNat_and, BitVec.toNat_and, BitVec.toNat_ushiftRight, Nat.shiftRight_eq_div_pow, rep51]
  have h1 : a.toNat / 4 &&& 3689348814741910323 ≤ 3689348814741910323 := Nat.and_le_right
  have h2 : a.toNat &&& 3689348814741910323 ≤ 3689348814741910323 := Nat.and_le_right
  rw [show (3689348814741910323#64).toNat = 3689348814741910323 by decide +kernel, show (2 : Nat) ^ 2 = 4 by rfl, show (2 : Nat) ^ 64 = 18446744073709551616 by decide +kernel]
  omega
theorem F2_le (x : Nat) : F2 8 x ≤ 7378697629483820646 := by
  unfold F2; rw [rep51]
  have h1 : x / 4 &&& 3689348814741910323 ≤ 3689348814741910323 := Nat.and_le_right
  have h2 : x &&& 3689348814741910323 ≤ 3689348814741910323 := Nat.and_le_right
  omega
theorem s3_nat (a : BitVec 64) (h : a.toNat ≤ 7378697629483820646) : (s3 a).toNat = F3 8 a.toNat := by
  unfold s3 F3
  rw [BitVec.toNat_and, BitVec.toNat_add, BitVec.toNat_ushiftRight, Nat.shiftRight_eq_div_pow, rep15]
  rw [show (1085102592571150095#64).toNat = 1085102592571150095 by decide +kernel, show (2 : Nat) ^ 4 = 16 by rfl, show (2 : Nat) ^ 64 = 18446744073709551616 by decide +kernel]
  rw [Nat.mod_eq_of_lt (by omega)]
theorem s321_nat (a : BitVec 64) : (s3 (s2 (s1 a))).toNat = G 8 a.toNat := by
  rw [s3_nat _ (by rw [s2_nat]; exact F2_le _), s2_nat, s1_nat]; rfl
theorem div_of (x L R m : Nat) (h : x = L + m * R) (hl : L < m) : x / m = R := by
  rw [h, Nat.add_mul_div_left _ _ (by omega), Nat.div_eq_of_lt hl, Nat.zero_add]
theorem tail_sum (p0 p1 p2 p3 p4 p5 p6 p7 : Nat) (h0 : p0 ≤ 8) (h1 : p1 ≤ 8) (h2 : p2 ≤ 8) (h3 : p3 ≤ 8) (h4 : p4 ≤ 8) (h5 : p5 ≤ 8) (h6 : p6 ≤ 8) (h7 : p7 ≤ 8) (x y z : Nat)
    (hx : x = p0 + 256 * (p1 + 256 * (p2 + 256 * (p3 + 256 * (p4 + 256 * (p5 + 256 * (p6 + 256 * p7)))))))
    (hy : y = (x + x / 256) % 18446744073709551616) (hz : z = (y + y / 65536) % 18446744073709551616) :
    (z + z / 4294967296) % 18446744073709551616 % 128 = p0 + (p1 + (p2 + (p3 + (p4 + (p5 + (p6 + p7)))))) := by
  have y1 : y = (p0 + p1) + 256 * ((p1 + p2) + 256 * ((p2 + p3) + 256 * ((p3 + p4) + 256 * ((p4 + p5) + 256 * ((p5 + p6) + 256 * ((p6 + p7) + 256 * p7)))))) := by omega
  have yd : y / 65536 = (p2 + p3) + 256 * ((p3 + p4) + 256 * ((p4 + p5) + 256 * ((p5 + p6) + 256 * ((p6 + p7) + 256 * p7)))) :=
    div_of y ((p0 + p1) + 256 * (p1 + p2)) _ 65536 (by omega) (by omega)
  have z1 : z = (p0 + p1 + p2 + p3) + 256 * ((p1 + p2 + p3 + p4) + 256 * ((p2 + p3 + p4 + p5) + 256 * ((p3 + p4 + p5 + p6) + 256 * ((p4 + p5 + p6 + p7) + 256 * ((p5 + p6 + p7) + 256 * ((p6 + p7) + 256 * p7)))))) := by
    rw [hz, yd, Nat.mod_eq_of_lt (by omega)]; omega
  clear hx hy hz yd y1
  have zd : z / 4294967296 = (p4 + p5 + p6 + p7) + 256 * ((p5 + p6 + p7) + 256 * ((p6 + p7) + 256 * p7)) :=
    div_of z ((p0 + p1 + p2 + p3) + 256 * ((p1 + p2 + p3 + p4) + 256 * ((p2 + p3 + p4 + p5) + 256 * (p3 + p4 + p5 + p6)))) _ 4294967296 (by omega) (by omega)
  rw [zd, Nat.mod_eq_of_lt (a := z + _) (by omega)]
  have e : z + ((p4 + p5 + p6 + p7) + 256 * ((p5 + p6 + p7) + 256 * ((p6 + p7) + 256 * p7))) = (p0 + (p1 + (p2 + (p3 + (p4 + (p5 + (p6 + p7))))))) + 128 * (2 * ((p1 + p2 + p3 + p4) + (p5 + p6 + p7) + 256 * ((p2 + p3 + p4 + p5) + (p6 + p7) + 256 * ((p3 + p4 + p5 + p6) + p7 + 256 * ((p4 + p5 + p6 + p7) + 256 * ((p5 + p6 + p7) + 256 * ((p6 + p7) + 256 * p7))))))) := by omega
  rw [e, Nat.add_mul_mod_self_left, Nat.mod_eq_of_lt (by omega)]
theorem step_nat (a : BitVec 64) (k : Nat) : (a + a >>> k).toNat = (a.toNat + a.toNat / 2 ^ k) % 18446744073709551616 := by
  rw [BitVec.toNat_add, BitVec.toNat_ushiftRight, Nat.shiftRight_eq_div_pow, show (2 : Nat) ^ 64 = 18446744073709551616 by decide +kernel]
theorem g_le (c : Nat) : g (c % 256) ≤ 8 := (small3 (c % 256) (by omega)).2.2.2.2
theorem swar_nat (a : BitVec 64) : (swar a).toNat % 128 = ones a := by
  have hG := s321_nat a
  have e : ones a = P 8 a.toNat := by rw [P_cnt]; rfl
  rw [e]
  simp only [G_succ] at hG
  rw [show ∀ x, G 0 x = 0 from fun x => by simp [G, F3, rep]] at hG
  simp only [P]
  have t := tail_sum (g (a.toNat % 256)) _ _ _ _ _ _ _ (g_le a.toNat) (g_le (a.toNat / 256)) (g_le (a.toNat / 256 / 256)) (g_le (a.toNat / 256 / 256 / 256)) (g_le (a.toNat / 256 / 256 / 256 / 256)) (g_le (a.toNat / 256 / 256 / 256 / 256 / 256)) (g_le (a.toNat / 256 / 256 / 256 / 256 / 256 / 256)) (g_le (a.toNat / 256 / 256 / 256 / 256 / 256 / 256 / 256))
    (s3 (s2 (s1 a))).toNat _ _ hG rfl rfl
  unfold swar s6 s5 s4
  rw [step_nat, step_nat, step_nat]
  exact t
theorem and127 (z : BitVec 64) : bits .and .i64 (wrap64 (uv z)) 127 = ((z.toNat % 128 : Nat) : Int) := by
  unfold bits
  have e : BitVec.ofInt IntKind.i64.bits (wrap64 (uv z)) = z := by
    apply BitVec.eq_of_toNat_eq
    show (BitVec.ofInt 64 (wrap64 (uv z))).toNat = z.toNat
    rw [BitVec.toNat_ofInt]; unfold wrap64 uv; have := z.isLt
    rw [big]; omega
  have e2 : BitVec.ofInt IntKind.i64.bits 127 = 127#64 := rfl
  rw [e, e2]
  show IntKind.i64.wrap ((z &&& 127#64).toNat : Int) = _
  rw [BitVec.toNat_and, show (127#64 : BitVec 64).toNat = 2 ^ 7 - 1 by rfl, Nat.and_two_pow_sub_one_eq_mod]
  rw [IntKind.wrap_i64]; omega
theorem swar_ones (a : BitVec 64) : bits .and .i64 (wrap64 (uv (swar a))) 127 = (ones a : Int) := by
  rw [and127, swar_nat]
theorem cnt_le (p : Nat → Bool) (k : Nat) : cnt p k ≤ k := by
  induction k with
  | zero => exact Nat.le_refl 0
  | succ k ih => rw [cnt]; have := Bool.toNat_le (p k); omega
theorem ones_le (a : BitVec 64) : ones a ≤ 64 := cnt_le _ _
/-- Bit n of a header. -/
def hbit (h l : BitVec 64) (n : Nat) : Bool := if n < 64 then l.getLsbD n else h.getLsbD (n - 64)
theorem uv_bit (x : BitVec 64) : (uv (x &&& 1#64) == 1) = x.getLsbD 0 := by
  unfold uv
  rw [BitVec.toNat_and, show (1#64 : BitVec 64).toNat = 2 ^ 1 - 1 by rfl, Nat.and_two_pow_sub_one_eq_mod, BitVec.getLsbD, Nat.testBit_zero, Bool.eq_iff_iff]
  simp only [beq_iff_eq, decide_eq_true_eq]
  omega
theorem hbit_out (h l : BitVec 64) (n : Nat) (hn : 128 ≤ n) : hbit h l n = false := by
  rw [hbit, if_neg (by omega)]; exact BitVec.getLsbD_of_ge _ _ (by omega)
theorem downW_bit (h l : BitVec 64) (n i : Nat) : (downW h l n).getLsbD i = (decide (i < 64) && hbit h l (n + i)) := by
  unfold downW hbit
  by_cases hn : 64 ≤ n
  · rw [if_pos hn, if_neg (by omega), BitVec.getLsbD_ushiftRight]
    by_cases hi : i < 64
    · simp only [hi, decide_true, Bool.true_and]; congr 1; omega
    · simp only [hi, decide_false, Bool.false_and]; exact BitVec.getLsbD_of_ge _ _ (by omega)
  · rw [if_neg hn, BitVec.getLsbD_or, BitVec.getLsbD_ushiftRight, BitVec.getLsbD_shiftLeft]
    by_cases hi : i < 64
    · by_cases hj : n + i < 64
      · simp only [hi, hj, decide_true, Bool.true_and, if_true, show i < 64 - n by omega, Bool.not_true, Bool.false_and, Bool.or_false]
      · rw [BitVec.getLsbD_of_ge l (n + i) (by omega)]
        simp only [hi, hj, decide_true, Bool.true_and, if_false, show ¬ i < 64 - n by omega, decide_false, Bool.not_false, Bool.false_or]
        congr 1; omega
    · rw [BitVec.getLsbD_of_ge l (n + i) (by omega)]
      simp [hi]
theorem low_nat (n : Nat) (h : n ≤ 64) : (low n).toNat = 2 ^ n - 1 := by
  unfold low
  have hp : 0 < 2 ^ n := Nat.two_pow_pos n
  rw [BitVec.toNat_sub, BitVec.toNat_shiftLeft, Nat.shiftLeft_eq]
  rw [show (1#64 : BitVec 64).toNat = 1 by rfl, Nat.one_mul]
  by_cases e : n = 64
  · subst e; decide +kernel
  · have hlt : 2 ^ n < 2 ^ 64 := Nat.pow_lt_pow_right (by omega) (by omega)
    rw [Nat.mod_eq_of_lt hlt]
    generalize 2 ^ n = p at *
    rw [show (2 : Nat) ^ 64 = 18446744073709551616 by decide +kernel] at *
    omega
theorem low_bit (n i : Nat) (h : n ≤ 64) : (low n).getLsbD i = decide (i < n) := by
  rw [BitVec.getLsbD, low_nat n h, Nat.testBit_two_pow_sub_one]
theorem up_bit (v : BitVec 64) (n j : Nat) (hj : j < 128) : hbit (upHi v n) (upLo v n) j = (decide (n ≤ j) && v.getLsbD (j - n)) := by
  unfold hbit upHi upLo
  by_cases hn : 64 ≤ n
  · rw [if_pos hn, if_pos hn]
    by_cases h : j < 64
    · rw [if_pos h]; simp [show ¬ n ≤ j by omega]
    · rw [if_neg h, BitVec.getLsbD_shiftLeft]
      by_cases hc : n ≤ j
      · simp only [show j - 64 < 64 by omega, show ¬ j - 64 < n - 64 by omega, hc, decide_true, decide_false, Bool.not_false, Bool.true_and]
        congr 1; omega
      · simp only [show j - 64 < n - 64 by omega, hc, decide_true, decide_false, Bool.not_true, Bool.and_false, Bool.false_and]
  · rw [if_neg hn, if_neg hn]
    by_cases h : j < 64
    · rw [if_pos h, BitVec.getLsbD_shiftLeft]
      by_cases hc : n ≤ j
      · simp [h, hc, show ¬ j < n by omega]
      · simp [h, hc, show j < n by omega]
    · rw [if_neg h, BitVec.getLsbD_ushiftRight]
      simp only [show n ≤ j by omega, decide_true, Bool.true_and]; congr 1; omega
/-- The header in which exactly the bits of a field are 1. -/
def maskH (a n : Nat) : BitVec 64 := low (a + n - 64) &&& ~~~ low (a - 64)
def maskL (a n : Nat) : BitVec 64 := low (min (a + n) 64) &&& ~~~ low (min a 64)
def getW (h l : BitVec 64) (a n : Nat) : BitVec 64 := downW h l a &&& low n
def putH (h : BitVec 64) (a n : Nat) (v : BitVec 64) : BitVec 64 := (h &&& ~~~ upHi (low n) a) ||| upHi v a
def putL (l : BitVec 64) (a n : Nat) (v : BitVec 64) : BitVec 64 := (l &&& ~~~ upLo (low n) a) ||| upLo v a
theorem hbit_and (h l h' l' : BitVec 64) (j : Nat) : hbit (h &&& h') (l &&& l') j = (hbit h l j && hbit h' l' j) := by
  unfold hbit; by_cases c : j < 64 <;> simp [c]
theorem hbit_or (h l h' l' : BitVec 64) (j : Nat) : hbit (h ||| h') (l ||| l') j = (hbit h l j || hbit h' l' j) := by
  unfold hbit; by_cases c : j < 64 <;> simp [c]
theorem hbit_xor (h l h' l' : BitVec 64) (j : Nat) : hbit (h ^^^ h') (l ^^^ l') j = (hbit h l j ^^ hbit h' l' j) := by
  unfold hbit; by_cases c : j < 64 <;> simp [c]
theorem hbit_andNot (h l h' l' : BitVec 64) (j : Nat) (hj : j < 128) : hbit (h &&& ~~~ h') (l &&& ~~~ l') j = (hbit h l j && !hbit h' l' j) := by
  unfold hbit; by_cases c : j < 64
  · simp [c]
  · simp [c, show j - 64 < 64 by omega]
theorem hbit_low (n j : Nat) (hn : n ≤ 128) (hj : j < 128) : hbit (low (n - 64)) (low (min n 64)) j = decide (j < n) := by
  unfold hbit
  by_cases c : j < 64
  · rw [if_pos c, low_bit _ _ (by omega)]; congr 1; apply propext; omega
  · rw [if_neg c, low_bit _ _ (by omega)]; congr 1; apply propext; omega
theorem mask_bit (a n j : Nat) (h : a + n ≤ 128) (hj : j < 128) : hbit (maskH a n) (maskL a n) j = (decide (a ≤ j) && decide (j < a + n)) := by
  unfold maskH maskL
  rw [hbit_andNot _ _ _ _ _ hj, hbit_low _ _ h hj, hbit_low _ _ (by omega) hj, Bool.and_comm]
  congr 1; rw [← decide_not]; congr 1; apply propext; omega
theorem get_bit (h l : BitVec 64) (a n i : Nat) (hn : n ≤ 64) : (getW h l a n).getLsbD i = (decide (i < n) && hbit h l (a + i)) := by
  unfold getW
  rw [BitVec.getLsbD_and, downW_bit, low_bit _ _ hn]
  by_cases c : i < n
  · simp [c, show i < 64 by omega]
  · simp [c]
theorem put_bit (h l : BitVec 64) (a n : Nat) (v : BitVec 64) (j : Nat) (hn : n ≤ 64) (hj : j < 128) :
    hbit (putH h a n v) (putL l a n v) j = ((hbit h l j && !(decide (a ≤ j) && decide (j < a + n))) || (decide (a ≤ j) && v.getLsbD (j - a))) := by
  unfold putH putL
  rw [hbit_or, hbit_andNot _ _ _ _ _ hj, up_bit _ _ _ hj, up_bit _ _ _ hj, low_bit _ _ hn]
  congr 3
  by_cases c : a ≤ j
  · simp only [c, decide_true, Bool.true_and]; congr 1; apply propext; omega
  · simp [c]
/-- A header is its bits. -/
theorem head_ext {h l h' l' : BitVec 64} (hb : ∀ j, j < 128 → hbit h l j = hbit h' l' j) : h = h' ∧ l = l' := by
  constructor
  · apply BitVec.eq_of_getLsbD_eq
    intro i hi
    have := hb (i + 64) (by omega)
    simpa [hbit, show ¬ i + 64 < 64 by omega] using this
  · apply BitVec.eq_of_getLsbD_eq
    intro i hi
    have := hb i (by omega)
    simpa [hbit, hi] using this
/-- -1, 0, 1: as numbers of 128 bits. -/
def cmpH (h l h' l' : BitVec 64) : Int := if cmpW h h' = 0 then cmpW l l' else cmpW h h'
theorem bv_or_parts (x m : BitVec 64) : (x &&& m) ||| (x &&& ~~~m) = x := by
  apply BitVec.eq_of_getLsbD_eq; intro i hi
  simp only [BitVec.getLsbD_or, BitVec.getLsbD_and, BitVec.getLsbD_not, hi, decide_true, Bool.true_and]
  cases x.getLsbD i <;> cases m.getLsbD i <;> rfl
theorem bv_xor_parts (x m : BitVec 64) : (x &&& m) ^^^ (x &&& ~~~m) = x := by
  apply BitVec.eq_of_getLsbD_eq; intro i hi
  simp only [BitVec.getLsbD_xor, BitVec.getLsbD_and, BitVec.getLsbD_not, hi, decide_true, Bool.true_and]
  cases x.getLsbD i <;> cases m.getLsbD i <;> rfl
theorem bv_and_parts (x m : BitVec 64) : (x &&& m) &&& (x &&& ~~~m) = 0#64 := by
  apply BitVec.eq_of_getLsbD_eq; intro i hi
  simp only [BitVec.getLsbD_and, BitVec.getLsbD_not, hi, decide_true, Bool.true_and, BitVec.getLsbD_zero]
  cases x.getLsbD i <;> cases m.getLsbD i <;> rfl
theorem cnt_parts (p q r : Nat → Bool) (k : Nat) (h : ∀ i, i < k → (q i).toNat + (r i).toNat = (p i).toNat) : cnt q k + cnt r k = cnt p k := by
  induction k with
  | zero => rfl
  | succ k ih =>
    have h1 := ih (fun i hi => h i (by omega))
    have h2 := h k (by omega)
    simp only [cnt]; omega
theorem ones_parts (x m : BitVec 64) : ones (x &&& m) + ones (x &&& ~~~m) = ones x := by
  refine cnt_parts _ _ _ 64 fun i hi => ?_
  simp only [BitVec.getLsbD_and, BitVec.getLsbD_not, hi, decide_true, Bool.true_and]
  cases x.getLsbD i <;> cases m.getLsbD i <;> rfl
theorem uv_and_le (x m : BitVec 64) : uv (x &&& m) ≤ uv x := by
  unfold uv; rw [BitVec.toNat_and]; have := @Nat.and_le_left x.toNat m.toNat; omega
theorem cmpW_le (x y : BitVec 64) (h : uv x ≤ uv y) : cmpW x y ≤ 0 := by
  rcases cmpW_cases x y with ⟨_, e⟩ | ⟨_, h2, _⟩ | ⟨_, _, e⟩
  · omega
  · omega
  · omega
def nin (h l mh ml : BitVec 64) : Int := ((ones (h &&& mh) + ones (l &&& ml) : Nat) : Int)
def nout (h l mh ml : BitVec 64) : Int := ((ones (h &&& ~~~mh) + ones (l &&& ~~~ml) : Nat) : Int)
def cin (h l mh ml : BitVec 64) : Int := cmpH (h &&& mh) (l &&& ml) h l
theorem cin_le (h l mh ml : BitVec 64) : cin h l mh ml ≤ 0 := by
  unfold cin cmpH
  have h1 := cmpW_le _ _ (uv_and_le h mh)
  have h2 := cmpW_le _ _ (uv_and_le l ml)
  by_cases c : cmpW (h &&& mh) h = 0
  · rw [if_pos c]; exact h2
  · rw [if_neg c]; exact h1
theorem nin_nout (h l mh ml : BitVec 64) : ((ones h + ones l : Nat) : Int) = nin h l mh ml + nout h l mh ml := by
  unfold nin nout
  have h1 := ones_parts h mh
  have h2 := ones_parts l ml
  omega
theorem nin_bd (h l mh ml : BitVec 64) : 0 ≤ nin h l mh ml ∧ nin h l mh ml ≤ 128 := by
  unfold nin; have := ones_le (h &&& mh); have := ones_le (l &&& ml); omega
theorem nout_bd (h l mh ml : BitVec 64) : 0 ≤ nout h l mh ml ∧ nout h l mh ml ≤ 128 := by
  unfold nout; have := ones_le (h &&& ~~~mh); have := ones_le (l &&& ~~~ml); omega
theorem cnt_128 (h l : BitVec 64) : cnt (hbit h l) 128 = ones h + ones l := by
  rw [show (128 : Nat) = 64 + 64 by rfl, cnt_add, Nat.add_comm]
  have e1 : cnt (fun i => hbit h l (64 + i)) 64 = ones h := cnt_congr 64 fun i hi => by simp [hbit, show ¬ 64 + i < 64 by omega]
  have e2 : cnt (hbit h l) 64 = ones l := cnt_congr 64 fun i hi => by simp [hbit, hi]
  rw [e1, e2]
theorem cnt_range (k n m : Nat) : cnt (fun j => decide (k ≤ j) && decide (j < k + n)) m = min m (k + n) - min m k := by
  induction m with
  | zero => simp [cnt]
  | succ m ih =>
    rw [cnt, ih]
    by_cases h1 : k ≤ m
    · by_cases h2 : m < k + n
      · simp only [h1, h2, decide_true, Bool.and_self, Bool.toNat_true]; omega
      · simp only [h1, h2, decide_true, decide_false, Bool.true_and, Bool.toNat_false]; omega
    · simp only [h1, decide_false, Bool.false_and, Bool.toNat_false]; omega
theorem ones_mask (k n : Nat) (h : k + n ≤ 128) : ones (maskH k n) + ones (maskL k n) = n := by
  rw [← cnt_128, cnt_congr 128 (fun j hj => mask_bit k n j h hj), cnt_range]; omega
theorem get_put (h l v : BitVec 64) (k n : Nat) (hk : k + n ≤ 128) (hn : n ≤ 64) : getW (putH h k n (v &&& low n)) (putL l k n (v &&& low n)) k n = v &&& low n := by
  apply BitVec.eq_of_getLsbD_eq
  intro i hi
  rw [get_bit _ _ _ _ _ hn, BitVec.getLsbD_and, low_bit _ _ hn]
  by_cases c : i < n
  · rw [put_bit _ _ _ _ _ _ hn (by omega)]
    simp only [BitVec.getLsbD_and, low_bit _ _ hn, c, show k ≤ k + i by omega, show k + i < k + n by omega, decide_true, Bool.true_and, Bool.and_true, Bool.not_true, Bool.and_false, Bool.false_or, Nat.add_sub_cancel_left]
  · simp [c]
theorem less_put (h l v : BitVec 64) (k n : Nat) (hk : k + n ≤ 128) (hn : n ≤ 64) :
    putH h k n (v &&& low n) &&& ~~~ maskH k n = h &&& ~~~ maskH k n ∧ putL l k n (v &&& low n) &&& ~~~ maskL k n = l &&& ~~~ maskL k n := by
  apply head_ext
  intro j hj
  rw [hbit_andNot _ _ _ _ _ hj, hbit_andNot _ _ _ _ _ hj, mask_bit _ _ _ hk hj, put_bit _ _ _ _ _ _ hn hj, BitVec.getLsbD_and, low_bit _ _ hn]
  by_cases c1 : k ≤ j
  · by_cases c2 : j < k + n
    · simp [c1, c2]
    · simp [c1, c2, show ¬ j - k < n by omega]
  · simp [c1]
theorem not_over (v : BitVec 64) (n : Nat) : ¬ uv (low n) < uv (v &&& low n) := by
  have h : uv (v &&& low n) ≤ uv (low n) := by
    unfold uv; rw [BitVec.toNat_and]; have := @Nat.and_le_right v.toNat (low n).toNat; omega
  omega
theorem uv_mod_pow (v : BitVec 64) (n : Nat) (h : n < 64) : uv v % uv (1#64 <<< n) = uv (v &&& low n) := by
  unfold uv
  have e : (1#64 <<< n : BitVec 64).toNat = 2 ^ n := by
    rw [BitVec.toNat_shiftLeft, Nat.shiftLeft_eq, show (1#64 : BitVec 64).toNat = 1 by rfl, Nat.one_mul]
    exact Nat.mod_eq_of_lt (Nat.pow_lt_pow_right (by omega) (by omega))
  rw [e, BitVec.toNat_and, low_nat n (by omega), Nat.and_two_pow_sub_one_eq_mod]
  exact (Int.natCast_emod _ _).symm
theorem and_low_64 (v : BitVec 64) : v &&& low 64 = v := by
  apply BitVec.eq_of_getLsbD_eq
  intro i hi
  rw [BitVec.getLsbD_and, low_bit _ _ (by omega)]; simp [hi]
theorem pow_pos (n : Nat) (h : n < 64) : 0 < uv (1#64 <<< n) := by
  unfold uv
  rw [BitVec.toNat_shiftLeft, Nat.shiftLeft_eq, show (1#64 : BitVec 64).toNat = 1 by rfl, Nat.one_mul, Nat.mod_eq_of_lt (Nat.pow_lt_pow_right (by omega) (by omega))]
  have := Nat.two_pow_pos n; omega
end Go.Proofs.Hd
