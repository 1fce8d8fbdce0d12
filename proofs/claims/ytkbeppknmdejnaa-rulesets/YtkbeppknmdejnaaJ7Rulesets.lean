/-
  Plain facts on the bits of a field. No conditions.
  Plain facts on whole arrays that are written place by place. No conditions.
-/
import Derived.Test.YtkbeppknmdejnaaJ6
import Derived.Deep.RegionHeld
namespace Go.Proofs.Hd
open Go.RowKit
/-- The bits a .. a + k - 1. -/
def mk (a k : Nat) : Nat → Bool := fun j => decide (a ≤ j) && decide (j < a + k)
theorem mk_zero (a : Nat) : bl (mk a 0) = bl (fun _ => false) := bl_congr fun j _ => by
  unfold mk; by_cases h : a ≤ j
  · simp [h, show ¬ j < a by omega]
  · simp [h]
theorem mk_succ (a k : Nat) : (bl (mk a k)).set (a + k) (.bool true) = bl (mk a (k + 1)) := by
  rw [bl_set]
  apply bl_congr
  intro j _
  unfold mk
  by_cases e : j = a + k
  · subst e; simp
  · by_cases h : a ≤ j
    · have : (j < a + (k + 1)) ↔ (j < a + k) := by omega
      simp [e, h, this]
    · simp [e, h]
theorem mk_num (a n : Nat) (h : a + n ≤ 128) : num (mk a n) 64 64 = maskH a n ∧ num (mk a n) 0 64 = maskL a n :=
  num_of_bits fun j hj => by rw [mask_bit a n j h hj]; rfl
/-- A header's bits, of which k from a on are those of v. -/
def pt (h l v : BitVec 64) (a k : Nat) : Nat → Bool := fun j => if a ≤ j ∧ j < a + k then v.getLsbD (j - a) else hbit h l j
theorem pt_zero (h l v : BitVec 64) (a : Nat) : pt h l v a 0 = hbit h l := by
  funext j; unfold pt; rw [if_neg (by omega)]
theorem pt_succ (h l v : BitVec 64) (a k : Nat) (b : Bool) (hb : b = v.getLsbD k) : (bl (pt h l v a k)).set (a + k) (.bool b) = bl (pt h l v a (k + 1)) := by
  subst hb
  rw [bl_set]
  apply bl_congr
  intro j _
  unfold pt
  by_cases e : j = a + k
  · subst e; rw [if_pos rfl, if_pos (by omega), Nat.add_sub_cancel_left]
  · rw [if_neg e]
    by_cases c : a ≤ j ∧ j < a + k
    · rw [if_pos c, if_pos (by omega)]
    · rw [if_neg c, if_neg (by omega)]
theorem fit_bits (v : BitVec 64) (n i : Nat) (hn : n ≤ 64) (h : ¬ uv (low n) < uv v) (hi : n ≤ i) : v.getLsbD i = false := by
  unfold uv at h
  rw [low_nat n hn] at h
  have h2 : v.toNat < 2 ^ n := by have := Nat.two_pow_pos n; omega
  rw [BitVec.getLsbD, Nat.testBit_lt_two_pow]
  exact Nat.lt_of_lt_of_le h2 (Nat.pow_le_pow_right (by omega) hi)
theorem pt_num (h l v : BitVec 64) (a n : Nat) (hn : n ≤ 64) (hv : ¬ uv (low n) < uv v) : num (pt h l v a n) 64 64 = putH h a n v ∧ num (pt h l v a n) 0 64 = putL l a n v :=
  num_of_bits fun j hj => by
    rw [put_bit h l a n v j hn hj]
    unfold pt
    by_cases c : a ≤ j ∧ j < a + n
    · rw [if_pos c]; simp [c.1, c.2]
    · rw [if_neg c]
      by_cases c1 : a ≤ j
      · have c2 : ¬ j < a + n := fun h2 => c ⟨c1, h2⟩
        simp [c1, c2, fit_bits v n (j - a) hn hv (by omega)]
      · simp [c1]
theorem over_small (v : BitVec 64) (n : Nat) (hn : n ≤ 64) (hv : uv (low n) < uv v) : n < 64 ∧ (uv (v >>> n) != 0) = true := by
  unfold uv at *
  rw [low_nat n hn] at hv
  have hl := v.isLt
  have hp := Nat.two_pow_pos n
  have h1 : n < 64 := by
    rcases Nat.lt_or_ge n 64 with h | h
    · exact h
    · have : n = 64 := by omega
      subst this; omega
  refine ⟨h1, ?_⟩
  rw [BitVec.toNat_ushiftRight, Nat.shiftRight_eq_div_pow]
  have : 0 < v.toNat / 2 ^ n := Nat.div_pos (by omega) hp
  simp only [bne_iff_ne, ne_eq]; omega
theorem fit_small (v : BitVec 64) (n : Nat) (hn : n ≤ 64) (hv : ¬ uv (low n) < uv v) : (uv (v >>> n) != 0) = false := by
  unfold uv at *
  rw [low_nat n hn] at hv
  have hp := Nat.two_pow_pos n
  rw [BitVec.toNat_ushiftRight, Nat.shiftRight_eq_div_pow, Nat.div_eq_of_lt (by omega)]
  rfl
theorem v_bit (v : BitVec 64) (k : Nat) : ((uv (v >>> k)).tmod 2 == 1) = v.getLsbD k := by
  rw [uv_odd, BitVec.getLsbD_ushiftRight, Nat.add_zero]
end Go.Proofs.Hd

namespace Go.Proofs.Hd
open Go.RowKit
/-- The array f lies in block b, whole, and may be written. -/
def Row (w : World) (b : Nat) (f : Nat → Bool) : Prop := w.rangeAt b 0 (bl f) ∧ w.there b 0 128
theorem Row.cell {w : World} {b k : Nat} {f : Nat → Bool} (h : Row w b f) (hk : k < 128) : w.cell? ⟨b, k, none⟩ = some (.bool (f k)) := range_cell h.1 hk
theorem Row.froz {w : World} {b k : Nat} {f : Nat → Bool} (h : Row w b f) (hk : k < 128) : w.frozen? ⟨b, k, none⟩ = false := by
  have := (h.2 k hk).2; rwa [Nat.zero_add] at this
theorem Row.lt {w : World} {b : Nat} {f : Nat → Bool} (h : Row w b f) : b < w.heap.size := World.block_lt_of_cell? w ⟨b, 0, none⟩ (h.cell (by omega))
theorem Row.drew {w : World} {b : Nat} {f : Nat → Bool} (h : Row w b f) : Row w.drew b f := h
theorem Row.far {w : World} {b : Nat} {f : Nat → Bool} {p : Addr} {v : Value} (h : Row w b f) (hp : p.block ≠ b) : Row (w.setCell p v) b f := by
  refine ⟨fun j x hj => ?_, fun j hj => ?_⟩
  · rw [World.cell?_setCell_far w p ⟨b, 0 + j, none⟩ v hp]; exact h.1 j x hj
  · rw [World.cell?_setCell_far w p ⟨b, 0 + j, none⟩ v hp, World.frozen?_setCell]; exact h.2 j hj
theorem Row.set {w : World} {b k : Nat} {f g : Nat → Bool} {x : Bool} (h : Row w b f) (hk : k < 128) (e : (bl f).set k (.bool x) = bl g) : Row (w.setCell ⟨b, k, none⟩ (.bool x)) b g := by
  have hc : ∀ j, j < 128 → (w.setCell ⟨b, k, none⟩ (.bool x)).cell? ⟨b, j, none⟩ = some (if j = k then .bool x else .bool (f j)) := by
    intro j hj
    by_cases ej : j = k
    · subst ej; rw [if_pos rfl]; exact World.cell?_setCell_same w ⟨b, j, none⟩ (.bool x) (h.cell hj)
    · rw [if_neg ej, World.cell?_setCell_other w ⟨b, k, none⟩ ⟨b, j, none⟩ (.bool x) (fun e2 => ej (by injection e2 with _ e3; exact e3.symm)), h.cell hj]
  refine ⟨fun j y hj => ?_, fun j hj => ?_⟩
  · have hj' : j < 128 := by
      have := (List.getElem?_eq_some_iff.1 hj).1; rwa [bl_len] at this
    rw [Nat.zero_add, hc j hj', ← hj, ← e, bl_set, bl_get _ _ hj']
    by_cases ej : j = k <;> simp [ej]
  · rw [Nat.zero_add, hc j hj, World.frozen?_setCell]
    exact ⟨rfl, h.froz hj⟩
theorem Row.below {B b : Nat} {w w' : World} {f : Nat → Bool} (h : Row w b f) (hb : Below B w w') (hl : b < B) : Row w' b f := ⟨range_below hb h.1 hl, there_below hb h.2 hl⟩
theorem Row.of_set {w : World} {b : Nat} (f : Nat → Bool) (h : w.there b 0 128) : Row (w.setCells b 0 (bl f)) b f :=
  ⟨World.rangeAt_setCells_same w b 0 (bl f) (by rw [bl_len]; exact h), World.there_setCells h b 0 (bl f)⟩
theorem Row.apart {w : World} {b c : Nat} {f : Nat → Bool} {vs : List Value} (h : Row w b f) (hne : b ≠ c) : Row (w.setCells c 0 vs) b f :=
  ⟨World.rangeAt_setCells_apart h.1 c 0 vs (Or.inl hne), World.there_setCells h.2 c 0 vs⟩
theorem Row.congr {w : World} {b : Nat} {f g : Nat → Bool} (h : Row w b f) (e : bl f = bl g) : Row w b g := ⟨e ▸ h.1, h.2⟩
/-- g below k, f from k on. -/
def mix (f g : Nat → Bool) (k : Nat) : Nat → Bool := fun j => if j < k then g j else f j
theorem mix_zero (f g : Nat → Bool) : mix f g 0 = f := by funext j; simp [mix]
theorem mix_all (f g : Nat → Bool) : bl (mix f g 128) = bl g := bl_congr fun j hj => by simp [mix, hj]
theorem mix_set (f g : Nat → Bool) (k : Nat) (b : Bool) (h : b = g k) : (bl (mix f g k)).set k (.bool b) = bl (mix f g (k + 1)) := by
  subst h
  rw [bl_set]
  apply bl_congr
  intro j _
  unfold mix
  by_cases e : j = k
  · subst e; simp
  · rw [if_neg e]
    have : (j < k + 1) ↔ (j < k) := by omega
    simp [this]
theorem and127i (m : Nat) (h : m < 128) : bits .and .i64 (m : Int) 127 = (m : Int) := by
  have e : wrap64 (uv (BitVec.ofNat 64 m)) = (m : Int) := by
    rw [uv_ofNat, IntKind.wrap_u64]; unfold wrap64; omega
  have := and127 (BitVec.ofNat 64 m)
  rw [e, BitVec.toNat_ofNat] at this
  have e2 : (2 : Nat) ^ 64 = 18446744073709551616 := by decide +kernel
  rw [this, e2]; omega
/-- Bit n of a header, false outside 0 .. 127. -/
def bitI (h l : BitVec 64) (n : Int) : Bool := if 0 ≤ n ∧ n < 128 then hbit h l n.toNat else false
theorem and_num (h l p q : BitVec 64) : num (fun j => hbit h l j && hbit p q j) 64 64 = h &&& p ∧ num (fun j => hbit h l j && hbit p q j) 0 64 = l &&& q := num_of_bits fun j _ => hbit_and h l p q j
theorem or_num (h l p q : BitVec 64) : num (fun j => hbit h l j || hbit p q j) 64 64 = h ||| p ∧ num (fun j => hbit h l j || hbit p q j) 0 64 = l ||| q := num_of_bits fun j _ => hbit_or h l p q j
theorem xor_num (h l p q : BitVec 64) : num (fun j => hbit h l j ^^ hbit p q j) 64 64 = h ^^^ p ∧ num (fun j => hbit h l j ^^ hbit p q j) 0 64 = l ^^^ q := num_of_bits fun j _ => hbit_xor h l p q j
theorem less_num (h l p q : BitVec 64) : num (fun j => hbit h l j && !hbit p q j) 64 64 = h &&& ~~~p ∧ num (fun j => hbit h l j && !hbit p q j) 0 64 = l &&& ~~~q := num_of_bits fun j hj => hbit_andNot h l p q j hj
theorem two_Rows {V : World} {b c : Nat} (f g : Nat → Bool) (h1 : V.there b 0 128) (h2 : V.there c 0 128) (hne : b ≠ c) :
    Row ((V.setCells b 0 (bl f)).setCells c 0 (bl g)) b f ∧ Row ((V.setCells b 0 (bl f)).setCells c 0 (bl g)) c g :=
  ⟨(Row.of_set f h1).apart hne, Row.of_set g (World.there_setCells h2 b 0 (bl f))⟩
theorem four_Rows {V : World} {b c d e : Nat} (f : Nat → Bool) (h1 : V.there b 0 128) (h2 : V.there c 0 128) (h3 : V.there d 0 128) (h4 : V.there e 0 128) (n1 : b ≠ c) (n2 : b ≠ d) (n3 : b ≠ e) (n4 : c ≠ d) (n5 : c ≠ e) (n6 : d ≠ e) :
    Row ((((V.setCells b 0 (bl f)).setCells c 0 (bl f)).setCells d 0 (bl f)).setCells e 0 (bl f)) b f ∧ Row ((((V.setCells b 0 (bl f)).setCells c 0 (bl f)).setCells d 0 (bl f)).setCells e 0 (bl f)) c f ∧
    Row ((((V.setCells b 0 (bl f)).setCells c 0 (bl f)).setCells d 0 (bl f)).setCells e 0 (bl f)) d f ∧ Row ((((V.setCells b 0 (bl f)).setCells c 0 (bl f)).setCells d 0 (bl f)).setCells e 0 (bl f)) e f :=
  ⟨(((Row.of_set f h1).apart n1).apart n2).apart n3, ((Row.of_set f (World.there_setCells h2 _ _ _)).apart n4).apart n5, (Row.of_set f (World.there_setCells (World.there_setCells h3 _ _ _) _ _ _)).apart n6, Row.of_set f (World.there_setCells (World.there_setCells (World.there_setCells h4 _ _ _) _ _ _) _ _ _)⟩
end Go.Proofs.Hd
