/-
  Plain facts on whole arrays that are written place by place. No conditions.
-/
import Derived.Test.YtfmfbkfppfohbaaJ11
import Derived.Deep.RegionHeld
namespace Go.Proofs.Hd
open Go.RowKit
/-- The array f lies in block b, whole, and may be written. -/
def Row (w : World) (b : Nat) (f : Nat → Bool) : Prop := w.rangeAt b 0 (bl f) ∧ w.there b 0 128
theorem Row.cell {w : World} {b k : Nat} {f : Nat → Bool} (h : Row w b f) (hk : k < 128) : w.cell? ⟨b, k, none⟩ = some (.bool (f k)) := range_cell h.1 hk
theorem Row.froz {w : World} {b k : Nat} {f : Nat → Bool} (h : Row w b f) (hk : k < 128) : w.frozen? ⟨b, k, none⟩ = false := by
  have := (h.2 k hk).2; rwa [Nat.zero_add] at this
theorem Row.lt {w : World} {b : Nat} {f : Nat → Bool} (h : Row w b f) : b < w.heap.size := World.block_lt_of_cell? w ⟨b, 0, none⟩ (h.cell (by omega))
theorem Row.drew {w : World} {b : Nat} {f : Nat → Bool} (h : Row w b f) : Row w.drew b f := h
theorem Row.far {w : World} {b : Nat} {f : Nat → Bool} {p : Addr} {v : Value} (h : Row w b f) (hp : p.block ≠ b) : Row (w.setCell p v) b f := by
  refine ⟨fun j x hj => ?_, fun j hj => ?_⟩
  · rw [World.cell?_setCell_far w p ⟨b, 0 + j, none⟩ v hp]; exact h.1 j x hj
  · rw [World.cell?_setCell_far w p ⟨b, 0 + j, none⟩ v hp, World.frozen?_setCell]; exact h.2 j hj
theorem Row.set {w : World} {b k : Nat} {f g : Nat → Bool} {x : Bool} (h : Row w b f) (hk : k < 128) (e : (bl f).set k (.bool x) = bl g) : Row (w.setCell ⟨b, k, none⟩ (.bool x)) b g := by
  have hc : ∀ j, j < 128 → (w.setCell ⟨b, k, none⟩ (.bool x)).cell? ⟨b, j, none⟩ = some (if j = k then .bool x else .bool (f j)) := by
    intro j hj
    by_cases ej : j = k
    · subst ej; rw [if_pos rfl]; exact World.cell?_setCell_same w ⟨b, j, none⟩ (.bool x) (h.cell hj)
    · rw [if_neg ej, World.cell?_setCell_other w ⟨b, k, none⟩ ⟨b, j, none⟩ (.bool x) (fun e2 => ej (by injection e2 with _ e3; exact e3.symm)), h.cell hj]
  refine ⟨fun j y hj => ?_, fun j hj => ?_⟩
  · have hj' : j < 128 := by
      have := (List.getElem?_eq_some_iff.1 hj).1; rwa [bl_len] at this
    rw [Nat.zero_add, hc j hj', ← hj, ← e, bl_set, bl_get _ _ hj']
    by_cases ej : j = k <;> simp [ej]
  · rw [Nat.zero_add, hc j hj, World.frozen?_setCell]
    exact ⟨rfl, h.froz hj⟩
theorem Row.below {B b : Nat} {w w' : World} {f : Nat → Bool} (h : Row w b f) (hb : Below B w w') (hl : b < B) : Row w' b f := ⟨range_below hb h.1 hl, there_below hb h.2 hl⟩
theorem Row.of_set {w : World} {b : Nat} (f : Nat → Bool) (h : w.there b 0 128) : Row (w.setCells b 0 (bl f)) b f :=
  ⟨World.rangeAt_setCells_same w b 0 (bl f) (by rw [bl_len]; exact h), World.there_setCells h b 0 (bl f)⟩
theorem Row.apart {w : World} {b c : Nat} {f : Nat → Bool} {vs : List Value} (h : Row w b f) (hne : b ≠ c) : Row (w.setCells c 0 vs) b f :=
  ⟨World.rangeAt_setCells_apart h.1 c 0 vs (Or.inl hne), World.there_setCells h.2 c 0 vs⟩
theorem Row.congr {w : World} {b : Nat} {f g : Nat → Bool} (h : Row w b f) (e : bl f = bl g) : Row w b g := ⟨e ▸ h.1, h.2⟩
/-- g below k, f from k on. -/
def mix (f g : Nat → Bool) (k : Nat) : Nat → Bool := fun j => if j < k then g j else f j
theorem mix_zero (f g : Nat → Bool) : mix f g 0 = f := by funext j; simp [mix]
theorem mix_all (f g : Nat → Bool) : bl (mix f g 128) = bl g := bl_congr fun j hj => by simp [mix, hj]
theorem mix_set (f g : Nat → Bool) (k : Nat) (b : Bool) (h : b = g k) : (bl (mix f g k)).set k (.bool b) = bl (mix f g (k + 1)) := by
  subst h
  rw [bl_set]
  apply bl_congr
  intro j _
  unfold mix
  by_cases e : j = k
  · subst e; simp
  · rw [if_neg e]
    have : (j < k + 1) ↔ (j < k) := by omega
    simp [this]
theorem and127i (m : Nat) (h : m < 128) : bits .and .i64 (m : Int) 127 = (m : Int) := by
  have e : wrap64 (uv (BitVec.ofNat 64 m)) = (m : Int) := by
    rw [uv_ofNat, IntKind.wrap_u64]; unfold wrap64; omega
  have := and127 (BitVec.ofNat 64 m)
  rw [e, BitVec.toNat_ofNat] at this
  have e2 : (2 : Nat) ^ 64 = 18446744073709551616 := by decide +kernel
  rw [this, e2]; omega
/-- Bit n of a header, false outside 0 .. 127. -/
def bitI (h l : BitVec 64) (n : Int) : Bool := if 0 ≤ n ∧ n < 128 then hbit h l n.toNat else false
theorem and_num (h l p q : BitVec 64) : num (fun j => hbit h l j && hbit p q j) 64 64 = h &&& p ∧ num (fun j => hbit h l j && hbit p q j) 0 64 = l &&& q := num_of_bits fun j _ => hbit_and h l p q j
theorem or_num (h l p q : BitVec 64) : num (fun j => hbit h l j || hbit p q j) 64 64 = h ||| p ∧ num (fun j => hbit h l j || hbit p q j) 0 64 = l ||| q := num_of_bits fun j _ => hbit_or h l p q j
theorem xor_num (h l p q : BitVec 64) : num (fun j => hbit h l j ^^ hbit p q j) 64 64 = h ^^^ p ∧ num (fun j => hbit h l j ^^ hbit p q j) 0 64 = l ^^^ q := num_of_bits fun j _ => hbit_xor h l p q j
theorem less_num (h l p q : BitVec 64) : num (fun j => hbit h l j && !hbit p q j) 64 64 = h &&& ~~~p ∧ num (fun j => hbit h l j && !hbit p q j) 0 64 = l &&& ~~~q := num_of_bits fun j hj => hbit_andNot h l p q j hj
theorem two_Rows {V : World} {b c : Nat} (f g : Nat → Bool) (h1 : V.there b 0 128) (h2 : V.there c 0 128) (hne : b ≠ c) :
    Row ((V.setCells b 0 (bl f)).setCells c 0 (bl g)) b f ∧ Row ((V.setCells b 0 (bl f)).setCells c 0 (bl g)) c g :=
  ⟨(Row.of_set f h1).apart hne, Row.of_set g (World.there_setCells h2 b 0 (bl f))⟩
theorem four_Rows {V : World} {b c d e : Nat} (f : Nat → Bool) (h1 : V.there b 0 128) (h2 : V.there c 0 128) (h3 : V.there d 0 128) (h4 : V.there e 0 128) (n1 : b ≠ c) (n2 : b ≠ d) (n3 : b ≠ e) (n4 : c ≠ d) (n5 : c ≠ e) (n6 : d ≠ e) :
    Row ((((V.setCells b 0 (bl f)).setCells c 0 (bl f)).setCells d 0 (bl f)).setCells e 0 (bl f)) b f ∧ Row ((((V.setCells b 0 (bl f)).setCells c 0 (bl f)).setCells d 0 (bl f)).setCells e 0 (bl f)) c f ∧
    Row ((((V.setCells b 0 (bl f)).setCells c 0 (bl f)).setCells d 0 (bl f)).setCells e 0 (bl f)) d f ∧ Row ((((V.setCells b 0 (bl f)).setCells c 0 (bl f)).setCells d 0 (bl f)).setCells e 0 (bl f)) e f :=
  ⟨(((Row.of_set f h1).apart n1).apart n2).apart n3, ((Row.of_set f (World.there_setCells h2 _ _ _)).apart n4).apart n5, (Row.of_set f (World.there_setCells (World.there_setCells h3 _ _ _) _ _ _)).apart n6, Row.of_set f (World.there_setCells (World.there_setCells (World.there_setCells h4 _ _ _) _ _ _) _ _ _)⟩
end Go.Proofs.Hd
