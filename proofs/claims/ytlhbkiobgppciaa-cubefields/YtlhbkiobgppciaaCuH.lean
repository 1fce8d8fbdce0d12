/-
  Contracts of cube's Meet, Within, Before and After for all inputs, each in one sentence. No conditions.
-/
import Derived.Test.YtlhbkiobgppciaaCuB
import Derived.Test.YtlhbkiobgppciaaCuW
namespace Go.Proofs
open Go.RowKit Go.Proofs.Hd
def sel (c : Bool) (x : BitVec 64) : BitVec 64 := if c = true then x else 0#64
theorem sel_t (x : BitVec 64) : sel true x = x := rfl
theorem sel_f (x : BitVec 64) : uv (sel false x) = 0 := rfl
/-- Is the intersection not empty? -/
def metB (avh avl ach acl bvh bvl bch bcl : BitVec 64) : Bool := sndB avh avl ach acl && (sndB bvh bvl bch bcl && agrB avh avl ach acl bvh bvl bch bcl)
/-- Does the first care for all bits that the second cares for? -/
def inB (ach acl bch bcl : BitVec 64) : Bool := (ach &&& bch == bch) && (acl &&& bcl == bcl)
def witB (avh avl ach acl bvh bvl bch bcl : BitVec 64) : Bool := sndB avh avl ach acl && (sndB bvh bvl bch bcl && (inB ach acl bch bcl && agrB avh avl ach acl bvh bvl bch bcl))
def befB (avh avl ach acl bvh bvl bch bcl : BitVec 64) : Bool := sndB avh avl ach acl && agrB avh avl ach acl bvh bvl bch bcl
theorem in_eq (ach acl bch bcl : BitVec 64) : eq2 (uv (ach &&& bch)) (uv (acl &&& bcl)) (uv bch) (uv bcl) = inB ach acl bch bcl := eq2_uv _ _ _ _

theorem meet_c (avh avl ach acl bvh bvl bch bcl : BitVec 64) (w : World) : Calls Try.prog 15 #[.agg #[.int .u64 (uv avh), .int .u64 (uv avl), .int .u64 (uv ach), .int .u64 (uv acl)], .agg #[.int .u64 (uv bvh), .int .u64 (uv bvl), .int .u64 (uv bch), .int .u64 (uv bcl)]] w fun e w' => e = .returned (.tuple #[.agg #[.int .u64 (uv (sel (metB avh avl ach acl bvh bvl bch bcl) (avh ||| bvh))), .int .u64 (uv (sel (metB avh avl ach acl bvh bvl bch bcl) (avl ||| bvl))), .int .u64 (uv (sel (metB avh avl ach acl bvh bvl bch bcl) (ach ||| bch))), .int .u64 (uv (sel (metB avh avl ach acl bvh bvl bch bcl) (acl ||| bcl)))], .bool (metB avh avl ach acl bvh bvl bch bcl)]) ∧ Below w.heap.size w w' := by
  cases h1 : sndB avh avl ach acl
  · rw [show metB avh avl ach acl bvh bvl bch bcl = false by unfold metB; rw [h1]; rfl]; simp only [sel_f]; exact meet_no1 _ _ _ _ _ _ _ _ _ h1
  · cases h2 : sndB bvh bvl bch bcl
    · rw [show metB avh avl ach acl bvh bvl bch bcl = false by unfold metB; rw [h1, h2]; rfl]; simp only [sel_f]; exact meet_no2 _ _ _ _ _ _ _ _ _ h1 h2
    · cases h3 : agrB avh avl ach acl bvh bvl bch bcl
      · rw [show metB avh avl ach acl bvh bvl bch bcl = false by unfold metB; rw [h1, h2, h3]; rfl]; simp only [sel_f]; exact meet_no3 _ _ _ _ _ _ _ _ _ h1 h2 h3
      · rw [show metB avh avl ach acl bvh bvl bch bcl = true by unfold metB; rw [h1, h2, h3]; rfl]; simp only [sel_t]; exact meet_yes _ _ _ _ _ _ _ _ _ h1 h2 h3

theorem within_c (avh avl ach acl bvh bvl bch bcl : BitVec 64) (w : World) : Calls Try.prog 16 #[.agg #[.int .u64 (uv avh), .int .u64 (uv avl), .int .u64 (uv ach), .int .u64 (uv acl)], .agg #[.int .u64 (uv bvh), .int .u64 (uv bvl), .int .u64 (uv bch), .int .u64 (uv bcl)]] w fun e w' => e = .returned (.bool (witB avh avl ach acl bvh bvl bch bcl)) ∧ Below w.heap.size w w' := by
  cases h1 : sndB avh avl ach acl
  · rw [show witB avh avl ach acl bvh bvl bch bcl = false by unfold witB; rw [h1]; rfl]; exact within_no1 _ _ _ _ _ _ _ _ _ h1
  · cases h2 : sndB bvh bvl bch bcl
    · rw [show witB avh avl ach acl bvh bvl bch bcl = false by unfold witB; rw [h1, h2]; rfl]; exact within_no2 _ _ _ _ _ _ _ _ _ h1 h2
    · cases h3 : inB ach acl bch bcl
      · rw [show witB avh avl ach acl bvh bvl bch bcl = false by unfold witB; rw [h1, h2, h3]; rfl]; exact within_no3 _ _ _ _ _ _ _ _ _ h1 h2 (by rw [in_eq, h3])
      · rw [show witB avh avl ach acl bvh bvl bch bcl = agrB avh avl ach acl bvh bvl bch bcl by unfold witB; rw [h1, h2, h3]; rfl]; exact within_yes _ _ _ _ _ _ _ _ _ h1 h2 (by rw [in_eq, h3])

theorem before_c (avh avl ach acl bvh bvl bch bcl : BitVec 64) (w : World) : Calls Try.prog 30 #[.agg #[.int .u64 (uv avh), .int .u64 (uv avl), .int .u64 (uv ach), .int .u64 (uv acl)], .agg #[.int .u64 (uv bvh), .int .u64 (uv bvl), .int .u64 (uv bch), .int .u64 (uv bcl)]] w fun e w' => e = .returned (.tuple #[.agg #[.int .u64 (uv (sel (befB avh avl ach acl bvh bvl bch bcl) (avh &&& (ach &&& ~~~bch)))), .int .u64 (uv (sel (befB avh avl ach acl bvh bvl bch bcl) (avl &&& (acl &&& ~~~bcl)))), .int .u64 (uv (sel (befB avh avl ach acl bvh bvl bch bcl) (ach &&& ~~~bch))), .int .u64 (uv (sel (befB avh avl ach acl bvh bvl bch bcl) (acl &&& ~~~bcl)))], .bool (befB avh avl ach acl bvh bvl bch bcl)]) ∧ Below w.heap.size w w' := by
  cases h1 : sndB avh avl ach acl
  · rw [show befB avh avl ach acl bvh bvl bch bcl = false by unfold befB; rw [h1]; rfl]; simp only [sel_f]; exact before_no1 _ _ _ _ _ _ _ _ _ h1
  · cases h3 : agrB avh avl ach acl bvh bvl bch bcl
    · rw [show befB avh avl ach acl bvh bvl bch bcl = false by unfold befB; rw [h1, h3]; rfl]; simp only [sel_f]; exact before_no2 _ _ _ _ _ _ _ _ _ h1 h3
    · rw [show befB avh avl ach acl bvh bvl bch bcl = true by unfold befB; rw [h1, h3]; rfl]; simp only [sel_t]; exact before_yes _ _ _ _ _ _ _ _ _ h1 h3

theorem after_c (avh avl ach acl bvh bvl bch bcl : BitVec 64) (w : World) : Calls Try.prog 31 #[.agg #[.int .u64 (uv avh), .int .u64 (uv avl), .int .u64 (uv ach), .int .u64 (uv acl)], .agg #[.int .u64 (uv bvh), .int .u64 (uv bvl), .int .u64 (uv bch), .int .u64 (uv bcl)]] w fun e w' => e = .returned (.agg #[.int .u64 (uv (sel (sndB avh avl ach acl) ((avh &&& ~~~bch) ||| (bvh &&& bch)))), .int .u64 (uv (sel (sndB avh avl ach acl) ((avl &&& ~~~bcl) ||| (bvl &&& bcl)))), .int .u64 (uv (sel (sndB avh avl ach acl) (ach ||| bch))), .int .u64 (uv (sel (sndB avh avl ach acl) (acl ||| bcl)))]) ∧ Below w.heap.size w w' := by
  cases h1 : sndB avh avl ach acl
  · simp only [sel_f]; exact after_no _ _ _ _ _ _ _ _ _ h1
  · simp only [sel_t]; exact after_yes _ _ _ _ _ _ _ _ _ h1

theorem pair_bits (a b c d : BitVec 64) : ((a == c) && (b == d)) = true ↔ ∀ j, j < 128 → hbit a b j = hbit c d j := by
  simp only [Bool.and_eq_true, beq_iff_eq]
  constructor
  · rintro ⟨rfl, rfl⟩ j _; rfl
  · exact fun h => head_ext h
theorem snd_bits (avh avl ach acl : BitVec 64) : sndB avh avl ach acl = true ↔ ∀ j, j < 128 → hbit avh avl j = true → hbit ach acl j = true := by
  unfold sndB
  rw [pair_bits]
  constructor
  · intro h j hj hv; have := h j hj; rw [hbit_and, hv] at this; simpa using this
  · intro h j hj; rw [hbit_and]; cases hv : hbit avh avl j with
    | false => rfl
    | true => rw [h j hj hv]; rfl
theorem has_bits (avh avl ach acl hh hl : BitVec 64) : hasB avh avl ach acl hh hl = true ↔ ∀ j, j < 128 → (hbit hh hl j && hbit ach acl j) = hbit avh avl j := by
  unfold hasB
  rw [pair_bits]
  exact ⟨fun h j hj => by rw [← hbit_and]; exact h j hj, fun h j hj => by rw [hbit_and]; exact h j hj⟩
theorem agr_bits (avh avl ach acl bvh bvl bch bcl : BitVec 64) : agrB avh avl ach acl bvh bvl bch bcl = true ↔ ∀ j, j < 128 → hbit ach acl j = true → hbit bch bcl j = true → hbit avh avl j = hbit bvh bvl j := by
  unfold agrB
  rw [pair_bits]
  constructor
  · intro h j hj h1 h2; have := h j hj; simp only [hbit_and, h1, h2, Bool.and_true] at this; exact this
  · intro h j hj; simp only [hbit_and]
    cases h1 : hbit ach acl j <;> cases h2 : hbit bch bcl j <;> simp
    exact h j hj h1 h2
theorem in_bits (ach acl bch bcl : BitVec 64) : inB ach acl bch bcl = true ↔ ∀ j, j < 128 → hbit bch bcl j = true → hbit ach acl j = true := by
  unfold inB
  rw [pair_bits]
  constructor
  · intro h j hj h1; have := h j hj; rw [hbit_and, h1] at this; simpa using this
  · intro h j hj; rw [hbit_and]; cases h1 : hbit bch bcl j with
    | false => simp
    | true => rw [h j hj h1]; rfl
theorem agr_comm (avh avl ach acl bvh bvl bch bcl : BitVec 64) : agrB bvh bvl bch bcl avh avl ach acl = agrB avh avl ach acl bvh bvl bch bcl := by
  rw [Bool.eq_iff_iff, agr_bits, agr_bits]
  exact ⟨fun h j hj h1 h2 => (h j hj h2 h1).symm, fun h j hj h1 h2 => (h j hj h2 h1).symm⟩
theorem met_comm (avh avl ach acl bvh bvl bch bcl : BitVec 64) : metB bvh bvl bch bcl avh avl ach acl = metB avh avl ach acl bvh bvl bch bcl := by
  unfold metB; rw [agr_comm]; cases sndB avh avl ach acl <;> cases sndB bvh bvl bch bcl <;> simp
theorem meet_r (avh avl ach acl bvh bvl bch bcl : BitVec 64) (w : World) : Calls Try.prog 15 #[.agg #[.int .u64 (uv bvh), .int .u64 (uv bvl), .int .u64 (uv bch), .int .u64 (uv bcl)], .agg #[.int .u64 (uv avh), .int .u64 (uv avl), .int .u64 (uv ach), .int .u64 (uv acl)]] w fun e w' => e = .returned (.tuple #[.agg #[.int .u64 (uv (sel (metB avh avl ach acl bvh bvl bch bcl) (avh ||| bvh))), .int .u64 (uv (sel (metB avh avl ach acl bvh bvl bch bcl) (avl ||| bvl))), .int .u64 (uv (sel (metB avh avl ach acl bvh bvl bch bcl) (ach ||| bch))), .int .u64 (uv (sel (metB avh avl ach acl bvh bvl bch bcl) (acl ||| bcl)))], .bool (metB avh avl ach acl bvh bvl bch bcl)]) ∧ Below w.heap.size w w' := by
  have h := meet_c bvh bvl bch bcl avh avl ach acl w
  rwa [met_comm, BitVec.or_comm bvh avh, BitVec.or_comm bvl avl, BitVec.or_comm bch ach, BitVec.or_comm bcl acl] at h
attribute [irreducible] sel metB witB befB inB
end Go.Proofs
