/-
  Contracts of the inner functions of package head (isField, isNumber, lowest, below, shiftedDown, shiftedUp), of cmp.Compare and OnesCount64, of Ones and of Bit outside 0..127. Conditions as each theorem lists them.
  Contracts of Bit, Mask and Get of package head and of cmp.Or at two values. Conditions as each theorem lists them.
  Contracts of Put of package head: the field is set, or ErrArg, or ErrRange. Conditions as each theorem lists them.
  Contracts of cube.Field: the field's cube, or an error. Conditions as each theorem lists them.
  The function awake of the laws of layer 2 returns true. No conditions.
  Contracts of cube's Meet, Within, Before and After for all inputs, each in one sentence. No conditions.
  Plain mathematics: the cubes of a difference: each lies within the first cube, and each header of the first cube is in just one of them or in the intersection. No conditions.
  The law CubeParts returns true for all cubes and headers, and changes nothing that was there. No conditions.
  Plain mathematics on lists of cubes: which cubes are spare, and that a list without them has the same headers. No program in sight. Conditions as each theorem lists them.
  A slice of cubes in memory, wherever it lies; contracts of slices.IndexFunc and slices.ContainsFunc over cubes, and of pile.Sound and pile.Has. Conditions as each theorem lists them.
  How a slice of cubes that is handed in reads, as a list of cubes wherever it lies. No conditions.
  The order of pile.widestFirst: contracts of cmp.Compare and cmp.Or at ints, of head.Ones and of the comparing closure, each with what it adds to memory. Conditions as each theorem lists them.
  The library's contracts of slices.SortFunc and slices.Sort lie at this program: their functions' bodies are compared by the kernel. No conditions.
  The sort of pile.widestFirst: places of cubes, those that care for the fewest bits first, out of the library's contract of slices.SortFunc. Conditions as each theorem lists them.
  Contract of pile.widestFirst: the places of the sound cubes, those that care for the fewest bits first. Conditions as each theorem lists them.
  Plain mathematics on what pile.leanUpTo keeps: taking the widest cubes first and leaving out what lies within a kept one is leaving out the spare ones. No program in sight. Conditions as each theorem lists them.
-/
import Derived.Test.YtipkefljicoldaaJ2
import Derived.Deep.RegionWith
import Derived.Lib.Hide
import Derived.Deep.DeepCutAuto
import Derived.Deep.LoopGhost
import Derived.Deep.Light
import Derived.Shelf.GgClosure.Gives
import Derived.Sort.Grow
import Derived.Deep.RegionHeld3
import Derived.Shelf.SlSortCmp.NoneTotal
import Derived.Shelf.Sort.Plain
import Derived.Test.YtipkefljicoldaaProg
import Derived.Deep.AppendLies
import Derived.OwnWalk
namespace Go.Proofs
open Go.RowKit Go.Proofs.Hd
attribute [local go_sem] uv_and uv_or uv_xor uv_andNot uv_shr uv_shl uv_add uv_sub uv_nonneg uv_shl_one uv_sub_one uv_and_one uv_div_2 uv_div_4 uv_div_16 uv_div_256 uv_div_65536 uv_div_big uv_and_m0 uv_and_m1 uv_and_m2
theorem ret_int {k : IntKind} {a b : Int} (h : a = b) : Ending.returned (.int k a) = .returned (.int k b) := by rw [h]
theorem bdrewN {B : Nat} {w w' : World} (n : Nat) (h : Below B w w') : Below B w (w'.drewN n) := ⟨h.os, h.tape, h.output, h.size, h.block⟩

theorem ones64_c (a : BitVec 64) (w : World) : Calls Try.prog 68 #[.int .u64 (uv a)] w fun e w' => e = .returned (.int .i64 (ones a)) ∧ w = w' := by
  go_enter Try.func68, Try.ntmps68
  go_wp2
  go_ret
  exact ⟨ret_int (swar_ones a), rfl⟩

theorem ones_c (h l : BitVec 64) (w : World) : Calls Try.prog 57 #[.agg #[.int .u64 (uv h), .int .u64 (uv l)]] w fun e w' => e = .returned (.int .i64 ((ones h + ones l : Nat) : Int)) ∧ Below w.heap.size w w' := by
  have h1 := ones_le h
  have h2 := ones_le l
  have e1 : ((ones h + ones l : Nat) : Int) = (ones h : Int) + (ones l : Int) := by omega
  rw [e1]
  have hw : IntKind.i64.wrap ((ones h : Int) + (ones l : Int)) = (ones h : Int) + (ones l : Int) := by rw [IntKind.wrap_i64]; omega
  go_enter Try.func57, Try.ntmps57
  go_wp2
  go_quiet ((go_at_call 68; exact Calls.quiet_of_same ((ones64_c _ _).mono fun e w' h => ⟨h.1, h.2.symm⟩)))
  go_wp2
  go_ret
  exact ⟨rfl, bdrewN _ ((Below.refl _ _).alloc (Nat.le_refl _) _)⟩

end Go.Proofs

namespace Go.Proofs
open Go.RowKit Go.Proofs.Hd
attribute [local go_sem] uv_and uv_or uv_xor uv_andNot uv_shr uv_shl uv_add uv_sub uv_nonneg uv_shl_one uv_sub_one uv_and_one

theorem first_c (x y : Int) (b : Nat) (w : World) (h0 : w.cell? ⟨b, 0, none⟩ = some (.int .i64 x)) (h1 : w.cell? ⟨b, 1, none⟩ = some (.int .i64 y)) :
    Calls Try.prog 55 #[.slice (some ⟨b, 0, none⟩) 2 2] w fun e w' => e = .returned (.int .i64 (if x = 0 then y else x)) ∧ w = w' := by
  by_cases hx : x = 0
  · have hx' : (x != 0) = false := by simp [hx]
    rw [if_pos hx]
    by_cases hy : y = 0
    · have hy' : (y != 0) = false := by simp [hy]
      rw [hy]
      clear hx hy
      go_enter Try.func55, Try.ntmps55
      go_wp2
      refine wp_loop_rounds 3 ?_
      rw [rounds_succ]
      go_wp2
      rw [rounds_succ]
      go_wp2
      rw [rounds_succ]
      go_wp2
      go_ret
      exact ⟨rfl, rfl⟩
    · have hy' : (y != 0) = true := by simp [hy]
      clear hx hy
      go_enter Try.func55, Try.ntmps55
      go_wp2
      refine wp_loop_rounds 2 ?_
      rw [rounds_succ]
      go_wp2
      rw [rounds_succ]
      go_wp2
      go_ret
      exact ⟨rfl, rfl⟩
  · have hx' : (x != 0) = true := by simp [hx]
    rw [if_neg hx]
    clear hx
    go_enter Try.func55, Try.ntmps55
    go_wp2
    refine wp_loop_rounds 1 ?_
    rw [rounds_succ]
    go_wp2
    go_ret
    exact ⟨rfl, rfl⟩

end Go.Proofs

namespace Go.Proofs
open Go.RowKit Go.Proofs.Hd
attribute [local go_sem] uv_and uv_or uv_xor uv_andNot uv_shr uv_shl uv_add uv_sub uv_nonneg uv_shl_one uv_sub_one uv_and_one

theorem keep2 {B b : Nat} {x y : Option Value} {W0 w1 w2 : World} (hb : Below w1.heap.size w1 w2) (h : Below B W0 w1 ∧ w1.cell? ⟨b, 0, none⟩ = x ∧ w1.cell? ⟨b, 1, none⟩ = y) (hB : B ≤ W0.heap.size) (hbB : b < B) :
    Below B W0 w2 ∧ w2.cell? ⟨b, 0, none⟩ = x ∧ w2.cell? ⟨b, 1, none⟩ = y := by
  have hs := h.1.size
  exact ⟨h.1.trans (hb.mono (by omega)), (hb.cell (p := ⟨b, 0, none⟩) (by simp; omega)).trans h.2.1, (hb.cell (p := ⟨b, 1, none⟩) (by simp; omega)).trans h.2.2⟩

theorem later {B : Nat} {W0 w1 w2 : World} (hb : Below w1.heap.size w1 w2) (h : Below B W0 w1) (hB : B ≤ W0.heap.size) : Below B W0 w2 :=
  h.trans (hb.mono (Nat.le_trans hB h.size))
theorem six {w w' : World} {h l : BitVec 64} (J : Below (w.heap.size + 2) ((w.alloc (.cells #[.int .u64 (uv h), .int .u64 (uv l)] 25)).alloc (.cells #[.int .u64 0, .int .u64 0] 25)) w') : w'.cell? ⟨w.heap.size, 0, none⟩ = some (.int .u64 (uv h)) ∧ w'.cell? ⟨w.heap.size, 1, none⟩ = some (.int .u64 (uv l)) ∧
    w'.cell? ⟨w.heap.size + 1, 0, none⟩ = some (.int .u64 0) ∧ w'.cell? ⟨w.heap.size + 1, 1, none⟩ = some (.int .u64 0) ∧ w'.frozen? ⟨w.heap.size + 1, 0, none⟩ = false ∧ w'.frozen? ⟨w.heap.size + 1, 1, none⟩ = false := by
  refine ⟨?_, ?_, ?_, ?_, ?_, ?_⟩
  · rw [J.cell (by simp <;> omega)]; simp
  · rw [J.cell (by simp <;> omega)]; simp
  · rw [J.cell (by simp)]; simp
  · rw [J.cell (by simp)]; simp
  · rw [J.frozen (by simp)]; simp
  · rw [J.frozen (by simp)]; simp

end Go.Proofs

namespace Go.Proofs
open Go.RowKit Go.Proofs.Hd
attribute [local go_sem] uv_nonneg

end Go.Proofs

namespace Go.Proofs
open Go.RowKit Go.Proofs.Hd
attribute [local go_sem] uv_nonneg eq4_self
attribute [local go_sem high] run_eq2 run_eq4

theorem k_less (w : World) : Calls Try.prog 50 #[.agg #[.int .u64 0, .int .u64 240, .int .u64 0, .int .u64 240], .agg #[.int .u64 0, .int .u64 1, .int .u64 0, .int .u64 3]] w fun e w' => ∃ g cap, e = .returned (.slice (some ⟨g, 0, none⟩) 2 cap) ∧ Below w.heap.size w w' := by
  have h := less_some ⟨0#64, 240#64, 0#64, 240#64⟩ ⟨0#64, 1#64, 0#64, 3#64⟩ w (by decide +kernel) (by decide +kernel) (by decide +kernel)
  refine Calls.mono h fun e w' hg => ?_
  obtain ⟨v, rfl, ho, hb⟩ := hg
  have e1 : (lessP ⟨0#64, 1#64, 0#64, 3#64⟩ ⟨0#64, 240#64, 0#64, 240#64⟩ (openBits ⟨0#64, 240#64, 0#64, 240#64⟩ ⟨0#64, 1#64, 0#64, 3#64⟩)).length = 2 := by
    rw [lessP_len]; decide +kernel
  rw [e1] at ho
  obtain ⟨g, cap, rfl, _, _⟩ := ho.form (by omega)
  exact ⟨g, cap, rfl, hb⟩
theorem k_meet (w : World) : Calls Try.prog 36 #[.agg #[.int .u64 0, .int .u64 240, .int .u64 0, .int .u64 240], .agg #[.int .u64 0, .int .u64 51, .int .u64 0, .int .u64 255]] w fun e w' => e = .returned (.tuple #[.agg #[.int .u64 0, .int .u64 0, .int .u64 0, .int .u64 0], .bool false]) ∧ Below w.heap.size w w' :=
  meet_no3 0#64 240#64 0#64 240#64 0#64 51#64 0#64 255#64 w (by decide +kernel) (by decide +kernel) (by decide +kernel)
theorem k_has (w : World) : Calls Try.prog 31 #[.agg #[.int .u64 0, .int .u64 240, .int .u64 0, .int .u64 240], .agg #[.int .u64 0, .int .u64 247]] w fun e w' => e = .returned (.bool true) ∧ Below w.heap.size w w' := by
  have h := has_c 0#64 240#64 0#64 240#64 0#64 247#64 w
  rw [show hasB 0#64 240#64 0#64 240#64 0#64 247#64 = true by decide +kernel] at h
  exact h
theorem k_sound (w : World) : Calls Try.prog 27 #[.agg #[.int .u64 0, .int .u64 240, .int .u64 0, .int .u64 240]] w fun e w' => e = .returned (.bool true) ∧ Below w.heap.size w w' := by
  have h := sound_c 0#64 240#64 0#64 240#64 w
  rw [show sndB 0#64 240#64 0#64 240#64 = true by decide +kernel] at h
  exact h
theorem k_within (w : World) : Calls Try.prog 44 #[.agg #[.int .u64 0, .int .u64 51, .int .u64 0, .int .u64 255], .agg #[.int .u64 0, .int .u64 0, .int .u64 0, .int .u64 0]] w fun e w' => e = .returned (.bool true) ∧ Below w.heap.size w w' := by
  have h := within_yes 0#64 51#64 0#64 255#64 0#64 0#64 0#64 0#64 w (by decide +kernel) (by decide +kernel) (by rw [eq2_uv]; decide +kernel)
  rw [show agrB 0#64 51#64 0#64 255#64 0#64 0#64 0#64 0#64 = true by decide +kernel] at h
  exact h

end Go.Proofs

namespace Go.Proofs
open Go.RowKit Go.Proofs.Hd
def sel (c : Bool) (x : BitVec 64) : BitVec 64 := if c = true then x else 0#64
theorem sel_t (x : BitVec 64) : sel true x = x := rfl
theorem sel_f (x : BitVec 64) : uv (sel false x) = 0 := rfl
/-- Is the intersection not empty? -/
def metB (avh avl ach acl bvh bvl bch bcl : BitVec 64) : Bool := sndB avh avl ach acl && (sndB bvh bvl bch bcl && agrB avh avl ach acl bvh bvl bch bcl)
/-- Does the first care for all bits that the second cares for? -/
def inB (ach acl bch bcl : BitVec 64) : Bool := (ach &&& bch == bch) && (acl &&& bcl == bcl)
def witB (avh avl ach acl bvh bvl bch bcl : BitVec 64) : Bool := sndB avh avl ach acl && (sndB bvh bvl bch bcl && (inB ach acl bch bcl && agrB avh avl ach acl bvh bvl bch bcl))
def befB (avh avl ach acl bvh bvl bch bcl : BitVec 64) : Bool := sndB avh avl ach acl && agrB avh avl ach acl bvh bvl bch bcl
theorem in_eq (ach acl bch bcl : BitVec 64) : eq2 (uv (ach &&& bch)) (uv (acl &&& bcl)) (uv bch) (uv bcl) = inB ach acl bch bcl := eq2_uv _ _ _ _

theorem meet_c (avh avl ach acl bvh bvl bch bcl : BitVec 64) (w : World) : Calls Try.prog 36 #[.agg #[.int .u64 (uv avh), .int .u64 (uv avl), .int .u64 (uv ach), .int .u64 (uv acl)], .agg #[.int .u64 (uv bvh), .int .u64 (uv bvl), .int .u64 (uv bch), .int .u64 (uv bcl)]] w fun e w' => e = .returned (.tuple #[.agg #[.int .u64 (uv (sel (metB avh avl ach acl bvh bvl bch bcl) (avh ||| bvh))), .int .u64 (uv (sel (metB avh avl ach acl bvh bvl bch bcl) (avl ||| bvl))), .int .u64 (uv (sel (metB avh avl ach acl bvh bvl bch bcl) (ach ||| bch))), .int .u64 (uv (sel (metB avh avl ach acl bvh bvl bch bcl) (acl ||| bcl)))], .bool (metB avh avl ach acl bvh bvl bch bcl)]) ∧ Below w.heap.size w w' := by
  cases h1 : sndB avh avl ach acl
  · rw [show metB avh avl ach acl bvh bvl bch bcl = false by unfold metB; rw [h1]; rfl]; simp only [sel_f]; exact meet_no1 _ _ _ _ _ _ _ _ _ h1
  · cases h2 : sndB bvh bvl bch bcl
    · rw [show metB avh avl ach acl bvh bvl bch bcl = false by unfold metB; rw [h1, h2]; rfl]; simp only [sel_f]; exact meet_no2 _ _ _ _ _ _ _ _ _ h1 h2
    · cases h3 : agrB avh avl ach acl bvh bvl bch bcl
      · rw [show metB avh avl ach acl bvh bvl bch bcl = false by unfold metB; rw [h1, h2, h3]; rfl]; simp only [sel_f]; exact meet_no3 _ _ _ _ _ _ _ _ _ h1 h2 h3
      · rw [show metB avh avl ach acl bvh bvl bch bcl = true by unfold metB; rw [h1, h2, h3]; rfl]; simp only [sel_t]; exact meet_yes _ _ _ _ _ _ _ _ _ h1 h2 h3

theorem within_c (avh avl ach acl bvh bvl bch bcl : BitVec 64) (w : World) : Calls Try.prog 44 #[.agg #[.int .u64 (uv avh), .int .u64 (uv avl), .int .u64 (uv ach), .int .u64 (uv acl)], .agg #[.int .u64 (uv bvh), .int .u64 (uv bvl), .int .u64 (uv bch), .int .u64 (uv bcl)]] w fun e w' => e = .returned (.bool (witB avh avl ach acl bvh bvl bch bcl)) ∧ Below w.heap.size w w' := by
  cases h1 : sndB avh avl ach acl
  · rw [show witB avh avl ach acl bvh bvl bch bcl = false by unfold witB; rw [h1]; rfl]; exact within_no1 _ _ _ _ _ _ _ _ _ h1
  · cases h2 : sndB bvh bvl bch bcl
    · rw [show witB avh avl ach acl bvh bvl bch bcl = false by unfold witB; rw [h1, h2]; rfl]; exact within_no2 _ _ _ _ _ _ _ _ _ h1 h2
    · cases h3 : inB ach acl bch bcl
      · rw [show witB avh avl ach acl bvh bvl bch bcl = false by unfold witB; rw [h1, h2, h3]; rfl]; exact within_no3 _ _ _ _ _ _ _ _ _ h1 h2 (by rw [in_eq, h3])
      · rw [show witB avh avl ach acl bvh bvl bch bcl = agrB avh avl ach acl bvh bvl bch bcl by unfold witB; rw [h1, h2, h3]; rfl]; exact within_yes _ _ _ _ _ _ _ _ _ h1 h2 (by rw [in_eq, h3])

theorem pair_bits (a b c d : BitVec 64) : ((a == c) && (b == d)) = true ↔ ∀ j, j < 128 → hbit a b j = hbit c d j := by
  simp only [Bool.and_eq_true, beq_iff_eq]
  constructor
  · rintro ⟨rfl, rfl⟩ j _; rfl
  · exact fun h => head_ext h
theorem snd_bits (avh avl ach acl : BitVec 64) : sndB avh avl ach acl = true ↔ ∀ j, j < 128 → hbit avh avl j = true → hbit ach acl j = true := by
  unfold sndB
  rw [pair_bits]
  constructor
  · intro h j hj hv; have := h j hj; rw [hbit_and, hv] at this; simpa using this
  · intro h j hj; rw [hbit_and]; cases hv : hbit avh avl j with
    | false => rfl
    | true => rw [h j hj hv]; rfl
theorem has_bits (avh avl ach acl hh hl : BitVec 64) : hasB avh avl ach acl hh hl = true ↔ ∀ j, j < 128 → (hbit hh hl j && hbit ach acl j) = hbit avh avl j := by
  unfold hasB
  rw [pair_bits]
  exact ⟨fun h j hj => by rw [← hbit_and]; exact h j hj, fun h j hj => by rw [hbit_and]; exact h j hj⟩
theorem agr_bits (avh avl ach acl bvh bvl bch bcl : BitVec 64) : agrB avh avl ach acl bvh bvl bch bcl = true ↔ ∀ j, j < 128 → hbit ach acl j = true → hbit bch bcl j = true → hbit avh avl j = hbit bvh bvl j := by
  unfold agrB
  rw [pair_bits]
  constructor
  · intro h j hj h1 h2; have := h j hj; simp only [hbit_and, h1, h2, Bool.and_true] at this; exact this
  · intro h j hj; simp only [hbit_and]
    cases h1 : hbit ach acl j <;> cases h2 : hbit bch bcl j <;> simp
    exact h j hj h1 h2
theorem in_bits (ach acl bch bcl : BitVec 64) : inB ach acl bch bcl = true ↔ ∀ j, j < 128 → hbit bch bcl j = true → hbit ach acl j = true := by
  unfold inB
  rw [pair_bits]
  constructor
  · intro h j hj h1; have := h j hj; rw [hbit_and, h1] at this; simpa using this
  · intro h j hj; rw [hbit_and]; cases h1 : hbit bch bcl j with
    | false => simp
    | true => rw [h j hj h1]; rfl
theorem agr_comm (avh avl ach acl bvh bvl bch bcl : BitVec 64) : agrB bvh bvl bch bcl avh avl ach acl = agrB avh avl ach acl bvh bvl bch bcl := by
  rw [Bool.eq_iff_iff, agr_bits, agr_bits]
  exact ⟨fun h j hj h1 h2 => (h j hj h2 h1).symm, fun h j hj h1 h2 => (h j hj h2 h1).symm⟩
theorem met_comm (avh avl ach acl bvh bvl bch bcl : BitVec 64) : metB bvh bvl bch bcl avh avl ach acl = metB avh avl ach acl bvh bvl bch bcl := by
  unfold metB; rw [agr_comm]; cases sndB avh avl ach acl <;> cases sndB bvh bvl bch bcl <;> simp
theorem meet_r (avh avl ach acl bvh bvl bch bcl : BitVec 64) (w : World) : Calls Try.prog 36 #[.agg #[.int .u64 (uv bvh), .int .u64 (uv bvl), .int .u64 (uv bch), .int .u64 (uv bcl)], .agg #[.int .u64 (uv avh), .int .u64 (uv avl), .int .u64 (uv ach), .int .u64 (uv acl)]] w fun e w' => e = .returned (.tuple #[.agg #[.int .u64 (uv (sel (metB avh avl ach acl bvh bvl bch bcl) (avh ||| bvh))), .int .u64 (uv (sel (metB avh avl ach acl bvh bvl bch bcl) (avl ||| bvl))), .int .u64 (uv (sel (metB avh avl ach acl bvh bvl bch bcl) (ach ||| bch))), .int .u64 (uv (sel (metB avh avl ach acl bvh bvl bch bcl) (acl ||| bcl)))], .bool (metB avh avl ach acl bvh bvl bch bcl)]) ∧ Below w.heap.size w w' := by
  have h := meet_c bvh bvl bch bcl avh avl ach acl w
  rwa [met_comm, BitVec.or_comm bvh avh, BitVec.or_comm bvl avl, BitVec.or_comm bch ach, BitVec.or_comm bcl acl] at h
attribute [irreducible] sel metB witB befB inB
end Go.Proofs

namespace Go.Proofs.Hd
open Go.RowKit
def Cb.V (c : Cb) (j : Nat) : Bool := hbit c.vh c.vl j
def Cb.K (c : Cb) (j : Nat) : Bool := hbit c.ch c.cl j
def Cb.snd (c : Cb) : Bool := sndB c.vh c.vl c.ch c.cl
def Cb.has (c : Cb) (h l : BitVec 64) : Bool := hasB c.vh c.vl c.ch c.cl h l
def Cb.agr (a b : Cb) : Bool := agrB a.vh a.vl a.ch a.cl b.vh b.vl b.ch b.cl
def Cb.wit (a b : Cb) : Bool := witB a.vh a.vl a.ch a.cl b.vh b.vl b.ch b.cl
theorem Cb.snd_iff (c : Cb) : c.snd = true ↔ ∀ j, j < 128 → c.V j = true → c.K j = true := snd_bits _ _ _ _
theorem Cb.has_iff (c : Cb) (h l : BitVec 64) : c.has h l = true ↔ ∀ j, j < 128 → (hbit h l j && c.K j) = c.V j := has_bits _ _ _ _ _ _
theorem Cb.agr_iff (a b : Cb) : a.agr b = true ↔ ∀ j, j < 128 → a.K j = true → b.K j = true → a.V j = b.V j := agr_bits _ _ _ _ _ _ _ _
theorem wit_and' (avh avl ach acl bvh bvl bch bcl : BitVec 64) : witB avh avl ach acl bvh bvl bch bcl = true ↔ sndB avh avl ach acl = true ∧ sndB bvh bvl bch bcl = true ∧ inB ach acl bch bcl = true ∧ agrB avh avl ach acl bvh bvl bch bcl = true := by
  rw [show witB avh avl ach acl bvh bvl bch bcl = (sndB avh avl ach acl && (sndB bvh bvl bch bcl && (inB ach acl bch bcl && agrB avh avl ach acl bvh bvl bch bcl))) by unfold witB; rfl]
  simp only [Bool.and_eq_true]
theorem Cb.wit_iff (a b : Cb) : a.wit b = true ↔ a.snd = true ∧ b.snd = true ∧ (∀ j, j < 128 → b.K j = true → a.K j = true) ∧ (∀ j, j < 128 → a.K j = true → b.K j = true → a.V j = b.V j) := by
  unfold Cb.wit
  rw [wit_and', in_bits, agr_bits]
  exact Iff.rfl
theorem wOther_V (a b : Cb) (k j : Nat) (hk : k < 128) (hj : j < 128) : (wOther a b k).V j = (a.V j || ((b.V j && decide (j = k)) ^^ decide (j = k))) := by
  unfold Cb.V wOther; simp only [hbit_or, hbit_xor, hbit_and, hbit_one k j hk hj]
theorem wOther_K (a b : Cb) (k j : Nat) (hk : k < 128) (hj : j < 128) : (wOther a b k).K j = (a.K j || decide (j = k)) := by
  unfold Cb.K wOther; simp only [hbit_or, hbit_one k j hk hj]
theorem wSame_V (a b : Cb) (k j : Nat) (hk : k < 128) (hj : j < 128) : (wSame a b k).V j = (a.V j || (b.V j && decide (j = k))) := by
  unfold Cb.V wSame; simp only [hbit_or, hbit_and, hbit_one k j hk hj]
theorem wSame_K (a b : Cb) (k j : Nat) (hk : k < 128) (hj : j < 128) : (wSame a b k).K j = (a.K j || decide (j = k)) := by
  unfold Cb.K wSame; simp only [hbit_or, hbit_one k j hk hj]
theorem wSame_snd {a b : Cb} {k : Nat} (hk : k < 128) (ha : a.snd = true) : (wSame a b k).snd = true := by
  rw [Cb.snd_iff] at *
  intro j hj h
  rw [wSame_V _ _ _ _ hk hj] at h
  rw [wSame_K _ _ _ _ hk hj]
  have := ha j hj
  cases x1 : a.V j <;> cases x2 : a.K j <;> by_cases x3 : j = k <;> simp_all
theorem wOther_snd {a b : Cb} {k : Nat} (hk : k < 128) (ha : a.snd = true) : (wOther a b k).snd = true := by
  rw [Cb.snd_iff] at *
  intro j hj h
  rw [wOther_V _ _ _ _ hk hj] at h
  rw [wOther_K _ _ _ _ hk hj]
  have := ha j hj
  cases x1 : a.V j <;> cases x2 : a.K j <;> by_cases x3 : j = k <;> simp_all
theorem open_V {a : Cb} {k : Nat} (hk : k < 128) (ha : a.snd = true) (hn : a.K k = false) : a.V k = false := by
  rw [Cb.snd_iff] at ha
  cases h : a.V k with
  | false => rfl
  | true => rw [ha k hk h] at hn; cases hn
theorem wSame_has {a b : Cb} {k : Nat} (h l : BitVec 64) (hk : k < 128) (ha : a.snd = true) (hn : a.K k = false) :
    (wSame a b k).has h l = (a.has h l && (hbit h l k == b.V k)) := by
  have hv := open_V hk ha hn
  rw [Bool.eq_iff_iff, Bool.and_eq_true, Cb.has_iff, Cb.has_iff, beq_iff_eq]
  constructor
  · intro H
    refine ⟨fun j hj => ?_, ?_⟩
    · have := H j hj
      rw [wSame_V _ _ _ _ hk hj, wSame_K _ _ _ _ hk hj] at this
      by_cases e : j = k
      · subst e; rw [hv, hn]; simp
      · simpa [e] using this
    · have := H k hk
      rw [wSame_V _ _ _ _ hk hk, wSame_K _ _ _ _ hk hk, hv, hn] at this
      simpa using this
  · rintro ⟨H, e⟩ j hj
    rw [wSame_V _ _ _ _ hk hj, wSame_K _ _ _ _ hk hj]
    by_cases c : j = k
    · subst c; rw [hv, hn, e]; simp
    · have := H j hj; simpa [c] using this
theorem wOther_has {a b : Cb} {k : Nat} (h l : BitVec 64) (hk : k < 128) (ha : a.snd = true) (hn : a.K k = false) :
    (wOther a b k).has h l = (a.has h l && !(hbit h l k == b.V k)) := by
  have hv := open_V hk ha hn
  rw [Bool.eq_iff_iff, Bool.and_eq_true, Cb.has_iff, Cb.has_iff]
  constructor
  · intro H
    refine ⟨fun j hj => ?_, ?_⟩
    · have := H j hj
      rw [wOther_V _ _ _ _ hk hj, wOther_K _ _ _ _ hk hj] at this
      by_cases e : j = k
      · subst e; rw [hv, hn]; simp
      · simpa [e] using this
    · have := H k hk
      rw [wOther_V _ _ _ _ hk hk, wOther_K _ _ _ _ hk hk, hv, hn] at this
      cases x : hbit h l k <;> cases y : b.V k <;> simp_all
  · rintro ⟨H, e⟩ j hj
    rw [wOther_V _ _ _ _ hk hj, wOther_K _ _ _ _ hk hj]
    by_cases c : j = k
    · subst c; rw [hv, hn]; cases x : hbit h l j <;> cases y : b.V j <;> simp_all
    · have := H j hj; simpa [c] using this
/-- Numbers below 128, each once, for which a does not care. -/
def Free (a : Cb) : List Nat → Prop
  | [] => True
  | k :: ks => k < 128 ∧ a.K k = false ∧ k ∉ ks ∧ Free a ks
theorem Free.same {a b : Cb} {k : Nat} {ks : List Nat} (hk : k < 128) (h : Free a ks) (hn : k ∉ ks) : Free (wSame a b k) ks := by
  induction ks with
  | nil => trivial
  | cons m ks ih =>
    obtain ⟨h1, h2, h3, h4⟩ := h
    have e : m ≠ k := fun e => hn (by simp [e])
    exact ⟨h1, by rw [wSame_K _ _ _ _ hk h1, h2]; simp [e], h3, ih h4 (fun h => hn (by simp [h]))⟩
theorem bitsDown_mem {f : Nat → Bool} {n k : Nat} : k ∈ bitsDown f n ↔ k < n ∧ f k = true := by
  induction n with
  | zero => simp [bitsDown]
  | succ n ih =>
    rw [bitsDown]
    by_cases c : f n = true
    · rw [if_pos c, List.mem_cons, ih]
      constructor
      · rintro (rfl | ⟨h1, h2⟩)
        · exact ⟨by omega, c⟩
        · exact ⟨by omega, h2⟩
      · rintro ⟨h1, h2⟩
        by_cases e : k = n
        · exact .inl e
        · exact .inr ⟨by omega, h2⟩
    · rw [if_neg c, ih]
      constructor
      · rintro ⟨h1, h2⟩; exact ⟨by omega, h2⟩
      · rintro ⟨h1, h2⟩
        have e : k ≠ n := fun e => c (by rw [← e]; exact h2)
        exact ⟨by omega, h2⟩
theorem free_down (a : Cb) (f : Nat → Bool) (n : Nat) (hn : n ≤ 128) (hf : ∀ j, j < n → f j = true → a.K j = false) : Free a (bitsDown f n) := by
  induction n with
  | zero => trivial
  | succ n ih =>
    rw [bitsDown]
    by_cases c : f n = true
    · rw [if_pos c]
      exact ⟨by omega, hf n (by omega) c, fun h => by have := (bitsDown_mem.1 h).1; omega, ih (by omega) (fun j hj => hf j (by omega))⟩
    · rw [if_neg c]; exact ih (by omega) (fun j hj => hf j (by omega))
theorem open_iff (a b : Cb) (k : Nat) : k ∈ openBits a b ↔ k < 128 ∧ b.K k = true ∧ a.K k = false := by
  unfold openBits
  rw [bitsDown_mem]
  constructor
  · rintro ⟨h1, h2⟩
    rw [hbit_andNot _ _ _ _ _ h1] at h2
    refine ⟨h1, ?_⟩
    unfold Cb.K
    cases x : hbit b.ch b.cl k <;> cases y : hbit a.ch a.cl k <;> simp_all
  · rintro ⟨h1, h2, h3⟩
    refine ⟨h1, ?_⟩
    rw [hbit_andNot _ _ _ _ _ h1]
    unfold Cb.K at h2 h3
    rw [h2, h3]; rfl
theorem open_free (a b : Cb) : Free a (openBits a b) := by
  unfold openBits
  refine free_down a _ 128 (Nat.le_refl _) fun j hj h => ?_
  exact ((open_iff a b j).1 (bitsDown_mem.2 ⟨hj, h⟩)).2.2
def cntC (h l : BitVec 64) (L : List Cb) : Nat := (L.filter (fun c => c.has h l)).length
theorem cntC_nil (h l : BitVec 64) : cntC h l [] = 0 := rfl
theorem cntC_cons (h l : BitVec 64) (c : Cb) (L : List Cb) : cntC h l (c :: L) = (c.has h l).toNat + cntC h l L := by
  unfold cntC
  rw [List.filter_cons]
  cases x : c.has h l <;> simp [Nat.add_comm]
theorem cntC_snoc (h l : BitVec 64) (c : Cb) (L : List Cb) : cntC h l (L ++ [c]) = cntC h l L + (c.has h l).toNat := by
  unfold cntC
  rw [List.filter_append]
  cases x : c.has h l <;> simp [x]
theorem lessP_count (h l : BitVec 64) (b : Cb) (ks : List Nat) (a : Cb) (ha : a.snd = true) (hf : Free a ks) :
    cntC h l (lessP b a ks) + (a.has h l && ks.all (fun k => hbit h l k == b.V k)).toNat = (a.has h l).toNat := by
  induction ks generalizing a with
  | nil => simp [lessP, cntC_nil]
  | cons k ks ih =>
    obtain ⟨h1, h2, h3, h4⟩ := hf
    rw [lessP, cntC_cons, wOther_has h l h1 ha h2]
    have := ih (wSame a b k) (wSame_snd h1 ha) (h4.same h1 h3)
    rw [wSame_has h l h1 ha h2] at this
    rw [List.all_cons]
    cases x : a.has h l <;> cases y : (hbit h l k == b.V k) <;> simp_all
theorem wit_trans {a b c : Cb} (h1 : a.wit b = true) (h2 : b.wit c = true) : a.wit c = true := by
  rw [Cb.wit_iff] at *
  obtain ⟨p1, p2, p3, p4⟩ := h1
  obtain ⟨q1, q2, q3, q4⟩ := h2
  exact ⟨p1, q2, fun j hj h => p3 j hj (q3 j hj h), fun j hj x y => (p4 j hj x (q3 j hj y)).trans (q4 j hj (q3 j hj y) y)⟩
theorem wSame_wit {a b : Cb} {k : Nat} (hk : k < 128) (ha : a.snd = true) (hn : a.K k = false) : (wSame a b k).wit a = true := by
  rw [Cb.wit_iff]
  refine ⟨wSame_snd hk ha, ha, fun j hj h => by rw [wSame_K _ _ _ _ hk hj, h]; rfl, fun j hj _ h => ?_⟩
  have e : j ≠ k := fun e => by rw [e, hn] at h; cases h
  rw [wSame_V _ _ _ _ hk hj]; simp [e]
theorem wOther_wit {a b : Cb} {k : Nat} (hk : k < 128) (ha : a.snd = true) (hn : a.K k = false) : (wOther a b k).wit a = true := by
  rw [Cb.wit_iff]
  refine ⟨wOther_snd hk ha, ha, fun j hj h => by rw [wOther_K _ _ _ _ hk hj, h]; rfl, fun j hj _ h => ?_⟩
  have e : j ≠ k := fun e => by rw [e, hn] at h; cases h
  rw [wOther_V _ _ _ _ hk hj]; simp [e]
theorem wit_self {a : Cb} (ha : a.snd = true) : a.wit a = true := by
  rw [Cb.wit_iff]; exact ⟨ha, ha, fun _ _ h => h, fun _ _ _ _ => rfl⟩
theorem lessP_wit (b : Cb) (ks : List Nat) (a : Cb) (ha : a.snd = true) (hf : Free a ks) : ∀ c ∈ lessP b a ks, c.wit a = true := by
  induction ks generalizing a with
  | nil => intro c hc; cases hc
  | cons k ks ih =>
    obtain ⟨h1, h2, h3, h4⟩ := hf
    intro c hc
    rw [lessP, List.mem_cons] at hc
    rcases hc with rfl | hc
    · exact wOther_wit h1 ha h2
    · exact wit_trans (ih _ (wSame_snd h1 ha) (h4.same h1 h3) c hc) (wSame_wit h1 ha h2)
/-- The difference of two sound cubes. -/
def lessC (a b : Cb) : List Cb := if a.agr b = true then lessP b a (openBits a b) else [a]
theorem lessC_wit {a b : Cb} (ha : a.snd = true) : ∀ c ∈ lessC a b, c.wit a = true := by
  unfold lessC
  by_cases h : a.agr b = true
  · rw [if_pos h]; exact lessP_wit b _ a ha (open_free a b)
  · rw [if_neg h]; intro c hc; rw [List.mem_singleton] at hc; subst hc; exact wit_self ha
theorem lessC_len {a b : Cb} (ha : a.snd = true) (hb : b.snd = true) : (lessC a b).length = 0 ↔ a.wit b = true := by
  unfold lessC
  rw [Cb.wit_iff]
  by_cases h : a.agr b = true
  · rw [if_pos h, lessP_len, List.length_eq_zero_iff]
    constructor
    · intro e
      refine ⟨ha, hb, fun j hj hk => ?_, (Cb.agr_iff a b).1 h⟩
      cases x : a.K j with
      | true => rfl
      | false => have := (open_iff a b j).2 ⟨hj, hk, x⟩; rw [e] at this; cases this
    · rintro ⟨_, _, h3, _⟩
      cases e : openBits a b with
      | nil => rfl
      | cons k ks =>
        obtain ⟨h1, h2, h4⟩ := (open_iff a b k).1 (by rw [e]; simp)
        rw [h3 k h1 h2] at h4; cases h4
  · rw [if_neg h]
    constructor
    · intro e; simp at e
    · rintro ⟨_, _, _, h4⟩; exact absurd ((Cb.agr_iff a b).2 h4) h
theorem lessC_le (a b : Cb) : (lessC a b).length ≤ 128 := by
  unfold lessC
  by_cases h : a.agr b = true
  · rw [if_pos h, lessP_len]; exact bitsDown_len _ 128
  · rw [if_neg h]; simp
def Cb.met (a b : Cb) : Bool := metB a.vh a.vl a.ch a.cl b.vh b.vl b.ch b.cl
theorem met_eq (a b : Cb) (ha : a.snd = true) (hb : b.snd = true) : a.met b = a.agr b := by
  unfold Cb.met metB
  show (a.snd && (b.snd && a.agr b)) = _
  rw [ha, hb]; rfl
def Cb.join (a b : Cb) : Cb := ⟨a.vh ||| b.vh, a.vl ||| b.vl, a.ch ||| b.ch, a.cl ||| b.cl⟩
theorem join_has {a b : Cb} (h l : BitVec 64) (ha : a.snd = true) (hb : b.snd = true) (hg : a.agr b = true) :
    (a.join b).has h l = (a.has h l && (openBits a b).all (fun k => hbit h l k == b.V k)) := by
  rw [Cb.agr_iff] at hg
  rw [Cb.snd_iff] at ha hb
  rw [Bool.eq_iff_iff, Bool.and_eq_true, List.all_eq_true, Cb.has_iff, Cb.has_iff]
  have jv : ∀ j, (a.join b).V j = (a.V j || b.V j) := fun j => by unfold Cb.V Cb.join; rw [hbit_or]
  have jk : ∀ j, (a.join b).K j = (a.K j || b.K j) := fun j => by unfold Cb.K Cb.join; rw [hbit_or]
  constructor
  · intro H
    refine ⟨fun j hj => ?_, fun k hk => ?_⟩
    · have h1 := H j hj
      rw [jv, jk] at h1
      have h2 := hg j hj
      have h3 := ha j hj
      have h4 := hb j hj
      revert h1 h2 h3 h4
      generalize a.K j = k1
      generalize b.K j = k2
      generalize a.V j = v1
      generalize b.V j = v2
      generalize hbit h l j = t
      cases k1 <;> cases k2 <;> cases v1 <;> cases v2 <;> cases t <;> simp
    · obtain ⟨k1, k2, k3⟩ := (open_iff a b k).1 hk
      have h1 := H k k1
      rw [jv, jk, k2, k3] at h1
      have h3 := ha k k1
      rw [k3] at h3
      cases x3 : a.V k <;> simp_all
  · rintro ⟨H, G⟩ j hj
    rw [jv, jk]
    have h1 := H j hj
    have h2 := hg j hj
    have h3 := ha j hj
    have h4 := hb j hj
    by_cases hk : j ∈ openBits a b
    · have g := G j hk
      obtain ⟨k1, k2, k3⟩ := (open_iff a b j).1 hk
      cases x3 : a.V j <;> cases x4 : b.V j <;> cases x5 : hbit h l j <;> simp_all
    · have nk : ¬ (b.K j = true ∧ a.K j = false) := fun e => hk ((open_iff a b j).2 ⟨hj, e⟩)
      revert h1 h2 h3 h4 nk
      generalize a.K j = k1
      generalize b.K j = k2
      generalize a.V j = v1
      generalize b.V j = v2
      generalize hbit h l j = t
      cases k1 <;> cases k2 <;> cases v1 <;> cases v2 <;> cases t <;> simp
theorem parts_count {a b : Cb} (h l : BitVec 64) (ha : a.snd = true) (hb : b.snd = true) :
    (a.met b && (a.join b).has h l).toNat + cntC h l (lessC a b) = (a.has h l).toNat := by
  rw [met_eq a b ha hb]
  unfold lessC
  by_cases hg : a.agr b = true
  · rw [if_pos hg, hg, Bool.true_and, join_has h l ha hb hg, Nat.add_comm]
    exact lessP_count h l b _ a ha (open_free a b)
  · rw [if_neg hg, show a.agr b = false by simpa using hg, cntC_cons, cntC_nil]; simp
end Go.Proofs.Hd

namespace Go.Proofs
open Go.RowKit Go.Proofs.Hd
attribute [local go_sem] uv_nonneg eq4_self eq2_self
attribute [local go_sem high] run_eq2 run_eq4
theorem csound (x : Bool) (c : Cb) (w : World) (h : c.snd = x) : Calls Try.prog 27 #[.agg #[.int .u64 (uv c.vh), .int .u64 (uv c.vl), .int .u64 (uv c.ch), .int .u64 (uv c.cl)]] w fun e w' => e = .returned (.bool x) ∧ Below w.heap.size w w' := by
  subst h; exact sound_c _ _ _ _ _
theorem chas (x : Bool) (c : Cb) (hh hl : BitVec 64) (w : World) (h : c.has hh hl = x) : Calls Try.prog 31 #[.agg #[.int .u64 (uv c.vh), .int .u64 (uv c.vl), .int .u64 (uv c.ch), .int .u64 (uv c.cl)], .agg #[.int .u64 (uv hh), .int .u64 (uv hl)]] w fun e w' => e = .returned (.bool x) ∧ Below w.heap.size w w' := by
  subst h; exact has_c _ _ _ _ _ _ _
theorem cwithin (x : Bool) (c a : Cb) (w : World) (h : c.wit a = x) : Calls Try.prog 44 #[.agg #[.int .u64 (uv c.vh), .int .u64 (uv c.vl), .int .u64 (uv c.ch), .int .u64 (uv c.cl)], .agg #[.int .u64 (uv a.vh), .int .u64 (uv a.vl), .int .u64 (uv a.ch), .int .u64 (uv a.cl)]] w fun e w' => e = .returned (.bool x) ∧ Below w.heap.size w w' := by
  subst h; exact within_c _ _ _ _ _ _ _ _ _
theorem cmeet (a b : Cb) (w : World) : Calls Try.prog 36 #[.agg #[.int .u64 (uv a.vh), .int .u64 (uv a.vl), .int .u64 (uv a.ch), .int .u64 (uv a.cl)], .agg #[.int .u64 (uv b.vh), .int .u64 (uv b.vl), .int .u64 (uv b.ch), .int .u64 (uv b.cl)]] w fun e w' => e = .returned (.tuple #[.agg #[.int .u64 (uv (sel (a.met b) (a.vh ||| b.vh))), .int .u64 (uv (sel (a.met b) (a.vl ||| b.vl))), .int .u64 (uv (sel (a.met b) (a.ch ||| b.ch))), .int .u64 (uv (sel (a.met b) (a.cl ||| b.cl)))], .bool (a.met b)]) ∧ Below w.heap.size w w' :=
  meet_c _ _ _ _ _ _ _ _ _
theorem cless (a b : Cb) (w : World) (ha : a.snd = true) (hb : b.snd = true) : Calls Try.prog 50 #[.agg #[.int .u64 (uv a.vh), .int .u64 (uv a.vl), .int .u64 (uv a.ch), .int .u64 (uv a.cl)], .agg #[.int .u64 (uv b.vh), .int .u64 (uv b.vl), .int .u64 (uv b.ch), .int .u64 (uv b.cl)]] w (Got w (lessC a b)) := by
  unfold lessC
  cases h : a.agr b with
  | true => rw [if_pos rfl]; exact less_some a b w ha hb h
  | false => rw [if_neg (by simp)]; exact less_all a b w ha hb h
theorem cless_q (a b : Cb) (Q : List Cb) (w : World) (ha : a.snd = true) (hb : b.snd = true) (hq : lessC a b = Q) : Calls Try.prog 50 #[.agg #[.int .u64 (uv a.vh), .int .u64 (uv a.vl), .int .u64 (uv a.ch), .int .u64 (uv a.cl)], .agg #[.int .u64 (uv b.vh), .int .u64 (uv b.vl), .int .u64 (uv b.ch), .int .u64 (uv b.cl)]] w (Got w Q) := by
  subst hq; exact cless a b w ha hb
theorem cmeet_t (a b : Cb) (w : World) (h : a.met b = true) : Calls Try.prog 36 #[.agg #[.int .u64 (uv a.vh), .int .u64 (uv a.vl), .int .u64 (uv a.ch), .int .u64 (uv a.cl)], .agg #[.int .u64 (uv b.vh), .int .u64 (uv b.vl), .int .u64 (uv b.ch), .int .u64 (uv b.cl)]] w fun e w' => e = .returned (.tuple #[.agg #[.int .u64 (uv (a.vh ||| b.vh)), .int .u64 (uv (a.vl ||| b.vl)), .int .u64 (uv (a.ch ||| b.ch)), .int .u64 (uv (a.cl ||| b.cl))], .bool true]) ∧ Below w.heap.size w w' := by
  have c := cmeet a b w
  rw [h] at c
  simp only [sel_t] at c
  exact c
theorem cmeet_f (a b : Cb) (w : World) (h : a.met b = false) : Calls Try.prog 36 #[.agg #[.int .u64 (uv a.vh), .int .u64 (uv a.vl), .int .u64 (uv a.ch), .int .u64 (uv a.cl)], .agg #[.int .u64 (uv b.vh), .int .u64 (uv b.vl), .int .u64 (uv b.ch), .int .u64 (uv b.cl)]] w fun e w' => e = .returned (.tuple #[.agg #[.int .u64 0, .int .u64 0, .int .u64 0, .int .u64 0], .bool false]) ∧ Below w.heap.size w w' := by
  have c := cmeet a b w
  rw [h] at c
  simp only [sel_f] at c
  exact c
theorem chas_j (x : Bool) (a b : Cb) (hh hl : BitVec 64) (w : World) (h : (a.join b).has hh hl = x) : Calls Try.prog 31 #[.agg #[.int .u64 (uv (a.vh ||| b.vh)), .int .u64 (uv (a.vl ||| b.vl)), .int .u64 (uv (a.ch ||| b.ch)), .int .u64 (uv (a.cl ||| b.cl))], .agg #[.int .u64 (uv hh), .int .u64 (uv hl)]] w fun e w' => e = .returned (.bool x) ∧ Below w.heap.size w w' :=
  chas x (a.join b) hh hl w h
theorem flat_get (L : List Cb) (k : Nat) (hk : k < L.length) (j : Nat) (hj : j < 4) : (flat L)[k * 4 + j]? = (L[k]).cells[j]? := by
  induction L generalizing k with
  | nil => simp at hk
  | cons c L ih =>
    have e : flat (c :: L) = c.cells ++ flat L := by simp [flat]
    rw [e]
    cases k with
    | zero => rw [Nat.zero_mul, Nat.zero_add, List.getElem?_append_left (by simp [Cb.cells]; omega)]; rfl
    | succ k =>
      rw [List.getElem?_append_right (by simp [Cb.cells]; omega), show (k + 1) * 4 + j - c.cells.length = k * 4 + j by simp [Cb.cells]; omega]
      exact ih k (by simpa using hk)
theorem own_get {w : World} {base g cap : Nat} {t : TypeId} {L : List Cb} (h : w.ownsRow base t 4 (.slice (some ⟨g, 0, none⟩) L.length cap) L.length (flat L)) (k : Nat) (hk : k < L.length) (j : Nat) (hj : j < 4) : w.cell? ⟨g, k * 4 + j, none⟩ = (L[k]).cells[j]? :=
  (h.cellAt (k * 4 + j) (by omega)).trans (flat_get L k hk j hj)
theorem own_at {w : World} {base g cap : Nat} {t : TypeId} {L : List Cb} {c : Cb} (h : w.ownsRow base t 4 (.slice (some ⟨g, 0, none⟩) L.length cap) L.length (flat L)) (k : Nat) (hc : L[k]? = some c) (j : Nat) (hj : j < 4) : w.cell? ⟨g, k * 4 + j, none⟩ = c.cells[j]? := by
  obtain ⟨hk, rfl⟩ := List.getElem?_eq_some_iff.1 hc
  exact own_get h k hk j hj
theorem take_count (h l : BitVec 64) (L : List Cb) (k : Nat) (c : Cb) (hc : L[k]? = some c) : cntC h l (L.take (k + 1)) = cntC h l (L.take k) + (c.has h l).toNat := by
  obtain ⟨hk, rfl⟩ := List.getElem?_eq_some_iff.1 hc
  rw [List.take_succ_eq_append_getElem hk, cntC_snoc]
theorem cntC_le (h l : BitVec 64) (L : List Cb) : cntC h l L ≤ L.length := List.length_filter_le _ _
theorem own_form {w : World} {base : Nat} {t : TypeId} {size n : Nat} {v : Value} {xs : List Value} (h : w.ownsRow base t size v n xs) : ∃ A cap, v = .slice A n cap ∧ (0 < n → ∃ g, A = some ⟨g, 0, none⟩) := by
  rcases h.2 with ⟨rfl, rfl⟩ | ⟨g, cap, cur, rfl, _⟩
  · exact ⟨none, 0, rfl, fun h => by omega⟩
  · exact ⟨_, cap, rfl, fun _ => ⟨g, rfl⟩⟩
end Go.Proofs

namespace Go.Proofs.Hd
open Go.RowKit
def Cb.same (a b : Cb) : Bool := (a.vh == b.vh && a.vl == b.vl) && (a.ch == b.ch && a.cl == b.cl)
theorem Cb.same_iff (a b : Cb) : a.same b = true ↔ a = b := by
  cases a; cases b
  simp [Cb.same, and_assoc]
/-- How many bits a cube cares for. -/
def Cb.size (c : Cb) : Nat := cnt c.K 128
theorem cnt_le_of {p q : Nat → Bool} (n : Nat) (h : ∀ j, j < n → p j = true → q j = true) : cnt p n ≤ cnt q n := by
  induction n with
  | zero => exact Nat.le_refl _
  | succ n ih =>
    rw [cnt, cnt]
    have h1 := ih (fun j hj => h j (by omega))
    have h2 := h n (by omega)
    cases hp : p n with
    | false => simp; omega
    | true => rw [h2 hp]; omega
theorem cnt_eq_of {p q : Nat → Bool} (n : Nat) (h : ∀ j, j < n → p j = true → q j = true) (he : cnt p n = cnt q n) : ∀ j, j < n → p j = q j := by
  induction n with
  | zero => intro j hj; omega
  | succ n ih =>
    rw [cnt, cnt] at he
    have h1 := cnt_le_of n (fun j hj => h j (by omega))
    have h2 := h n (by omega)
    have h3 : p n = q n := by
      cases hp : p n with
      | true => rw [h2 hp]
      | false => cases hq : q n with
        | false => rfl
        | true => rw [hp, hq] at he; simp at he; omega
    intro j hj
    by_cases e : j = n
    · subst e; exact h3
    · exact ih (fun j hj => h j (by omega)) (by rw [h3] at he; omega) j (by omega)
theorem wit_size {a b : Cb} (h : a.wit b = true) : b.size ≤ a.size := cnt_le_of 128 ((Cb.wit_iff a b).1 h).2.2.1
theorem cb_ext {a b : Cb} (hv : ∀ j, j < 128 → a.V j = b.V j) (hk : ∀ j, j < 128 → a.K j = b.K j) : a = b := by
  obtain ⟨e1, e2⟩ := head_ext hv
  obtain ⟨e3, e4⟩ := head_ext hk
  cases a; cases b; simp_all
theorem wit_same_size {a b : Cb} (h : a.wit b = true) (he : b.size = a.size) : a = b := by
  obtain ⟨h1, h2, h3, h4⟩ := (Cb.wit_iff a b).1 h
  have hk := cnt_eq_of 128 h3 he
  refine cb_ext (fun j hj => ?_) (fun j hj => (hk j hj).symm)
  cases hb : b.K j with
  | true => exact h4 j hj (h3 j hj hb) hb
  | false =>
    have ha : a.K j = false := by rw [← hk j hj, hb]
    rw [open_V hj h1 ha, open_V hj h2 hb]
theorem wit_has {a b : Cb} (x y : BitVec 64) (h : a.wit b = true) (hh : a.has x y = true) : b.has x y = true := by
  obtain ⟨h1, h2, h3, h4⟩ := (Cb.wit_iff a b).1 h
  rw [Cb.has_iff] at *
  intro j hj
  have g := hh j hj
  cases hb : b.K j with
  | true =>
    have ha := h3 j hj hb
    rw [ha, Bool.and_true] at g
    rw [Bool.and_true, g, h4 j hj ha hb]
  | false => rw [open_V hj h2 hb, Bool.and_false]
/-- Cube a, number i, is not wanted beside cube b, number k. -/
def spareBy (a : Cb) (i : Nat) (b : Cb) (k : Nat) : Bool := (k != i) && (a.wit b && (!a.same b || decide (k < i)))
/-- Number i of L is not wanted. -/
def spare (L : List Cb) (i : Nat) : Bool := (List.range L.length).any fun k => match L[i]?, L[k]? with
  | some a, some b => spareBy a i b k
  | _, _ => false
def leanL (L : List Cb) : List Cb := (List.range L.length).filterMap fun i => if spare L i = true then none else L[i]?
theorem leanL_mem {L : List Cb} {c : Cb} : c ∈ leanL L ↔ ∃ i, L[i]? = some c ∧ spare L i = false := by
  unfold leanL
  rw [List.mem_filterMap]
  constructor
  · rintro ⟨i, _, h⟩
    by_cases hs : spare L i = true
    · rw [if_pos hs] at h; cases h
    · rw [if_neg hs] at h; exact ⟨i, h, by simpa using hs⟩
  · rintro ⟨i, h, hs⟩
    exact ⟨i, List.mem_range.2 (List.getElem?_eq_some_iff.1 h).1, by rw [hs]; simpa using h⟩
theorem spare_iff {L : List Cb} {i : Nat} {a : Cb} (ha : L[i]? = some a) : spare L i = true ↔ ∃ k b, L[k]? = some b ∧ k ≠ i ∧ a.wit b = true ∧ (a ≠ b ∨ k < i) := by
  unfold spare
  rw [List.any_eq_true]
  constructor
  · rintro ⟨k, hk, h⟩
    rw [ha] at h
    cases hb : L[k]? with
    | none => rw [hb] at h; cases h
    | some b =>
      rw [hb] at h
      simp only [spareBy, Bool.and_eq_true, Bool.or_eq_true, bne_iff_ne, ne_eq, Bool.not_eq_true', decide_eq_true_eq] at h
      refine ⟨k, b, hb, h.1, h.2.1, h.2.2.imp (fun e c => ?_) id⟩
      rw [(Cb.same_iff a b).2 c] at e; cases e
  · rintro ⟨k, b, hb, h1, h2, h3⟩
    refine ⟨k, List.mem_range.2 (List.getElem?_eq_some_iff.1 hb).1, ?_⟩
    rw [ha, hb]
    simp only [spareBy, Bool.and_eq_true, Bool.or_eq_true, bne_iff_ne, ne_eq, Bool.not_eq_true', decide_eq_true_eq]
    refine ⟨h1, h2, h3.imp (fun c => ?_) id⟩
    cases e : a.same b with
    | false => rfl
    | true => exact absurd ((Cb.same_iff a b).1 e) c
/-- Each sound cube of a list lies within one that is kept. -/
theorem kept_over {L : List Cb} (s : Nat) : ∀ (i : Nat) (a : Cb), a.size ≤ s → L[i]? = some a → a.snd = true → ∃ b ∈ leanL L, a.wit b = true := by
  induction s with
  | zero =>
    intro i
    induction i using Nat.strongRecOn with
    | ind i ih =>
      intro a hs ha hsnd
      cases hsp : spare L i with
      | false => exact ⟨a, leanL_mem.2 ⟨i, ha, hsp⟩, wit_self hsnd⟩
      | true =>
        obtain ⟨k, b, hb, _, hw, hor⟩ := (spare_iff ha).1 hsp
        have hz := wit_size hw
        have e := wit_same_size hw (by omega)
        subst e
        exact ih k (hor.resolve_left (fun h => h rfl)) a hs hb hsnd
  | succ s ihs =>
    intro i
    induction i using Nat.strongRecOn with
    | ind i ih =>
      intro a hs ha hsnd
      cases hsp : spare L i with
      | false => exact ⟨a, leanL_mem.2 ⟨i, ha, hsp⟩, wit_self hsnd⟩
      | true =>
        obtain ⟨k, b, hb, _, hw, hor⟩ := (spare_iff ha).1 hsp
        have hz := wit_size hw
        by_cases e : a = b
        · subst e
          exact ih k (hor.resolve_left (fun h => h rfl)) a hs hb hsnd
        · have hlt : b.size < a.size := Nat.lt_of_le_of_ne hz (fun c => e (wit_same_size hw c))
          obtain ⟨c, hc, hwc⟩ := ihs k b (by omega) hb ((Cb.wit_iff a b).1 hw).2.1
          exact ⟨c, hc, wit_trans hw hwc⟩
def anyHas (L : List Cb) (x y : BitVec 64) : Bool := L.any fun c => c.has x y
/-- A list of sound cubes has the headers that it has without its spare cubes. -/
theorem lean_has {L : List Cb} (hs : ∀ c ∈ L, c.snd = true) (x y : BitVec 64) : anyHas (leanL L) x y = anyHas L x y := by
  rw [Bool.eq_iff_iff]
  unfold anyHas
  rw [List.any_eq_true, List.any_eq_true]
  constructor
  · rintro ⟨c, hc, h⟩
    obtain ⟨i, hi, _⟩ := leanL_mem.1 hc
    exact ⟨c, List.mem_of_getElem? hi, h⟩
  · rintro ⟨c, hc, h⟩
    obtain ⟨i, hi⟩ := List.mem_iff_getElem?.1 hc
    obtain ⟨b, hb, hw⟩ := kept_over c.size i c (Nat.le_refl _) hi (hs c hc)
    exact ⟨b, hb, wit_has x y hw h⟩
theorem lean_sub {L : List Cb} {c : Cb} (h : c ∈ leanL L) : c ∈ L := by
  obtain ⟨i, hi, _⟩ := leanL_mem.1 h
  exact List.mem_of_getElem? hi
end Go.Proofs.Hd

namespace Go.Proofs.Hd
open Go.RowKit
/-- The four words of a cube lie in block b from place o on. -/
def At4 (w : World) (b o : Nat) (c : Cb) : Prop := w.cell? ⟨b, o, none⟩ = some (.int .u64 (uv c.vh)) ∧ w.cell? ⟨b, o + 1, none⟩ = some (.int .u64 (uv c.vl)) ∧ w.cell? ⟨b, o + 2, none⟩ = some (.int .u64 (uv c.ch)) ∧ w.cell? ⟨b, o + 3, none⟩ = some (.int .u64 (uv c.cl))
theorem At4.on {w w' : World} {b o : Nat} {c : Cb} (h : At4 w b o c) (hb : Below w.heap.size w w') : At4 w' b o c := ⟨on_some hb h.1, on_some hb h.2.1, on_some hb h.2.2.1, on_some hb h.2.2.2⟩
/-- v is a slice that reads as the cubes L. -/
def Pl (w : World) (v : Value) (L : List Cb) : Prop := (L = [] ∧ ∃ A cap, v = .slice A 0 cap) ∨ ∃ b off cap, v = .slice (some ⟨b, off, none⟩) L.length cap ∧ L.length ≤ maxLen ∧ b < w.heap.size ∧ ∀ k c, L[k]? = some c → At4 w b (off + k * 4) c
theorem Pl.on {w w' : World} {v : Value} {L : List Cb} (h : Pl w v L) (hb : Below w.heap.size w w') : Pl w' v L := by
  rcases h with h | ⟨b, off, cap, e, hl, hs, h⟩
  · exact .inl h
  · exact .inr ⟨b, off, cap, e, hl, Nat.lt_of_lt_of_le hs hb.size, fun k c hk => (h k c hk).on hb⟩
/-- What an index says: the first place at which q holds, or -1. -/
def IdxIs {α : Type} (q : α → Bool) (L : List α) (r : Int) : Prop := (r = -1 ∧ ∀ (k : Nat) (c : α), L[k]? = some c → q c = false) ∨ ∃ (k : Nat) (c : α), r = k ∧ L[k]? = some c ∧ q c = true ∧ ∀ (j : Nat) (d : α), j < k → L[j]? = some d → q d = false
theorem IdxIs.ex {α : Type} (q : α → Bool) (L : List α) : ∃ r, IdxIs q L r := by
  by_cases h : ∃ (k : Nat) (c : α), L[k]? = some c ∧ q c = true
  · have : ∃ k : Nat, ∃ c, L[k]? = some c ∧ q c = true := h
    classical
    obtain ⟨k, ⟨c, hc, hq⟩, hmin⟩ : ∃ k : Nat, (∃ c, L[k]? = some c ∧ q c = true) ∧ ∀ j, j < k → ¬ ∃ c, L[j]? = some c ∧ q c = true := by
      obtain ⟨k, hk⟩ := this
      induction k using Nat.strongRecOn with
      | ind k ih =>
        by_cases hj : ∃ j, j < k ∧ ∃ c, L[j]? = some c ∧ q c = true
        · obtain ⟨j, hj, hc⟩ := hj; exact ih j hj hc
        · exact ⟨k, hk, fun j hjk hc => hj ⟨j, hjk, hc⟩⟩
    refine ⟨k, .inr ⟨k, c, rfl, hc, hq, fun j d hj hd => ?_⟩⟩
    cases e : q d with
    | false => rfl
    | true => exact absurd ⟨d, hd, e⟩ (hmin j hj)
  · refine ⟨-1, .inl ⟨rfl, fun k c hc => ?_⟩⟩
    cases e : q c with
    | false => rfl
    | true => exact absurd ⟨k, c, hc, e⟩ h
theorem IdxIs.hit {α : Type} {q : α → Bool} {L : List α} {r : Int} (h : IdxIs q L r) {k : Nat} {c : α} (hc : L[k]? = some c) (hq : q c = true) (hb : ∀ (j : Nat) (d : α), j < k → L[j]? = some d → q d = false) : r = k := by
  rcases h with ⟨_, h⟩ | ⟨k', c', rfl, hc', hq', hb'⟩
  · rw [h k c hc] at hq; cases hq
  · rcases Nat.lt_trichotomy k k' with hlt | rfl | hlt
    · rw [hb' k c hlt hc] at hq; cases hq
    · rfl
    · rw [hb k' c' hlt hc'] at hq'; cases hq'
theorem IdxIs.miss {α : Type} {q : α → Bool} {L : List α} {r : Int} (h : IdxIs q L r) (hb : ∀ (j : Nat) (d : α), L[j]? = some d → q d = false) : r = -1 := by
  rcases h with ⟨e, _⟩ | ⟨k', c', rfl, hc', hq', hb'⟩
  · exact e
  · rw [hb k' c' hc'] at hq'; cases hq'
theorem IdxIs.any {α : Type} {q : α → Bool} {L : List α} {r : Int} (h : IdxIs q L r) : L.any q = decide (0 ≤ r) := by
  rcases h with ⟨rfl, h⟩ | ⟨k', c', rfl, hc', hq', hb'⟩
  · rw [show decide ((0 : Int) ≤ -1) = false by decide, List.any_eq_false]
    intro c hc
    obtain ⟨k, hk⟩ := List.mem_iff_getElem?.1 hc
    rw [h k c hk]; simp
  · rw [show decide ((0 : Int) ≤ (k' : Int)) = true by simp, List.any_eq_true]
    exact ⟨c', List.mem_of_getElem? hc', hq'⟩
end Go.Proofs.Hd
namespace Go.Proofs
open Go.RowKit Go.Proofs.Hd Go.Shelf Go.Lib
attribute [local go_sem] uv_nonneg

set_option maxHeartbeats 2000000 in
set_option maxRecDepth 100000 in
theorem idx_cubes (g : Nat) (lb : Array Value) (q : Cb → Bool) (eg : ∀ args w, (callFunc g args).run Try.prog w = .ok (.enter g args) w) (v : Value) (L : List Cb) (w : World) (r : Int) (hr : IdxIs q L r)
    (hp : ∀ W c, c ∈ L → Below w.heap.size w W → Calls Try.prog g (#[.agg #[.int .u64 (uv c.vh), .int .u64 (uv c.vl), .int .u64 (uv c.ch), .int .u64 (uv c.cl)]] ++ lb) W fun e w' => e = .returned (.bool (q c)) ∧ Below w.heap.size w w') (hv : Pl w v L) :
    Calls Try.prog 26 #[v, .func (.func g) #[] lb] w fun e w' => e = .returned (.int .i64 r) ∧ Below w.heap.size w w' := by
  rcases hv with ⟨rfl, A, cap, rfl⟩ | ⟨b, off, cap, rfl, hlen, hb, hc⟩
  · obtain rfl : r = -1 := hr.miss (fun j d h => by simp at h)
    clear hp hr
    go_enter Try.func26, Try.ntmps26
    go_wp2
    refine wp_loop_rounds 1 ?_
    rw [rounds_succ]
    go_wp2
    go_ret
    exact ⟨rfl, Below.refl _ _⟩
  · have HR := Lib.hid hr
    have HC := Lib.hid hc
    have HP := Lib.hid hp
    have hl : (L.length : Int) ≤ 9223372036854775807 := by unfold maxLen at hlen; omega
    clear hr hc hp
    go_enter Try.func26, Try.ntmps26
    go_wp2
    go_loopg [5, 8] L.length (fun gg _ s8 wr => ∃ kk : Nat, kk ≤ L.length ∧ L.length - kk ≤ gg ∧ s8 = .int .i64 kk ∧ Hid (Below w.heap.size w wr) ∧ Hid (∀ (j : Nat) (d : Cb), j < kk → L[j]? = some d → q d = false))
    case atStart => exact ⟨0, Nat.zero_le _, by omega, rfl, Below.refl _ w, fun j d hj => absurd hj (Nat.not_lt_zero _)⟩
    case round =>
      obtain ⟨kk, hkk, hg, rfl, BW, A⟩ := hrel
      by_cases hlt : kk < L.length
      · have hltz : (kk : Int) < (L.length : Int) := by omega
        obtain ⟨c, hc⟩ : ∃ c, L[kk]? = some c := ⟨_, List.getElem?_eq_getElem hlt⟩
        obtain ⟨c0, c1, c2, c3⟩ := (HC.out kk c hc).on (w' := wr) BW.out
        have hcall := HP.out wr c (List.mem_of_getElem? hc) BW.out
        have B := Lib.hid hc
        clear HP HC hc
        cases hq : q c with
        | true =>
          rw [hq] at hcall
          go_wp2_with (go_at_fn g; refine hcall.mono ?_; rintro e w' ⟨rfl, hb'⟩)
          go_ret
          exact ⟨by rw [HR.out.hit B.out hq A.out]; rfl, hb'⟩
        | false =>
          rw [hq] at hcall
          go_wp2_with (go_at_fn g; refine hcall.mono ?_; rintro e w' ⟨rfl, hb'⟩)
          go_roundg (L.length - (kk + 1))
          case measure => omega
          case rel =>
            refine ⟨kk + 1, by omega, by omega, by go_num, hb', fun j d hj hd => ?_⟩
            by_cases e : j = kk
            · subst e
              have := B.out
              rw [hd] at this; injection this with this; subst this; exact hq
            · exact A.out j d (by omega) hd
      · have hltz : ¬ (kk : Int) < (L.length : Int) := by omega
        have hk : kk = L.length := by omega
        have := HR.out.miss (fun j d hd => A.out j d (by rw [hk]; exact (List.getElem?_eq_some_iff.1 hd).1) hd)
        subst this
        go_wp2
        go_ret
        exact ⟨rfl, BW.out⟩
theorem cont_cubes (g : Nat) (lb : Array Value) (q : Cb → Bool) (eg : ∀ args w, (callFunc g args).run Try.prog w = .ok (.enter g args) w) (v : Value) (L : List Cb) (w : World) (x : Bool) (hx : L.any q = x)
    (hp : ∀ W c, c ∈ L → Below w.heap.size w W → Calls Try.prog g (#[.agg #[.int .u64 (uv c.vh), .int .u64 (uv c.vl), .int .u64 (uv c.ch), .int .u64 (uv c.cl)]] ++ lb) W fun e w' => e = .returned (.bool (q c)) ∧ Below w.heap.size w w') (hv : Pl w v L) :
    Calls Try.prog 29 #[v, .func (.func g) #[] lb] w fun e w' => e = .returned (.bool x) ∧ Below w.heap.size w w' := by
  obtain ⟨r, hr⟩ := IdxIs.ex q L
  have hcon := idx_cubes g lb q eg v L w r hr hp hv
  have ha := hr.any
  rw [hx] at ha
  subst ha
  clear hr hx hp hv
  go_enter Try.func29, Try.ntmps29
  go_wp2_with (go_at_call 26; refine hcon.mono ?_; rintro e w' ⟨rfl, hb'⟩)
  go_ret
  exact ⟨rfl, hb'⟩
theorem psound1_c (c : Cb) (w : World) : Calls Try.prog 28 #[.agg #[.int .u64 (uv c.vh), .int .u64 (uv c.vl), .int .u64 (uv c.ch), .int .u64 (uv c.cl)]] w fun e w' => e = .returned (.bool (!c.snd)) ∧ Below w.heap.size w w' := by
  have B0 := below1 w (.cells #[.int .u64 (uv c.vh), .int .u64 (uv c.vl), .int .u64 (uv c.ch), .int .u64 (uv c.cl)] 32)
  go_enter Try.func28, Try.ntmps28
  go_wp2_with fail
  (with_reducible refine (csound _ c _ rfl).mono ?_)
  rintro e w1 ⟨rfl, hb⟩
  have L := B0.trans (hb.mono B0.size)
  clear B0 hb
  go_wp2
  go_ret
  exact ⟨rfl, L⟩
theorem phas1_c (c : Cb) (hh hl : BitVec 64) (b : Nat) (w : World) (hc : w.cell? ⟨b, 0, none⟩ = some (.int .u64 (uv hh)) ∧ w.cell? ⟨b, 1, none⟩ = some (.int .u64 (uv hl))) :
    Calls Try.prog 30 #[.agg #[.int .u64 (uv c.vh), .int .u64 (uv c.vl), .int .u64 (uv c.ch), .int .u64 (uv c.cl)], .pointer (some ⟨b, 0, none⟩)] w fun e w' => e = .returned (.bool (c.has hh hl)) ∧ Below w.heap.size w w' := by
  have B0 := below1 w (.cells #[.int .u64 (uv c.vh), .int .u64 (uv c.vl), .int .u64 (uv c.ch), .int .u64 (uv c.cl)] 32)
  have h0 := on_some B0 hc.1
  have h1 := on_some B0 hc.2
  clear hc
  go_enter Try.func30, Try.ntmps30
  go_wp2_with fail
  (with_reducible refine (chas _ c _ _ _ rfl).mono ?_)
  rintro e w1 ⟨rfl, hb⟩
  have L := B0.trans (hb.mono B0.size)
  clear B0 hb
  go_wp2
  go_ret
  exact ⟨rfl, L⟩
/-- Is a list of cubes sound? -/
def sndL (L : List Cb) : Bool := decide (L.length ≤ 200) && L.all Cb.snd
theorem any_not (L : List Cb) : (L.any fun c => !c.snd) = !L.all Cb.snd := by induction L <;> simp_all
theorem psound_c (x : Bool) (v : Value) (L : List Cb) (w : World) (hx : sndL L = x) (hv : Pl w v L) : Calls Try.prog 12 #[v] w fun e w' => e = .returned (.bool x) ∧ Below w.heap.size w w' := by
  have eg : ∀ args w, (callFunc 28 args).run Try.prog w = .ok (.enter 28 args) w := enters_of Try.func28 (by kernel_rfl) rfl
  have hcon := cont_cubes 28 #[] (fun c => !c.snd) eg v L w (!L.all Cb.snd) (any_not L) (fun W c _ hb => (psound1_c c W).mono fun e w' h => ⟨h.1, hb.trans (h.2.mono hb.size)⟩) hv
  obtain ⟨A, cap, hA⟩ : ∃ A cap, v = .slice A L.length cap := by
    rcases hv with ⟨rfl, A, cap, rfl⟩ | ⟨b, off, cap, rfl, _⟩ <;> exact ⟨_, _, rfl⟩
  subst hA
  clear hv
  unfold sndL at hx
  subst hx
  generalize L.all Cb.snd = y at hcon ⊢
  by_cases hl : L.length ≤ 200
  · have hz : (L.length : Int) ≤ 200 := by omega
    rw [show decide (L.length ≤ 200) = true by simpa using hl]
    go_enter Try.func12, Try.ntmps12
    go_wp2_with (go_at_call 29; refine hcon.mono ?_; rintro e w' ⟨rfl, hb'⟩)
    go_ret
    exact ⟨by simp, hb'⟩
  · have hz : ¬ (L.length : Int) ≤ 200 := by omega
    rw [show decide (L.length ≤ 200) = false by simpa using hl]
    go_enter Try.func12, Try.ntmps12
    go_wp2
    go_ret
    exact ⟨by simp, Below.refl _ _⟩
theorem phas_c (x : Bool) (v : Value) (L : List Cb) (hh hl : BitVec 64) (w : World) (hx : anyHas L hh hl = x) (hv : Pl w v L) : Calls Try.prog 13 #[v, .agg #[.int .u64 (uv hh), .int .u64 (uv hl)]] w fun e w' => e = .returned (.bool x) ∧ Below w.heap.size w w' := by
  have eg : ∀ args w, (callFunc 30 args).run Try.prog w = .ok (.enter 30 args) w := enters_of Try.func30 (by kernel_rfl) rfl
  have B0 := below1 w (.cells #[.int .u64 (uv hh), .int .u64 (uv hl)] 25)
  have hcell : (w.alloc (.cells #[.int .u64 (uv hh), .int .u64 (uv hl)] 25)).cell? ⟨w.heap.size, 0, none⟩ = some (.int .u64 (uv hh)) ∧ (w.alloc (.cells #[.int .u64 (uv hh), .int .u64 (uv hl)] 25)).cell? ⟨w.heap.size, 1, none⟩ = some (.int .u64 (uv hl)) := ⟨by simp, by simp⟩
  have hcon := cont_cubes 30 #[.pointer (some ⟨w.heap.size, 0, none⟩)] (fun c => c.has hh hl) eg v L (w.alloc (.cells #[.int .u64 (uv hh), .int .u64 (uv hl)] 25)) x hx
    (fun W c _ hb => (phas1_c c hh hl w.heap.size W ⟨on_some hb hcell.1, on_some hb hcell.2⟩).mono fun e w' h => ⟨h.1, hb.trans (h.2.mono hb.size)⟩) (hv.on B0)
  clear hv hcell hx
  go_enter Try.func13, Try.ntmps13
  go_wp2_with (go_at_call 29; refine hcon.mono ?_; rintro e w' ⟨rfl, hb'⟩)
  go_ret
  exact ⟨rfl, B0.trans (hb'.mono B0.size)⟩
end Go.Proofs

namespace Go.Proofs.Ytipkefljicoldaa
open Go.ChangeShapes Go.WideShapes Go.ChangeAt Go.RowKit Go.Joins Go.Deep Go.Proofs.Hd
theorem four_at {w : World} {b off n : Nat} {c : Cb} (h : Four w ((⟨b, off, none⟩ : Addr).add n) c) : At4 w b (off + n) c := by
  obtain ⟨h0, h1, h2, h3⟩ := h
  have e : (⟨b, off, none⟩ : Addr).add n = ⟨b, off + n, none⟩ := by unfold Addr.add; by_cases hn : n = 0 <;> simp [hn]
  rw [e] at h0 h1 h2 h3
  exact ⟨by simpa [Addr.add] using h0, by simpa [Addr.add] using h1, by simpa [Addr.add] using h2, by simpa [Addr.add] using h3⟩
set_option maxRecDepth 100000 in
theorem open_pl {H : Type} {enc : TypeId × Value → H} {W : World} {base : Nat} {v : Value} {d : DataW H} {p : List MemPlace} (hok : Value.okWide Try.prog W .any base 22 v)
    (h0 : DataW.Trod enc Try.prog W 0 (fun _ => true) true 22 v d p) : ∃ (A : Option Addr) (cap : Nat) (L : List Cb), v = .slice A L.length cap ∧ L.length ≤ cap ∧ cap ≤ maxLen ∧ Pl W v L := by
  rcases open_cubes hok h0 with rfl | ⟨a, cap, L, rfl, hl, hm, hc⟩
  · exact ⟨none, 0, [], rfl, Nat.le_refl _, Nat.zero_le _, .inl ⟨rfl, none, 0, rfl⟩⟩
  · refine ⟨some a, cap, L, rfl, hl, hm, ?_⟩
    cases L with
    | nil => exact .inl ⟨rfl, some a, cap, rfl⟩
    | cons c L =>
      have h1 := hc 0 c rfl
      obtain ⟨b, off, spot⟩ := a
      have hs : spot = none := by
        have := World.cell?_spot h1.1
        simpa [Addr.add] using this
      subst hs
      refine .inr ⟨b, off, cap, rfl, Nat.le_trans hl hm, ?_, fun k d hk => four_at (hc k d hk)⟩
      have := h1.block
      simpa [Addr.add] using this
set_option maxRecDepth 100000 in
/-- How long the datum of such a slice is. -/
theorem open_len {H : Type} {enc : TypeId × Value → H} {W : World} {base : Nat} {v : Value} {d : DataW H} {p : List MemPlace} (hok : Value.okWide Try.prog W .any base 22 v)
    (h0 : DataW.Trod enc Try.prog W 0 (fun _ => true) true 22 v d p) : ∀ (A : Option Addr) (n cap : Nat), v = .slice A n cap → n = 0 ∨ ∃ el sp, d = .slice el sp ∧ el.length = n := by
  intro A n cap e
  obtain ⟨fuel, hf⟩ := h0
  obtain ⟨va, vl, vc, rfl⟩ := okWide_slice Try.underlying22 hok
  injection e with e1 e2 e3
  subst e1 e2 e3
  rcases open_slice Try.underlying22 hf with ⟨h1, _⟩ | ⟨a, len, cap, m, n, D, Pl, hcs, _, hlc, hcm, hm, hx, hel⟩
  · left
    have : va = none ∧ vl = 0 ∧ vc = 0 := by simpa [Value.cells] using h1
    exact this.2.1
  · right
    have hv : va = some a ∧ vl = len ∧ vc = cap := by simpa [Value.cells] using hcs
    obtain ⟨rfl, rfl, rfl⟩ := hv
    have hd := congrArg Prod.fst hx
    exact ⟨_, _, hd, by simp⟩
end Go.Proofs.Ytipkefljicoldaa

namespace Go.Proofs.Hd
open Go.RowKit Go.Sort
/-- World w' is W behind some draws, with some blocks laid behind it. -/
def Grew (W w' : World) : Prop := ∃ q os, w' = grow (W.drewN q) os
theorem Grew.refl (W : World) : Grew W W := ⟨0, #[], by rw [grow_empty]; rfl⟩
theorem Grew.trans {a b c : World} (h : Grew a b) (k : Grew b c) : Grew a c := by
  obtain ⟨q, os, rfl⟩ := h
  obtain ⟨q', os', rfl⟩ := k
  exact ⟨q + q', os ++ os', by show grow (grow ((a.drewN q).drewN q') os) os' = _; rw [grow_grow, World.drewN_drewN]⟩
theorem Grew.drew1 (W : World) : Grew W W.drew := ⟨1, #[], by rw [grow_empty]; rfl⟩
theorem Grew.alloc1 (W : World) (o : Obj) : Grew W (W.alloc o) := ⟨0, #[o], by rw [← alloc_eq_grow]; rfl⟩
theorem Grew.drewN1 (W : World) (n : Nat) : Grew W (W.drewN n) := ⟨n, #[], by rw [grow_empty]⟩
theorem Grew.below {W w' : World} (h : Grew W w') : Below W.heap.size W w' := by
  obtain ⟨q, os, rfl⟩ := h
  exact ⟨rfl, rfl, rfl, by simp [grow], fun k hk => heap_grow_old _ _ hk⟩
/-- What Go's cmp.Compare says of two ints. -/
def icmp (a b : Int) : Int := if a < b then -1 else if b < a then 1 else 0
def or2 (x y : Int) : Int := if x = 0 then y else x
end Go.Proofs.Hd
namespace Go.Proofs
open Go.RowKit Go.Proofs.Hd Go.Sort
attribute [local go_sem] uv_nonneg
theorem nanI_c (a : Int) (w : World) : Calls Try.prog 67 #[.int .i64 a] w fun e w' => e = .returned (.bool false) ∧ w = w' := by
  go_enter Try.func67, Try.ntmps67
  go_wp2
  go_ret
  exact ⟨by simp, rfl⟩
theorem cmpI_g (a b r : Int) (w : World) (hr : icmp a b = r) : Calls Try.prog 56 #[.int .i64 a, .int .i64 b] w fun e w' => e = .returned (.int .i64 r) ∧ Grew w w' := by
  unfold icmp at hr
  by_cases h1 : a < b
  · rw [if_pos h1] at hr; subst hr
    go_enter Try.func56, Try.ntmps56
    go_wp2_with (go_at_call 67; refine (nanI_c _ _).mono ?_; rintro e w' ⟨rfl, rfl⟩)
    go_ret
    exact ⟨rfl, Grew.refl _⟩
  · rw [if_neg h1] at hr
    by_cases h2 : b < a
    · rw [if_pos h2] at hr; subst hr
      go_enter Try.func56, Try.ntmps56
      go_wp2_with (go_at_call 67; refine (nanI_c _ _).mono ?_; rintro e w' ⟨rfl, rfl⟩)
      go_ret
      exact ⟨rfl, Grew.refl _⟩
    · rw [if_neg h2] at hr; subst hr
      go_enter Try.func56, Try.ntmps56
      go_wp2_with (go_at_call 67; refine (nanI_c _ _).mono ?_; rintro e w' ⟨rfl, rfl⟩)
      go_ret
      exact ⟨rfl, Grew.refl _⟩
theorem ones_g (h l : BitVec 64) (r : Int) (w : World) (hr : ((ones h + ones l : Nat) : Int) = r) : Calls Try.prog 57 #[.agg #[.int .u64 (uv h), .int .u64 (uv l)]] w fun e w' => e = .returned (.int .i64 r) ∧ Grew w w' := by
  subst hr
  have h1 := ones_le h
  have h2 := ones_le l
  have e1 : ((ones h + ones l : Nat) : Int) = (ones h : Int) + (ones l : Int) := by omega
  rw [e1]
  have hw : IntKind.i64.wrap ((ones h : Int) + (ones l : Int)) = (ones h : Int) + (ones l : Int) := by rw [IntKind.wrap_i64]; omega
  go_enter Try.func57, Try.ntmps57
  go_wp2
  go_quiet ((go_at_call 68; exact Calls.quiet_of_same ((ones64_c _ _).mono fun e w' h => ⟨h.1, h.2.symm⟩)))
  go_wp2
  go_ret
  exact ⟨rfl, (Grew.alloc1 _ _).trans (Grew.drewN1 _ _)⟩
set_option maxHeartbeats 1000000 in
theorem or2_g (x y r : Int) (g : Nat) (w : World) (hr : or2 x y = r) (hc : w.cell? ⟨g, 0, none⟩ = some (.int .i64 x) ∧ w.cell? ⟨g, 1, none⟩ = some (.int .i64 y)) :
    Calls Try.prog 55 #[.slice (some ⟨g, 0, none⟩) 2 2] w fun e w' => e = .returned (.int .i64 r) ∧ Grew w w' := by
  obtain ⟨c0, c1⟩ := hc
  unfold or2 at hr
  by_cases hx : x = 0
  · rw [if_pos hx] at hr; subst hr hx
    by_cases hy : y = 0
    · subst hy
      go_enter Try.func55, Try.ntmps55
      go_wp2
      refine wp_loop_rounds 3 ?_
      rw [rounds_succ]
      go_wp2
      rw [rounds_succ]
      go_wp2
      rw [rounds_succ]
      go_wp2
      go_ret
      exact ⟨rfl, Grew.refl _⟩
    · go_enter Try.func55, Try.ntmps55
      go_wp2
      refine wp_loop_rounds 3 ?_
      rw [rounds_succ]
      go_wp2
      rw [rounds_succ]
      go_wp2
      go_ret
      exact ⟨rfl, Grew.refl _⟩
  · rw [if_neg hx] at hr; subst hr
    go_enter Try.func55, Try.ntmps55
    go_wp2
    refine wp_loop_rounds 3 ?_
    rw [rounds_succ]
    go_wp2
    go_ret
    exact ⟨rfl, Grew.refl _⟩
set_option maxHeartbeats 2000000 in
set_option maxRecDepth 100000 in
theorem wide1_g (oi oj x y r : Int) (ci cj : Cb) (i j n b off cap pb : Nat) (w : World) (hi : i < n) (hj : j < n) (hn : n ≤ maxLen) (HI : Hid (((ones ci.ch + ones ci.cl : Nat) : Int) = oi)) (HJ : Hid (((ones cj.ch + ones cj.cl : Nat) : Int) = oj)) (hx : icmp oi oj = x) (hy : icmp (i : Int) (j : Int) = y) (hr : or2 x y = r)
    (hp : w.cell? ⟨pb, 0, none⟩ = some (.slice (some ⟨b, off, none⟩) n cap)) (h1 : At4 w b (off + i * 4) ci) (h2 : At4 w b (off + j * 4) cj) :
    Calls Try.prog 54 #[.int .i64 i, .int .i64 j, .pointer (some ⟨pb, 0, none⟩)] w fun e w' => e = .returned (.int .i64 r) ∧ Grew w w' := by
  have hiz : (i : Int) < (n : Int) := by omega
  have hjz : (j : Int) < (n : Int) := by omega
  have hnz : (n : Int) ≤ 9223372036854775807 := by unfold maxLen at hn; omega
  have KEEP : ∀ u1 u2 : World, Grew u1 u2 → (Grew w u1 ∧ u1.cell? ⟨pb, 0, none⟩ = some (.slice (some ⟨b, off, none⟩) n cap) ∧ u1.cell? ⟨b, off + i * 4 + 2, none⟩ = some (.int .u64 (uv ci.ch)) ∧ u1.cell? ⟨b, off + i * 4 + 3, none⟩ = some (.int .u64 (uv ci.cl)) ∧ u1.cell? ⟨b, off + j * 4 + 2, none⟩ = some (.int .u64 (uv cj.ch)) ∧ u1.cell? ⟨b, off + j * 4 + 3, none⟩ = some (.int .u64 (uv cj.cl))) → (Grew w u2 ∧ u2.cell? ⟨pb, 0, none⟩ = some (.slice (some ⟨b, off, none⟩) n cap) ∧ u2.cell? ⟨b, off + i * 4 + 2, none⟩ = some (.int .u64 (uv ci.ch)) ∧ u2.cell? ⟨b, off + i * 4 + 3, none⟩ = some (.int .u64 (uv ci.cl)) ∧ u2.cell? ⟨b, off + j * 4 + 2, none⟩ = some (.int .u64 (uv cj.ch)) ∧ u2.cell? ⟨b, off + j * 4 + 3, none⟩ = some (.int .u64 (uv cj.cl))) := fun _ _ hb h => ⟨h.1.trans hb, on_some hb.below h.2.1, on_some hb.below h.2.2.1, on_some hb.below h.2.2.2.1, on_some hb.below h.2.2.2.2.1, on_some hb.below h.2.2.2.2.2⟩
  have S0 : Grew w w ∧ w.cell? ⟨pb, 0, none⟩ = some (.slice (some ⟨b, off, none⟩) n cap) ∧ w.cell? ⟨b, off + i * 4 + 2, none⟩ = some (.int .u64 (uv ci.ch)) ∧ w.cell? ⟨b, off + i * 4 + 3, none⟩ = some (.int .u64 (uv ci.cl)) ∧ w.cell? ⟨b, off + j * 4 + 2, none⟩ = some (.int .u64 (uv cj.ch)) ∧ w.cell? ⟨b, off + j * 4 + 3, none⟩ = some (.int .u64 (uv cj.cl)) := ⟨Grew.refl _, hp, h1.2.2.1, h1.2.2.2, h2.2.2.1, h2.2.2.2⟩
  clear hp h1 h2
  go_enter Try.func54, Try.ntmps54
  go_wp2_with fail
  refine wp_region_held_drew (S := fun w' => Grew w w' ∧ w'.cell? ⟨pb, 0, none⟩ = some (.slice (some ⟨b, off, none⟩) n cap) ∧ w'.cell? ⟨b, off + i * 4 + 2, none⟩ = some (.int .u64 (uv ci.ch)) ∧ w'.cell? ⟨b, off + i * 4 + 3, none⟩ = some (.int .u64 (uv ci.cl)) ∧ w'.cell? ⟨b, off + j * 4 + 2, none⟩ = some (.int .u64 (uv cj.ch)) ∧ w'.cell? ⟨b, off + j * 4 + 3, none⟩ = some (.int .u64 (uv cj.cl))) (by kernel_rfl) (KEEP _ _ (Grew.drew1 _) S0) (fun hHeld => ?_)
  clear S0
  refine wpAnyH_take (i := 0) (oi := ⟨some 6, _, _, _, _, _⟩) (v := ?vu0) rfl (by kernel_rfl) (by kernel_rfl) (by kernel_rfl) (fun _ _ _ h => h) (Or.inl ⟨by rfl, ?yu0⟩) hHeld ?ru0
  case yu0 => (intro w' hSw; (try dsimp only at hSw); go_simp; try (with_reducible rfl))
  simp only [Act.put, List.setIfInBounds_toArray, List.set_cons_zero, List.set_cons_succ]
  refine wpAnyH_take (i := 1) (oi := ⟨some 7, _, _, _, _, _⟩) (v := ?vu1) rfl (by kernel_rfl) (by kernel_rfl) (by kernel_rfl) (fun _ _ _ h => h) (Or.inl ⟨by rfl, ?yu1⟩) hHeld ?ru1
  case yu1 => (intro w' hSw; (try dsimp only at hSw); go_simp; try (with_reducible rfl))
  simp only [Act.put, List.setIfInBounds_toArray, List.set_cons_zero, List.set_cons_succ]
  refine wpAnyH_take (i := 2) (oi := ⟨some 8, _, _, _, _, _⟩) (v := ?vu2) rfl (by kernel_rfl) (by kernel_rfl) (by kernel_rfl) (fun _ _ _ h => h) (Or.inl ⟨by rfl, ?yu2⟩) hHeld ?ru2
  case yu2 => (intro w' hSw; (try dsimp only at hSw); go_simp; try (with_reducible rfl))
  simp only [Act.put, List.setIfInBounds_toArray, List.set_cons_zero, List.set_cons_succ]
  refine wpAnyH_take (i := 3) (oi := ⟨some 9, _, _, _, _, _⟩) (v := ?vu3) rfl (by kernel_rfl) (by kernel_rfl) (by kernel_rfl) (fun _ _ _ h => h) (Or.inl ⟨by rfl, ?yu3⟩) hHeld ?ru3
  case yu3 => (intro w' hSw; (try dsimp only at hSw); go_simp; try (with_reducible rfl))
  simp only [Act.put, List.setIfInBounds_toArray, List.set_cons_zero, List.set_cons_succ]
  refine wpAnyH_take (i := 4) (oi := ⟨some 10, _, _, _, _, _⟩) (v := ?vu4) rfl (by kernel_rfl) (by kernel_rfl) (by kernel_rfl) (fun _ _ _ h => h) (Or.inl ⟨by rfl, ?yu4⟩) hHeld ?ru4
  case yu4 => (intro w' hSw; (try dsimp only at hSw); go_simp; try (with_reducible rfl))
  simp only [Act.put, List.setIfInBounds_toArray, List.set_cons_zero, List.set_cons_succ]
  refine wpAnyH_take (i := 6) (oi := ⟨some 12, _, _, _, _, _⟩) (v := ?vu6) rfl (by kernel_rfl) (by kernel_rfl) (by kernel_rfl) (fun _ _ _ h => h) (Or.inl ⟨by rfl, ?yu6⟩) hHeld ?ru6
  case yu6 => (intro w' hSw; (try dsimp only at hSw); go_simp; try (with_reducible rfl))
  simp only [Act.put, List.setIfInBounds_toArray, List.set_cons_zero, List.set_cons_succ]
  refine wpAnyH_take (i := 7) (oi := ⟨some 13, _, _, _, _, _⟩) (v := ?vu7) rfl (by kernel_rfl) (by kernel_rfl) (by kernel_rfl) (fun _ _ _ h => h) (Or.inl ⟨by rfl, ?yu7⟩) hHeld ?ru7
  case yu7 => (intro w' hSw; (try dsimp only at hSw); go_simp; try (with_reducible rfl))
  simp only [Act.put, List.setIfInBounds_toArray, List.set_cons_zero, List.set_cons_succ]
  refine wpAnyH_take (i := 8) (oi := ⟨some 14, _, _, _, _, _⟩) (v := ?vu8) rfl (by kernel_rfl) (by kernel_rfl) (by kernel_rfl) (fun _ _ _ h => h) (Or.inl ⟨by rfl, ?yu8⟩) hHeld ?ru8
  case yu8 => (intro w' hSw; (try dsimp only at hSw); go_simp; try (with_reducible rfl))
  simp only [Act.put, List.setIfInBounds_toArray, List.set_cons_zero, List.set_cons_succ]
  refine wpAnyH_take (i := 9) (oi := ⟨some 15, _, _, _, _, _⟩) (v := ?vu9) rfl (by kernel_rfl) (by kernel_rfl) (by kernel_rfl) (fun _ _ _ h => h) (Or.inl ⟨by rfl, ?yu9⟩) hHeld ?ru9
  case yu9 => (intro w' hSw; (try dsimp only at hSw); go_simp; try (with_reducible rfl))
  simp only [Act.put, List.setIfInBounds_toArray, List.set_cons_zero, List.set_cons_succ]
  refine wpAnyH_take (i := 10) (oi := ⟨some 16, _, _, _, _, _⟩) (v := ?vu10) rfl (by kernel_rfl) (by kernel_rfl) (by kernel_rfl) (fun _ _ _ h => h) (Or.inl ⟨by rfl, ?yu10⟩) hHeld ?ru10
  case yu10 => (intro w' hSw; (try dsimp only at hSw); go_simp; try (with_reducible rfl))
  simp only [Act.put, List.setIfInBounds_toArray, List.set_cons_zero, List.set_cons_succ]
  refine wpAnyH_take (i := 13) (oi := ⟨some 19, _, _, _, _, _⟩) (v := ?vu13) rfl (by kernel_rfl) (by kernel_rfl) (by kernel_rfl) (fun _ _ _ h => h) (Or.inl ⟨by rfl, ?yu13⟩) hHeld ?ru13
  case yu13 => (intro w' hSw; (try dsimp only at hSw); go_simp; try (with_reducible rfl))
  simp only [Act.put, List.setIfInBounds_toArray, List.set_cons_zero, List.set_cons_succ]
  refine wpAnyH_take (i := 14) (oi := ⟨some 20, _, _, _, _, _⟩) (v := ?vu14) rfl (by kernel_rfl) (by kernel_rfl) (by kernel_rfl) (fun _ _ _ h => h) (Or.inl ⟨by rfl, ?yu14⟩) hHeld ?ru14
  case yu14 => (intro w' hSw; (try dsimp only at hSw); go_simp; try (with_reducible rfl))
  simp only [Act.put, List.setIfInBounds_toArray, List.set_cons_zero, List.set_cons_succ]
  refine wpAnyH_ready (rs := [5]) (by kernel_rfl) (by simp) ?_
  refine AllReadyH.cons (o := ⟨some 11, _, _, _, _, _⟩) rfl (fun K hK => ?_) AllReadyH.nil
  go_simp
  (with_reducible refine (ones_g ci.ch ci.cl oi _ HI.out).mono ?_)
  rintro e wq5 ⟨rfl, hb⟩
  (try dsimp only)
  refine hK.out _ _ (KEEP _ _ hb hHeld) (fun hNext => ?_)
  clear hK K hHeld hb
  have hHeld := hNext
  clear hNext
  try simp only [Act.put, List.setIfInBounds_toArray, List.set_cons_zero, List.set_cons_succ]
  refine wpAnyH_ready (rs := [11]) (by kernel_rfl) (by simp) ?_
  refine AllReadyH.cons (o := ⟨some 17, _, _, _, _, _⟩) rfl (fun K hK => ?_) AllReadyH.nil
  go_simp
  (with_reducible refine (ones_g cj.ch cj.cl oj _ HJ.out).mono ?_)
  rintro e wq11 ⟨rfl, hb⟩
  (try dsimp only)
  refine hK.out _ _ (KEEP _ _ hb hHeld) (fun hNext => ?_)
  clear hK K hHeld hb
  have hHeld := hNext
  clear hNext
  try simp only [Act.put, List.setIfInBounds_toArray, List.set_cons_zero, List.set_cons_succ]
  refine wpAnyH_ready (rs := [12]) (by kernel_rfl) (by simp) ?_
  refine AllReadyH.cons (o := ⟨some 18, _, _, _, _, _⟩) rfl (fun K hK => ?_) AllReadyH.nil
  go_simp
  (with_reducible refine (cmpI_g _ _ x _ hx).mono ?_)
  rintro e wq12 ⟨rfl, hb⟩
  (try dsimp only)
  refine hK.out _ _ (KEEP _ _ hb hHeld) (fun hNext => ?_)
  clear hK K hHeld hb
  have hHeld := hNext
  clear hNext
  try simp only [Act.put, List.setIfInBounds_toArray, List.set_cons_zero, List.set_cons_succ]
  refine wpAnyH_ready (rs := [15]) (by kernel_rfl) (by simp) ?_
  refine AllReadyH.cons (o := ⟨some 21, _, _, _, _, _⟩) rfl (fun K hK => ?_) AllReadyH.nil
  go_simp
  (with_reducible refine (cmpI_g _ _ y _ hy).mono ?_)
  rintro e wq15 ⟨rfl, hb⟩
  (try dsimp only)
  refine hK.out _ _ (KEEP _ _ hb hHeld) (fun hNext => ?_)
  clear hK K hHeld hb
  have hHeld := hNext
  clear hNext
  try simp only [Act.put, List.setIfInBounds_toArray, List.set_cons_zero, List.set_cons_succ]
  refine wpAnyH_ready (rs := [16]) (by kernel_rfl) (by simp) ?_
  refine AllReadyH.cons (o := ⟨some 22, _, _, _, _, _⟩) rfl (fun K hK => ?_) AllReadyH.nil
  go_simp
  have hb := Grew.alloc1 wq15 (.cells #[.int .i64 x, .int .i64 y] 3)
  have N : Blk (wq15.alloc (.cells #[.int .i64 x, .int .i64 y] 3)) wq15.heap.size 3 #[.int .i64 x, .int .i64 y] := Blk.new wq15 _ _
  have n0 := N.cell 0
  have n1 := N.cell 1
  refine hK.out _ _ (KEEP _ _ hb hHeld) (fun hNext => ?_)
  clear hK K hHeld hb N
  have hHeld := hNext
  clear hNext
  try simp only [Act.put, List.setIfInBounds_toArray, List.set_cons_zero, List.set_cons_succ]
  refine wpAnyH_ready (rs := [17]) (by kernel_rfl) (by simp) ?_
  refine AllReadyH.cons (o := ⟨some 23, _, _, _, _, _⟩) rfl (fun K hK => ?_) AllReadyH.nil
  go_simp
  (with_reducible refine (or2_g x y r _ _ hr ⟨n0, n1⟩).mono ?_)
  rintro e wq17 ⟨rfl, hb⟩
  (try dsimp only)
  refine hK.out _ _ (KEEP _ _ hb hHeld) (fun hNext => ?_)
  clear hK K hHeld hb
  have hHeld := hNext
  clear hNext
  try simp only [Act.put, List.setIfInBounds_toArray, List.set_cons_zero, List.set_cons_succ]
  refine wpAnyH_take (i := 18) (oi := ⟨some 5, _, _, _, _, _⟩) (v := ?vu18) rfl (by kernel_rfl) (by kernel_rfl) (by kernel_rfl) (fun _ _ _ h => h) (Or.inl ⟨by rfl, ?yu18⟩) hHeld ?ru18
  case yu18 => (intro w' hSw; (try dsimp only at hSw); go_simp; try (with_reducible rfl))
  simp only [Act.put, List.setIfInBounds_toArray, List.set_cons_zero, List.set_cons_succ]
  refine wpAnyH_done (by kernel_rfl) ?_ _
  clear KEEP
  have G := hHeld.1
  clear hHeld
  go_wp2
  go_ret
  exact ⟨rfl, G⟩
end Go.Proofs

namespace Go.Proofs
open Go.Shelf
def Try.sortF_ren : Go.Shelf.Ren := ⟨fun | 6 => 53 | 15 => 60 | 14 => 66 | 28 => 78 | 29 => 79 | 20 => 83 | 21 => 84 | 22 => 85 | 23 => 86 | 24 => 87 | 25 => 88 | 26 => 89 | 27 => 90 | 46 => 96 | 47 => 92 | 48 => 93 | 49 => 97 | 50 => 98 | 57 => 100 | n => n, fun | 22 => 68 | 24 => 3 | 25 => 83 | 3 => 3 | 39 => 66 | 0 => 0 | 53 => 102 | 55 => 23 | 4 => 4 | 46 => 94 | 45 => 93 | 50 => 99 | 5 => 5 | 9 => 9 | 66 => 108 | 70 => 112 | 76 => 116 | 77 => 117 | n => n, fun | n => n⟩
theorem Try.sortF : Go.Proofs.SlLaysF.n6 Try.prog Try.sortF_ren := {
  mixed := by kernel_rfl
  f6 := ⟨Try.f53.name, by decide, Try.func53.trans (congrArg some (by kernel_rfl))⟩
  f14 := ⟨Try.f66.name, by decide, Try.func66.trans (congrArg some (by kernel_rfl))⟩
  f15 := Try.func60.trans (congrArg some (by kernel_rfl))
  f20 := ⟨Try.f83.name, by decide, Try.func83.trans (congrArg some (by kernel_rfl))⟩
  f21 := ⟨Try.f84.name, by decide, Try.func84.trans (congrArg some (by kernel_rfl))⟩
  f22 := ⟨Try.f85.name, by decide, Try.func85.trans (congrArg some (by kernel_rfl))⟩
  f23 := ⟨Try.f86.name, by decide, Try.func86.trans (congrArg some (by kernel_rfl))⟩
  f24 := ⟨Try.f87.name, by decide, Try.func87.trans (congrArg some (by kernel_rfl))⟩
  f25 := ⟨Try.f88.name, by decide, Try.func88.trans (congrArg some (by kernel_rfl))⟩
  f26 := ⟨Try.f89.name, by decide, Try.func89.trans (congrArg some (by kernel_rfl))⟩
  f27 := ⟨Try.f90.name, by decide, Try.func90.trans (congrArg some (by kernel_rfl))⟩
  f28 := Try.func78.trans (congrArg some (by kernel_rfl))
  f29 := Try.func79.trans (congrArg some (by kernel_rfl))
  f46 := ⟨Try.f96.name, by decide, Try.func96.trans (congrArg some (by kernel_rfl))⟩
  f47 := Try.func92.trans (congrArg some (by kernel_rfl))
  f48 := Try.func93.trans (congrArg some (by kernel_rfl))
  f49 := ⟨Try.f97.name, by decide, Try.func97.trans (congrArg some (by kernel_rfl))⟩
  f50 := ⟨Try.f98.name, by decide, Try.func98.trans (congrArg some (by kernel_rfl))⟩
  f57 := ⟨Try.f100.name, by decide, Try.func100.trans (congrArg some (by kernel_rfl))⟩
  t0 := Try.underlying0
  a0 := Try.isAgg0
  z0 := Try.sizeOf0
  v0 := Try.zeroValue0
  t3 := Try.underlying3
  a3 := Try.isAgg3
  z3 := Try.sizeOf3
  v3 := Try.zeroValue3
  t4 := Try.underlying4
  a4 := Try.isAgg4
  z4 := Try.sizeOf4
  v4 := Try.zeroValue4
  t5 := Try.underlying5
  a5 := Try.isAgg5
  z5 := Try.sizeOf5
  v5 := Try.zeroValue5
  t9 := Try.underlying9
  a9 := Try.isAgg9
  z9 := Try.sizeOf9
  v9 := Try.zeroValue9
  t22 := Try.underlying68
  a22 := Try.isAgg68
  z22 := Try.sizeOf68
  v22 := Try.zeroValue68
  a24 := Try.isAgg3
  z24 := Try.sizeOf3
  t25 := Try.underlying83
  a25 := Try.isAgg83
  z25 := Try.sizeOf83
  v25 := Try.zeroValue83
  t39 := Try.underlying66
  a39 := Try.isAgg66
  z39 := Try.sizeOf66
  v39 := Try.zeroValue66
  t45 := Try.underlying93
  a45 := Try.isAgg93
  z45 := Try.sizeOf93
  v45 := Try.zeroValue93
  t46 := Try.underlying94
  a46 := Try.isAgg94
  z46 := Try.sizeOf94
  v46 := Try.zeroValue94
  t50 := Try.underlying99
  a50 := Try.isAgg99
  z50 := Try.sizeOf99
  v50 := Try.zeroValue99
  t53 := Try.underlying102
  a53 := Try.isAgg102
  z53 := Try.sizeOf102
  v53 := Try.zeroValue102
  t55 := Try.underlying23
  a55 := Try.isAgg23
  z55 := Try.sizeOf23
  v55 := Try.zeroValue23
  t66 := Try.underlying108
  a66 := Try.isAgg108
  z66 := Try.sizeOf108
  v66 := Try.zeroValue108
  t70 := Try.underlying112
  a70 := Try.isAgg112
  z70 := Try.sizeOf112
  v70 := Try.zeroValue112
  t76 := Try.underlying116
  a76 := Try.isAgg116
  z76 := Try.sizeOf116
  v76 := Try.zeroValue116
  t77 := Try.underlying117
  a77 := Try.isAgg117
  z77 := Try.sizeOf117
  v77 := Try.zeroValue117 }
def Try.sortI_ren : Go.Shelf.Ren := ⟨fun | 189 => 46 | 125 => 60 | 257 => 59 | 128 => 78 | 129 => 79 | 294 => 69 | 295 => 70 | 296 => 71 | 297 => 72 | 298 => 73 | 299 => 74 | 216 => 75 | 300 => 76 | 301 => 77 | 328 => 91 | 329 => 92 | 330 => 93 | 331 => 94 | 332 => 95 | 215 => 67 | 343 => 99 | n => n, fun | 28 => 68 | 3 => 3 | 46 => 66 | 0 => 0 | 51 => 102 | 53 => 23 | 4 => 4 | 183 => 94 | 182 => 93 | 131 => 99 | 5 => 5 | 9 => 9 | 218 => 108 | 222 => 112 | 228 => 116 | 229 => 117 | n => n, fun | n => n⟩
theorem Try.sortI : Go.Proofs.Lays.n189 Try.prog Try.sortI_ren := {
  mixed := by kernel_rfl
  f125 := Try.func60.trans (congrArg some (by kernel_rfl))
  f128 := Try.func78.trans (congrArg some (by kernel_rfl))
  f129 := Try.func79.trans (congrArg some (by kernel_rfl))
  f189 := Try.func46.trans (congrArg some (by kernel_rfl))
  f215 := Try.func67.trans (congrArg some (by kernel_rfl))
  f216 := Try.func75.trans (congrArg some (by kernel_rfl))
  f257 := Try.func59.trans (congrArg some (by kernel_rfl))
  f294 := Try.func69.trans (congrArg some (by kernel_rfl))
  f295 := Try.func70.trans (congrArg some (by kernel_rfl))
  f296 := Try.func71.trans (congrArg some (by kernel_rfl))
  f297 := Try.func72.trans (congrArg some (by kernel_rfl))
  f298 := Try.func73.trans (congrArg some (by kernel_rfl))
  f299 := Try.func74.trans (congrArg some (by kernel_rfl))
  f300 := Try.func76.trans (congrArg some (by kernel_rfl))
  f301 := Try.func77.trans (congrArg some (by kernel_rfl))
  f328 := Try.func91.trans (congrArg some (by kernel_rfl))
  f329 := Try.func92.trans (congrArg some (by kernel_rfl))
  f330 := Try.func93.trans (congrArg some (by kernel_rfl))
  f331 := Try.func94.trans (congrArg some (by kernel_rfl))
  f332 := Try.func95.trans (congrArg some (by kernel_rfl))
  f343 := Try.func99.trans (congrArg some (by kernel_rfl))
  t0 := Try.underlying0
  a0 := Try.isAgg0
  z0 := Try.sizeOf0
  v0 := Try.zeroValue0
  t3 := Try.underlying3
  a3 := Try.isAgg3
  z3 := Try.sizeOf3
  v3 := Try.zeroValue3
  t4 := Try.underlying4
  a4 := Try.isAgg4
  z4 := Try.sizeOf4
  v4 := Try.zeroValue4
  t5 := Try.underlying5
  a5 := Try.isAgg5
  z5 := Try.sizeOf5
  v5 := Try.zeroValue5
  t9 := Try.underlying9
  a9 := Try.isAgg9
  z9 := Try.sizeOf9
  v9 := Try.zeroValue9
  t28 := Try.underlying68
  a28 := Try.isAgg68
  z28 := Try.sizeOf68
  v28 := Try.zeroValue68
  t46 := Try.underlying66
  a46 := Try.isAgg66
  z46 := Try.sizeOf66
  v46 := Try.zeroValue66
  t51 := Try.underlying102
  a51 := Try.isAgg102
  z51 := Try.sizeOf102
  v51 := Try.zeroValue102
  t53 := Try.underlying23
  a53 := Try.isAgg23
  z53 := Try.sizeOf23
  v53 := Try.zeroValue23
  t131 := Try.underlying99
  a131 := Try.isAgg99
  z131 := Try.sizeOf99
  v131 := Try.zeroValue99
  t182 := Try.underlying93
  a182 := Try.isAgg93
  z182 := Try.sizeOf93
  v182 := Try.zeroValue93
  t183 := Try.underlying94
  a183 := Try.isAgg94
  z183 := Try.sizeOf94
  v183 := Try.zeroValue94
  t218 := Try.underlying108
  a218 := Try.isAgg108
  z218 := Try.sizeOf108
  v218 := Try.zeroValue108
  t222 := Try.underlying112
  a222 := Try.isAgg112
  z222 := Try.sizeOf112
  v222 := Try.zeroValue112
  t228 := Try.underlying116
  a228 := Try.isAgg116
  z228 := Try.sizeOf116
  v228 := Try.zeroValue116
  t229 := Try.underlying117
  a229 := Try.isAgg117
  z229 := Try.sizeOf117
  v229 := Try.zeroValue117 }
end Go.Proofs

namespace Go.Proofs.Hd
open Go.RowKit Go.Sort Go.Shelf Go.Lib
/-- Numbers as cells. -/
def ints (ks : List Nat) : List Value := ks.map fun (k : Nat) => Value.int .i64 (k : Int)
theorem ints_len (ks : List Nat) : (ints ks).length = ks.length := by simp [ints]
theorem ints_snoc (ks : List Nat) (k : Nat) : ints (ks ++ [k]) = ints ks ++ [.int .i64 (k : Int)] := by simp [ints]
/-- v is a slice that reads as the numbers ks. -/
def PlI (w : World) (v : Value) (ks : List Nat) : Prop := (ks = [] ∧ ∃ A cap, v = .slice A 0 cap) ∨ ∃ g cap, v = .slice (some ⟨g, 0, none⟩) ks.length cap ∧ g < w.heap.size ∧ ∀ (j k : Nat), ks[j]? = some k → w.cell? ⟨g, j, none⟩ = some (.int .i64 (k : Int))
theorem PlI.on {w w' : World} {v : Value} {ks : List Nat} (h : PlI w v ks) (hb : Below w.heap.size w w') : PlI w' v ks := by
  rcases h with h | ⟨g, cap, e, hg, h⟩
  · exact .inl h
  · exact .inr ⟨g, cap, e, Nat.lt_of_lt_of_le hg hb.size, fun j k hk => on_some hb (h j k hk)⟩
/-- How many bits cube number k of a list cares for. -/
def szAt (L : List Cb) (k : Nat) : Int := match L[k]? with
  | some c => ((ones c.ch + ones c.cl : Nat) : Int)
  | none => 0
theorem szAt_some {L : List Cb} {k : Nat} {c : Cb} (h : L[k]? = some c) : szAt L k = ((ones c.ch + ones c.cl : Nat) : Int) := by unfold szAt; rw [h]
def cfW (L : List Cb) (x y : {k : Nat // k < L.length}) : Int := or2 (icmp (szAt L x.1) (szAt L y.1)) (icmp (x.1 : Int) (y.1 : Int))
theorem ltW (L : List Cb) (x y : {k : Nat // k < L.length}) : ltOf (cfW L) x y = decide (szAt L x.1 < szAt L y.1 ∨ (szAt L x.1 = szAt L y.1 ∧ x.1 < y.1)) := by
  unfold ltOf cfW or2 icmp
  by_cases h1 : szAt L x.1 < szAt L y.1
  · simp [h1]
  · by_cases h2 : szAt L y.1 < szAt L x.1
    · have : ¬ szAt L x.1 = szAt L y.1 := by omega
      simp [h1, h2, this]
    · have : szAt L x.1 = szAt L y.1 := by omega
      by_cases h3 : x.1 < y.1
      · simp [this, h3]
      · by_cases h4 : y.1 < x.1 <;> simp [this, h3, h4]
theorem swoW (L : List Cb) : SWO (ltOf (cfW L)) where
  irrefl x := by rw [ltW]; simp
  trans x y z h1 h2 := by rw [ltW, decide_eq_true_eq] at *; omega
  ntrans x y z h1 h2 := by rw [ltW, decide_eq_false_iff_not] at *; omega
/-- Number a stands ahead of number b, or is it. -/
def wle (L : List Cb) (a b : Nat) : Prop := szAt L a < szAt L b ∨ (szAt L a = szAt L b ∧ a ≤ b)
theorem sortWorld_cell {α : Type} [Inhabited α] (enc : α → Value) (w : World) (g off m : Nat) (dk : Array α) (os : Array Obj) (p : Addr) {u : Value} (hp : w.cell? p = some u) (hg : p.block ≠ g) : (sortWorld enc w g off m dk os).cell? p = some u := by
  have hl := World.block_lt_of_cell? w p hp
  unfold sortWorld
  rw [cell?_grow _ _ _ (by rw [size_putRow]; exact hl), cell?_putRow_other _ _ _ _ _ _ (.inl hg), cell?_ahead]
  exact hp
theorem sortWorld_grown {α : Type} [Inhabited α] (enc : α → Value) (w : World) (g off m : Nat) (dk : Array α) (os : Array Obj) : w.grownBy (sortWorld enc w g off m dk os) (some g) := by
  refine ⟨rfl, rfl, rfl, ?_, fun k hk hne => ?_⟩
  · unfold sortWorld; simp [grow]; try (unfold putRow mapBlock; simp [ahead])
  · unfold sortWorld
    rw [heap_grow_old _ _ (by rw [size_putRow]; exact hk)]
    unfold putRow mapBlock
    simp only [Array.getElem?_modify]
    rw [if_neg (fun e => hne (by rw [e]))]
    rfl
end Go.Proofs.Hd
namespace Go.Proofs
open Go.RowKit Go.Proofs.Hd Go.Sort Go.Shelf Go.Lib
theorem wide_sort (L : List Cb) (v : Value) (ks : List Nat) (base b off cap pb : Nat) (w : World) (hn : L.length ≤ maxLen) (hown : w.ownsRow base 3 1 v ks.length (ints ks)) (hks : ∀ k ∈ ks, k < L.length) (hsz : ks.length < 4611686018427387904)
    (hp : w.cell? ⟨pb, 0, none⟩ = some (.slice (some ⟨b, off, none⟩) L.length cap)) (hc : ∀ k c, L[k]? = some c → At4 w b (off + k * 4) c) (h1 : some pb ≠ v.ownBlock) (h2 : some b ≠ v.ownBlock) :
    Calls Try.prog 53 #[v, .func (.func 54) #[] #[.pointer (some ⟨pb, 0, none⟩)]] w fun e w' => e = .returned (.tuple #[]) ∧ w.grownBy w' v.ownBlock ∧ ∃ ks', ks'.Perm ks ∧ ks'.Pairwise (wle L) ∧ PlI w' v ks' := by
  rcases hown.2 with ⟨rfl, h0⟩ | ⟨g, cp, cur, rfl, hge, hheap, _⟩
  · have e : ks = [] := List.eq_nil_of_length_eq_zero h0
    subst e
    have hcon := AnyF.slices_SortFunc_none { Try.sortF with } none 0 (.func (.func 54) #[] #[.pointer (some ⟨pb, 0, none⟩)]) w
    change Calls Try.prog 53 _ _ _ at hcon
    refine hcon.mono ?_
    rintro e w' ⟨rfl, rfl⟩
    exact ⟨rfl, ⟨rfl, rfl, rfl, Nat.le_refl _, fun _ _ _ => rfl⟩, [], List.Perm.refl _, List.Pairwise.nil, .inl ⟨rfl, _, _, rfl⟩⟩
  · by_cases h0 : ks = []
    · subst h0
      have hcon := AnyF.slices_SortFunc_none { Try.sortF with } (some ⟨g, 0, none⟩) cp (.func (.func 54) #[] #[.pointer (some ⟨pb, 0, none⟩)]) w
      change Calls Try.prog 53 _ _ _ at hcon
      refine hcon.mono ?_
      rintro e w' ⟨rfl, rfl⟩
      exact ⟨rfl, ⟨rfl, rfl, rfl, Nat.le_refl _, fun _ _ _ => rfl⟩, [], List.Perm.refl _, List.Pairwise.nil, .inl ⟨rfl, _, _, rfl⟩⟩
    · have eg : ∀ args w, (callFunc 54 args).run Try.prog w = .ok (.enter 54 args) w := enters_of Try.func54 (by kernel_rfl) rfl
      obtain ⟨k0, hk0⟩ := List.exists_mem_of_ne_nil ks h0
      haveI : Inhabited {k : Nat // k < L.length} := ⟨⟨k0, hks k0 hk0⟩⟩
      let d : Array {k : Nat // k < L.length} := (ks.pmap (fun k h => ⟨k, h⟩) hks).toArray
      have dsz : d.size = ks.length := by simp [d]
      have dval : d.toList.map (·.1) = ks := by simp [d, List.map_pmap]
      have dget : ∀ j, j < d.size → ks[j]? = some (d[j]!).1 := fun j hj => by
        rw [← dval, List.getElem?_map, getElem!_pos d j hj]
        simp [hj]
      have n1 : pb ≠ g := fun e => h1 (by simp [Value.ownBlock, e])
      have n2 : b ≠ g := fun e => h2 (by simp [Value.ownBlock, e])
      have hH : Holds (fun x : {k : Nat // k < L.length} => Value.int .i64 (x.1 : Int)) w g 0 d := fun j hj => by
        constructor
        · rw [Nat.zero_add, hown.cellAt j (by omega)]
          unfold ints
          rw [List.getElem?_map, dget j hj]; rfl
        · exact hown.frozenAt _
      have hcmp : CmpLays1 Try.prog 54 #[.pointer (some ⟨pb, 0, none⟩)] (fun x : {k : Nat // k < L.length} => Value.int .i64 (x.1 : Int)) (cfW L) g 0 d.size w := fun m os dk _ x y => by
        obtain ⟨ci, hi⟩ : ∃ c, L[x.1]? = some c := ⟨_, List.getElem?_eq_getElem x.2⟩
        obtain ⟨cj, hj⟩ : ∃ c, L[y.1]? = some c := ⟨_, List.getElem?_eq_getElem y.2⟩
        have a1 := hc _ _ hi
        have a2 := hc _ _ hj
        exact wide1_g (szAt L x.1) (szAt L y.1) _ _ _ ci cj x.1 y.1 L.length b off cap pb _ x.2 y.2 hn (Lib.hid (szAt_some hi).symm) (Lib.hid (szAt_some hj).symm) rfl rfl rfl (sortWorld_cell _ _ _ _ _ _ _ _ hp n1)
          ⟨sortWorld_cell _ _ _ _ _ _ _ _ a1.1 n2, sortWorld_cell _ _ _ _ _ _ _ _ a1.2.1 n2, sortWorld_cell _ _ _ _ _ _ _ _ a1.2.2.1 n2, sortWorld_cell _ _ _ _ _ _ _ _ a1.2.2.2 n2⟩
          ⟨sortWorld_cell _ _ _ _ _ _ _ _ a2.1 n2, sortWorld_cell _ _ _ _ _ _ _ _ a2.2.1 n2, sortWorld_cell _ _ _ _ _ _ _ _ a2.2.2.1 n2, sortWorld_cell _ _ _ _ _ _ _ _ a2.2.2.2 n2⟩
      have hlt : g < w.heap.size := by
        rcases Nat.lt_or_ge g w.heap.size with h | h
        · exact h
        · rw [Array.getElem?_eq_none h] at hheap; cases hheap
      have hcon := Any.slices_SortFunc Try.sortF (fun x : {k : Nat // k < L.length} => Value.int .i64 (x.1 : Int)) (fun _ => rfl) (cfW L) (swoW L) 54 #[.pointer (some ⟨pb, 0, none⟩)] g 0 cp d w eg hcmp hH hlt (by omega)
      change Calls Try.prog 53 _ _ _ at hcon
      rw [dsz] at hcon
      refine hcon.mono ?_
      rintro e w' ⟨rfl, d', n, os, hperm, hsort, rfl⟩
      obtain ⟨hs1, _, hs3⟩ := hperm
      have hp3 : d'.toList.Perm d.toList := by
        have e1 : (d'.extract 0 ks.length).toList = d'.toList := by rw [show ks.length = d'.size by omega]; simp
        have e2 : (d.extract 0 ks.length).toList = d.toList := by rw [← dsz]; simp
        rw [e1, e2] at hs3; exact hs3
      refine ⟨rfl, sortWorld_grown _ _ _ _ _ _ _, d'.toList.map (·.1), by rw [← dval]; exact hp3.map _, ?_, .inr ⟨g, cp, ?_, ?_, fun j k hk => ?_⟩⟩
      · rw [List.pairwise_map, List.pairwise_iff_getElem]
        intro i j hi hj hij
        have hi' : i < d'.size := by simpa using hi
        have hj' : j < d'.size := by simpa using hj
        have := hsort i j (Nat.zero_le _) hij (by omega)
        rw [ltW, decide_eq_false_iff_not, getElem!_pos d' i hi', getElem!_pos d' j hj'] at this
        simp only [Array.getElem_toList]
        unfold wle
        omega
      · simp; omega
      · have := (sortWorld_grown (fun x : {k : Nat // k < L.length} => Value.int .i64 (x.1 : Int)) w g 0 n d' os).size
        omega
      · have hjl : j < d'.size := by have := (List.getElem?_eq_some_iff.1 hk).1; simpa using this
        unfold sortWorld
        rw [cell?_grow _ _ _ (by rw [size_putRow]; exact hlt)]
        have := cell?_putRow (fun x : {k : Nat // k < L.length} => Value.int .i64 (x.1 : Int)) (Sort.ahead w n) g 0 d d' hH hs1 j hjl
        rw [Nat.zero_add] at this
        rw [this]
        rw [List.getElem?_map] at hk
        have e : d'.toList[j]? = some d'[j]! := by rw [getElem!_pos d' j hjl]; simp [hjl]
        rw [e] at hk
        simp only [Option.map_some, Option.some.injEq] at hk
        rw [hk]
end Go.Proofs

namespace Go.Proofs.Hd
open Go.RowKit Go.Sort Go.Shelf Go.Lib
def sndAt (L : List Cb) (i : Nat) : Bool := match L[i]? with
  | some c => c.snd
  | none => false
theorem sndAt_some {L : List Cb} {k : Nat} {c : Cb} (h : L[k]? = some c) : sndAt L k = c.snd := by unfold sndAt; rw [h]
/-- The places of the sound cubes among the first k. -/
def sI (L : List Cb) (k : Nat) : List Nat := (List.range k).filter (sndAt L)
theorem sI_succ (L : List Cb) (k : Nat) : sI L (k + 1) = if sndAt L k = true then sI L k ++ [k] else sI L k := by
  unfold sI
  rw [List.range_succ, List.filter_append]
  cases h : sndAt L k <;> simp [h]
theorem sI_len (L : List Cb) (k : Nat) : (sI L k).length ≤ k := by
  unfold sI
  exact Nat.le_trans (List.length_filter_le _ _) (by simp)
theorem sI_lt (L : List Cb) : ∀ k ∈ sI L L.length, k < L.length := fun k hk => by
  unfold sI at hk
  simpa using (List.mem_filter.1 hk).1
/-- What pile.widestFirst holds in memory. -/
structure Wd (w wr : World) (v s : Value) (ks : List Nat) : Prop where
  bel : Below w.heap.size w wr
  box : Blk wr w.heap.size 22 #[v]
  own : wr.ownsRow (w.heap.size + 1) 3 1 s ks.length (ints ks)
theorem Wd.on {w wr w2 : World} {v s : Value} {ks : List Nat} (h : Wd w wr v s ks) (hb : Below wr.heap.size wr w2) : Wd w w2 v s ks :=
  ⟨h.bel.trans (hb.mono h.bel.size), h.box.on hb, own_on h.own hb⟩
theorem Wd.append {w wr w2 : World} {v s s' : Value} {ks : List Nat} {k : Nat} (h : Wd w wr v s ks) (hg : wr.grownBy w2 s.ownBlock)
    (hown : w2.ownsRow (w.heap.size + 1) 3 1 s' (ks.length + 1) (ints ks ++ [.int .i64 (k : Int)])) : Wd w w2 v s' (ks ++ [k]) := by
  have hz := h.bel.size
  refine ⟨h.bel.grown hg hz (fun j hj => by have := (h.own.lt j hj).1; omega), h.box.grown hg (own_base h.own (by omega)), ?_⟩
  rw [ints_snoc]; simpa using hown
end Go.Proofs.Hd
namespace Go.Proofs
open Go.RowKit Go.Proofs.Hd Go.Sort Go.Shelf Go.Lib
attribute [local go_sem] uv_nonneg
theorem infoInt : (Try.prog.info? 3).map (fun i => (i.zero, i.size, i.bytes)) = some (some (.int .i64 0), 1, 8) := by kernel_rfl
set_option maxHeartbeats 2000000 in
set_option maxRecDepth 100000 in
theorem widest_c (v : Value) (L : List Cb) (w : World) (hl : L.length ≤ 1000000) (hv : Pl w v L) :
    Calls Try.prog 42 #[v] w fun e w' => ∃ s ks, e = .returned s ∧ Below w.heap.size w w' ∧ ks.Perm (sI L L.length) ∧ ks.Pairwise (wle L) ∧ PlI w' s ks := by
  rcases hv with ⟨rfl, A, cap, rfl⟩ | ⟨b, off, cap, rfl, hlen, hb, hc⟩
  · have B0 := below1 w (.cells #[.slice A 0 cap] 22)
    have hcon := AnyF.slices_SortFunc_none { Try.sortF with } none 0 (.func (.func 54) #[] #[.pointer (some ⟨w.heap.size, 0, none⟩)]) (w.alloc (.cells #[.slice A 0 cap] 22))
    change Calls Try.prog 53 _ _ _ at hcon
    go_enter Try.func42, Try.ntmps42
    go_wp2
    refine wp_loop_rounds 1 ?_
    rw [rounds_succ]
    go_wp2_with (go_at_call 53; refine hcon.mono ?_; rintro e w' ⟨rfl, rfl⟩)
    go_ret
    exact ⟨_, [], rfl, B0, List.Perm.refl _, List.Pairwise.nil, .inl ⟨rfl, _, _, rfl⟩⟩
  · have hlz : (L.length : Int) ≤ 1000000 := by omega
    have HC := Lib.hid hc
    have W0 : Wd w (w.alloc (.cells #[.slice (some ⟨b, off, none⟩) L.length cap] 22)) (.slice (some ⟨b, off, none⟩) L.length cap) (.slice none 0 0) (sI L 0) := ⟨below1 _ _, Blk.new _ _ _, World.ownsRow_nil _ _ _ _⟩
    have HW := Lib.hid W0
    clear hc W0
    go_enter Try.func42, Try.ntmps42
    go_wp2
    go_loopg [3, 8] L.length (fun gk s i wr => ∃ k : Nat, k ≤ L.length ∧ gk = L.length - k ∧ i = .int .i64 k ∧ Wd w wr (.slice (some ⟨b, off, none⟩) L.length cap) s (sI L k))
    case atStart => exact ⟨0, Nat.zero_le _, rfl, rfl, HW.out⟩
    case round =>
      clear HW
      obtain ⟨k, hk, rfl, rfl, H⟩ := hrel
      by_cases hlt : k < L.length
      · have hltz : (k : Int) < (L.length : Int) := by omega
        obtain ⟨c, hc⟩ : ∃ c, L[k]? = some c := ⟨_, List.getElem?_eq_getElem hlt⟩
        obtain ⟨c0, c1, c2, c3⟩ := (HC.out k c hc).on (w' := wr) H.bel
        have B := Lib.hid hc
        clear hc
        have hb1 := below1 wr (.cells #[.int .u64 (uv c.vh), .int .u64 (uv c.vl), .int .u64 (uv c.ch), .int .u64 (uv c.cl)] 32)
        have H1 := H.on hb1
        clear H
        have hsl := sI_len L k
        cases hs : c.snd with
        | false =>
          have HN : Hid (sI L (k + 1) = sI L k) := Lib.hid (by rw [sI_succ, sndAt_some B.out, hs, if_neg (by simp)])
          go_wp2_with fail
          (with_reducible refine (csound _ c _ hs).mono ?_)
          rintro e w2 ⟨rfl, hb2⟩
          have H2 := H1.on hb2
          clear H1 hb1 hb2 c0 c1 c2 c3
          go_wp2
          go_roundg (L.length - (k + 1))
          case measure => omega
          case rel => exact ⟨k + 1, by omega, rfl, by go_num, by rw [HN.out]; exact H2⟩
        | true =>
          have HN : Hid (sI L (k + 1) = sI L k ++ [k]) := Lib.hid (by rw [sI_succ, sndAt_some B.out, hs, if_pos rfl])
          go_wp2_with fail
          (with_reducible refine (csound _ c _ hs).mono ?_)
          rintro e w2 ⟨rfl, hb2⟩
          have H2 := H1.on hb2
          clear H1 hb1 hb2 c0 c1 c2 c3
          have N3 : Blk (w2.alloc (.cells #[.int .i64 (k : Int)] 3)) w2.heap.size 3 #[.int .i64 (k : Int)] := Blk.new w2 _ _
          have H3 := H2.on (below1 w2 (.cells #[.int .i64 (k : Int)] 3))
          obtain ⟨i0, hi0, hz0, hz1, hz2⟩ := info_parts infoInt
          go_wp2_with (at_builtin; refine wpList_append_lies _ rfl (.tmp 15) (.tmp 17) 68 rfl (w.heap.size + 1) 3 i0 _ 1 8 Try.underlying68 hi0 hz0 hz1 hz2 rfl (by decide) _ (sI L k).length (ints (sI L k)) rfl H3.own ⟨w2.heap.size, 0, none⟩ 1 1 [.int .i64 (k : Int)] rfl rfl (World.news_of_block N3) (by intro u hu; simp only [List.mem_singleton] at hu; subst hu; rfl) (by omega) (by unfold maxLen; omega) (by omega) (H3.box.lt) _ rfl ?_)
          intro g2 cap2 w4 hown hgrow hat hgl
          have H4 := H3.append hgrow hown
          clear H2 H3 N3 hi0 hz0 hz1 hz2 hown hgrow hat hgl
          go_wp2
          go_roundg (L.length - (k + 1))
          case measure => omega
          case rel => exact ⟨k + 1, by omega, rfl, by go_num, by rw [HN.out]; exact H4⟩
      · have hltz : ¬ (k : Int) < (L.length : Int) := by omega
        obtain rfl : k = L.length := by omega
        have hsl := sI_len L L.length
        have hcon := wide_sort L _ (sI L L.length) (w.heap.size + 1) b off cap w.heap.size wr hlen H.own (sI_lt L) (by omega) (H.box.cell 0) (fun k c hk => (HC.out k c hk).on H.bel) (own_base H.own (by omega)) (own_base H.own (by omega))
        have HB : Hid (∀ w', wr.grownBy w' u3.ownBlock → Below w.heap.size w w') := fun w' hg => H.bel.grown hg H.bel.size (fun j hj => by have := (H.own.lt j hj).1; omega)
        clear H HC
        go_wp2_with (go_at_call 53; refine hcon.mono ?_; rintro e w' ⟨rfl, hg, ks', hp1, hp2, hp3⟩)
        go_ret
        exact ⟨_, ks', rfl, HB.out _ hg, hp1, hp2, hp3⟩
end Go.Proofs

namespace Go.Proofs.Hd
open Go.RowKit
theorem szAt_size {L : List Cb} {k : Nat} {c : Cb} (h : L[k]? = some c) : szAt L k = (c.size : Int) := by
  rw [szAt_some h]
  have : c.size = ones c.ch + ones c.cl := cnt_128 c.ch c.cl
  rw [this]
def witAt (L : List Cb) (n k : Nat) : Bool := match L[n]?, L[k]? with
  | some a, some b => a.wit b
  | _, _ => false
theorem witAt_some {L : List Cb} {n k : Nat} {a b : Cb} (h1 : L[n]? = some a) (h2 : L[k]? = some b) : witAt L n k = a.wit b := by unfold witAt; rw [h1, h2]
theorem witAt_true {L : List Cb} {n k : Nat} {a : Cb} (h1 : L[n]? = some a) (h : witAt L n k = true) : ∃ b, L[k]? = some b ∧ a.wit b = true := by
  unfold witAt at h
  rw [h1] at h
  cases h2 : L[k]? with
  | none => rw [h2] at h; cases h
  | some b => rw [h2] at h; exact ⟨b, rfl, h⟩
theorem sI_mem {L : List Cb} {k : Nat} : k ∈ sI L L.length ↔ ∃ c, L[k]? = some c ∧ c.snd = true := by
  unfold sI
  rw [List.mem_filter, List.mem_range]
  constructor
  · rintro ⟨h1, h2⟩
    refine ⟨_, List.getElem?_eq_getElem h1, ?_⟩
    rw [← sndAt_some (List.getElem?_eq_getElem h1)]; exact h2
  · rintro ⟨c, hc, hs⟩
    exact ⟨(List.getElem?_eq_some_iff.1 hc).1, by rw [sndAt_some hc]; exact hs⟩
theorem sI_nodup (L : List Cb) (n : Nat) : (sI L n).Nodup := List.Nodup.sublist List.filter_sublist List.nodup_range
theorem sI_sorted (L : List Cb) (n : Nat) : (sI L n).Pairwise (· < ·) := List.Pairwise.sublist List.filter_sublist List.pairwise_lt_range
/-- What was ahead of place i, if it is to be ahead by the order. -/
theorem ahead_of {L : List Cb} {ks : List Nat} (hs : ks.Pairwise (wle L)) {i n m : Nat} (hn : ks[i]? = some n) (hm : m ∈ ks) (hne : m ≠ n) (hle : wle L m n) : m ∈ ks.take i := by
  obtain ⟨j, hj⟩ := List.mem_iff_getElem?.1 hm
  obtain ⟨hj1, hj2⟩ := List.getElem?_eq_some_iff.1 hj
  obtain ⟨hi1, hi2⟩ := List.getElem?_eq_some_iff.1 hn
  rcases Nat.lt_trichotomy j i with h | h | h
  · refine List.mem_iff_getElem?.2 ⟨j, ?_⟩
    rw [List.getElem?_take_of_lt h]; exact hj
  · subst h; exact absurd (hj2.symm.trans hi2) hne
  · have := (List.pairwise_iff_getElem.1 hs) i j hi1 hj1 h
    rw [hi2, hj2] at this
    unfold wle at this hle
    exact absurd (show m = n by omega) hne
theorem behind_of {L : List Cb} {ks : List Nat} (hnd : ks.Nodup) (hs : ks.Pairwise (wle L)) {i n m : Nat} (hn : ks[i]? = some n) (hm : m ∈ ks.take i) : m ≠ n ∧ wle L m n := by
  obtain ⟨j, hj⟩ := List.mem_iff_getElem?.1 hm
  have hji : j < i := by
    have := (List.getElem?_eq_some_iff.1 hj).1
    simp at this; omega
  rw [List.getElem?_take_of_lt hji] at hj
  obtain ⟨hj1, hj2⟩ := List.getElem?_eq_some_iff.1 hj
  obtain ⟨hi1, hi2⟩ := List.getElem?_eq_some_iff.1 hn
  refine ⟨fun e => ?_, ?_⟩
  · have := (List.pairwise_iff_getElem.1 hnd) j i hj1 hi1 hji
    rw [hj2, hi2] at this; exact this e
  · have := (List.pairwise_iff_getElem.1 hs) j i hj1 hi1 hji
    rw [hj2, hi2] at this; exact this
/-- The places that are kept so far. -/
def keptOf (L : List Cb) (ks : List Nat) (i : Nat) : List Nat := (ks.take i).filter fun m => !spare L m
theorem spare_kept {L : List Cb} {ks : List Nat} (hp : ks.Perm (sI L L.length)) (hs : ks.Pairwise (wle L)) {i n : Nat} (hn : ks[i]? = some n) : ((keptOf L ks i).any fun k => witAt L n k) = spare L n := by
  have hnd : ks.Nodup := hp.symm.nodup (sI_nodup L _)
  obtain ⟨a, ha, has⟩ := sI_mem.1 (hp.mem_iff.1 (List.mem_of_getElem? hn))
  rw [Bool.eq_iff_iff, List.any_eq_true]
  constructor
  · rintro ⟨k, hk, hw⟩
    unfold keptOf at hk
    obtain ⟨hk1, hk2⟩ := List.mem_filter.1 hk
    obtain ⟨b, hb, hwb⟩ := witAt_true ha hw
    obtain ⟨hne, hle⟩ := behind_of hnd hs hn hk1
    refine (spare_iff ha).2 ⟨k, b, hb, hne, hwb, ?_⟩
    by_cases e : a = b
    · right
      subst e
      unfold wle at hle
      rw [szAt_size ha, szAt_size hb] at hle
      omega
    · exact .inl e
  · intro hsp
    obtain ⟨k, b, hb, hkn, hwb, hor⟩ := (spare_iff ha).1 hsp
    have hbs := ((Cb.wit_iff a b).1 hwb).2.1
    obtain ⟨c, hc, hwc⟩ := kept_over (L := L) b.size k b (Nat.le_refl _) hb hbs
    obtain ⟨m, hm, hms⟩ := leanL_mem.1 hc
    have hac := wit_trans hwb hwc
    have hcs := ((Cb.wit_iff b c).1 hwc).2.1
    have hmn : m ≠ n := fun e => by subst e; rw [hsp] at hms; cases hms
    have hle : wle L m n := by
      unfold wle
      rw [szAt_size ha, szAt_size hm]
      have s1 := wit_size hwb
      have s2 := wit_size hwc
      by_cases hlt : c.size < a.size
      · left; omega
      · right
        have e1 := wit_same_size hwb (by omega)
        have e2 := wit_same_size hwc (by omega)
        subst e1 e2
        refine ⟨rfl, ?_⟩
        rcases Nat.lt_or_ge n m with h | h
        · exfalso
          have := (spare_iff hm).2 ⟨n, a, ha, fun e => hmn e.symm, wit_self has, .inr h⟩
          rw [this] at hms; cases hms
        · exact h
    refine ⟨m, List.mem_filter.2 ⟨ahead_of hs hn (hp.mem_iff.2 (sI_mem.2 ⟨c, hm, hcs⟩)) hmn hle, by rw [hms]; rfl⟩, ?_⟩
    rw [witAt_some ha hm]; exact hac
theorem keptOf_succ {L : List Cb} {ks : List Nat} {i n : Nat} (hn : ks[i]? = some n) : keptOf L ks (i + 1) = if spare L n = true then keptOf L ks i else keptOf L ks i ++ [n] := by
  obtain ⟨hi, rfl⟩ := List.getElem?_eq_some_iff.1 hn
  unfold keptOf
  rw [List.take_succ_eq_append_getElem hi, List.filter_append]
  cases h : spare L ks[i] <;> simp [h]
/-- The places of the cubes that remain, in order. -/
def leanI (L : List Cb) : List Nat := (sI L L.length).filter fun m => !spare L m
/-- A list without cubes that are not sound, and without those that lie within others. -/
def leanS (L : List Cb) : List Cb := (leanI L).filterMap fun i => L[i]?
theorem leanI_lt {L : List Cb} {i : Nat} (h : i ∈ leanI L) : i < L.length := sI_lt L i (List.mem_filter.1 h).1
theorem leanS_len (L : List Cb) : (leanS L).length = (leanI L).length := by
  unfold leanS
  have : ∀ I : List Nat, (∀ i ∈ I, i < L.length) → (I.filterMap fun i => L[i]?).length = I.length := by
    intro I
    induction I with
    | nil => intro _; rfl
    | cons i I ih =>
      intro h
      rw [List.filterMap_cons_some (List.getElem?_eq_getElem (h i (by simp)))]
      simp [ih (fun j hj => h j (by simp [hj]))]
  exact this _ (fun i hi => leanI_lt hi)
theorem keptOf_all {L : List Cb} {ks : List Nat} (hp : ks.Perm (sI L L.length)) : (keptOf L ks ks.length).Perm (leanI L) := by
  unfold keptOf leanI
  rw [List.take_length]
  exact hp.filter _
theorem keptOf_le {L : List Cb} {ks : List Nat} (hp : ks.Perm (sI L L.length)) (i : Nat) : (keptOf L ks i).length ≤ (leanS L).length := by
  rw [leanS_len, ← (keptOf_all hp).length_eq]
  unfold keptOf
  rw [List.take_length]
  exact ((List.take_sublist i ks).filter _).length_le
theorem keptOf_lt {L : List Cb} {ks : List Nat} {k : Nat} (hp : ks.Perm (sI L L.length)) (i : Nat) (h : k ∈ keptOf L ks i) : k < L.length := by
  unfold keptOf at h
  exact sI_lt L k (hp.mem_iff.1 (List.mem_of_mem_take (List.mem_filter.1 h).1))
theorem kept_sorted {L : List Cb} {ks : List Nat} (hp : ks.Perm (sI L L.length)) : (((keptOf L ks ks.length).map fun (k : Nat) => (k : Int)).mergeSort fun x y => decide (x ≤ y)) = (leanI L).map fun (k : Nat) => (k : Int) := by
  have tr : ∀ a b c : Int, (decide (a ≤ b)) = true → (decide (b ≤ c)) = true → (decide (a ≤ c)) = true := fun a b c h1 h2 => by simp at *; omega
  have tot : ∀ a b : Int, ((decide (a ≤ b)) || (decide (b ≤ a))) = true := fun a b => by simp; omega
  refine List.Perm.eq_of_pairwise (le := fun a b => decide (a ≤ b) = true) (fun a b _ _ h1 h2 => by simp at h1 h2; omega) (List.pairwise_mergeSort tr tot _) ?_ ((List.mergeSort_perm _ _).trans ((keptOf_all hp).map _))
  rw [List.pairwise_map]
  have : (leanI L).Pairwise (· < ·) := List.Pairwise.sublist List.filter_sublist (sI_sorted L _)
  exact this.imp fun {a b} h => by simp; omega
theorem leanS_mem {L : List Cb} {c : Cb} : c ∈ leanS L ↔ ∃ i, L[i]? = some c ∧ c.snd = true ∧ spare L i = false := by
  unfold leanS leanI
  rw [List.mem_filterMap]
  constructor
  · rintro ⟨i, hi, hc⟩
    obtain ⟨h1, h2⟩ := List.mem_filter.1 hi
    obtain ⟨d, hd, hs⟩ := sI_mem.1 h1
    rw [hc] at hd; injection hd with hd; subst hd
    exact ⟨i, hc, hs, by simpa using h2⟩
  · rintro ⟨i, hi, hs, hsp⟩
    exact ⟨i, List.mem_filter.2 ⟨sI_mem.2 ⟨c, hi, hs⟩, by rw [hsp]; rfl⟩, hi⟩
/-- The first k that remain. -/
theorem leanS_take (L : List Cb) (k i : Nat) (c : Cb) (hi : (leanI L)[k]? = some i) (hc : L[i]? = some c) : ((leanI L).take (k + 1)).filterMap (fun i => L[i]?) = ((leanI L).take k).filterMap (fun i => L[i]?) ++ [c] := by
  obtain ⟨hk, rfl⟩ := List.getElem?_eq_some_iff.1 hi
  rw [List.take_succ_eq_append_getElem hk, List.filterMap_append]
  congr 1
  simp [hc]
theorem take_len (L : List Cb) (k : Nat) (hk : k ≤ (leanI L).length) : (((leanI L).take k).filterMap (fun i => L[i]?)).length = k := by
  induction k with
  | zero => simp
  | succ k ih =>
    have hi := List.getElem?_eq_getElem (l := leanI L) (i := k) (by omega)
    rw [leanS_take L k _ _ hi (List.getElem?_eq_getElem (leanI_lt (List.mem_of_getElem? hi)))]
    simp [ih (by omega)]
end Go.Proofs.Hd
