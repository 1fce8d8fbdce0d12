/-
  Contracts of package cube: Meet, Within, Before, After: what they return, and that they change nothing that was there. Conditions as each theorem lists them.
  Contracts of package cube: Within: what they return, and that they change nothing that was there. Conditions as each theorem lists them.
  Contracts of cube's Meet, Within, Before and After for all inputs, each in one sentence. No conditions.
  Plain mathematics: the cubes of a difference: each lies within the first cube, and each header of the first cube is in just one of them or in the intersection. No conditions.
  Ports in memory; contracts of package rule: isPort, leadsWell, Sound. No conditions.
  How a rule handed in by value, a slice of rules and a slice of ports read. No conditions.
  Contracts of the inner functions of package head (isField, isNumber, lowest, below, shiftedDown, shiftedUp), of cmp.Compare and OnesCount64, of Ones and of Bit outside 0..127. Conditions as each theorem lists them.
  Contracts of Bit, Mask and Get of package head and of cmp.Or at two values. Conditions as each theorem lists them.
  Contracts of Put of package head: the field is set, or ErrArg, or ErrRange. Conditions as each theorem lists them.
  Contract of Compare of package head, and the calls at the numbers that the laws begin with. No conditions.
  The function awake of the laws of layer 1 returns true. No conditions.
  Plain facts on arrays of 128 bools as values in memory: no program in sight. No conditions.
  Contract: Bits of the reference of layer 1 returns the 128 bits of a header. No conditions.
  Plain facts on the number that some bits are. No conditions.
  Contract: Head of the reference of layer 1 returns the header of 128 bits. No conditions.
  Plain facts on arrays of 128 bools that a statement makes in whatever order: that they are there, and what they hold. No conditions.
  Plain facts: a cube as a text of 128 signs, the highest bit first; rows of 128 bytes in memory. No program in sight. No conditions.
  Plain facts on comparing headers bit by bit. No conditions.
-/
import Derived.Test.YtanliiopdhjhjaaJ1
import Derived.Deep.RegionWith
import Derived.Deep.Slices
import Derived.Deep.Strs
import Derived.Deep.MidRow
import Derived.Deep.WholeRow
import Derived.Below
import Derived.Deep.DeepCutAuto
import Derived.Deep.LoopGhost
import Derived.Deep.Light
import Derived.Lib.Hide
import Derived.Laws.IdiomStrings
import Derived.Laws.MakeOwn
namespace Go.Proofs
open Go.RowKit Go.Proofs.Hd
attribute [local go_sem] uv_and uv_or uv_xor uv_andNot uv_shr uv_shl uv_add uv_sub uv_nonneg
attribute [local go_sem high] run_eq2 run_eq4
set_option maxHeartbeats 1000000 in
theorem meet_no1 (avh avl ach acl bvh bvl bch bcl : BitVec 64) (w : World) (h1 : sndB avh avl ach acl = false) :
    Calls Try.prog 62 #[.agg #[.int .u64 (uv avh), .int .u64 (uv avl), .int .u64 (uv ach), .int .u64 (uv acl)], .agg #[.int .u64 (uv bvh), .int .u64 (uv bvl), .int .u64 (uv bch), .int .u64 (uv bcl)]] w fun e w' => e = .returned (.tuple #[.agg #[.int .u64 0, .int .u64 0, .int .u64 0, .int .u64 0], .bool false]) ∧ Below w.heap.size w w' := by
  have S0 : Below w.heap.size w (((w.alloc (.cells #[.int .u64 (uv avh), .int .u64 (uv avl), .int .u64 (uv ach), .int .u64 (uv acl)] 43)).alloc (.cells #[.int .u64 (uv bvh), .int .u64 (uv bvl), .int .u64 (uv bch), .int .u64 (uv bcl)] 43)).alloc (.cells #[.int .u64 0, .int .u64 0, .int .u64 0, .int .u64 0] 43)) ∧ (((w.alloc (.cells #[.int .u64 (uv avh), .int .u64 (uv avl), .int .u64 (uv ach), .int .u64 (uv acl)] 43)).alloc (.cells #[.int .u64 (uv bvh), .int .u64 (uv bvl), .int .u64 (uv bch), .int .u64 (uv bcl)] 43)).alloc (.cells #[.int .u64 0, .int .u64 0, .int .u64 0, .int .u64 0] 43)).cell? ⟨w.heap.size, 0, none⟩ = some (.int .u64 (uv avh)) ∧ (((w.alloc (.cells #[.int .u64 (uv avh), .int .u64 (uv avl), .int .u64 (uv ach), .int .u64 (uv acl)] 43)).alloc (.cells #[.int .u64 (uv bvh), .int .u64 (uv bvl), .int .u64 (uv bch), .int .u64 (uv bcl)] 43)).alloc (.cells #[.int .u64 0, .int .u64 0, .int .u64 0, .int .u64 0] 43)).cell? ⟨w.heap.size, 1, none⟩ = some (.int .u64 (uv avl)) ∧ (((w.alloc (.cells #[.int .u64 (uv avh), .int .u64 (uv avl), .int .u64 (uv ach), .int .u64 (uv acl)] 43)).alloc (.cells #[.int .u64 (uv bvh), .int .u64 (uv bvl), .int .u64 (uv bch), .int .u64 (uv bcl)] 43)).alloc (.cells #[.int .u64 0, .int .u64 0, .int .u64 0, .int .u64 0] 43)).cell? ⟨w.heap.size, 2, none⟩ = some (.int .u64 (uv ach)) ∧ (((w.alloc (.cells #[.int .u64 (uv avh), .int .u64 (uv avl), .int .u64 (uv ach), .int .u64 (uv acl)] 43)).alloc (.cells #[.int .u64 (uv bvh), .int .u64 (uv bvl), .int .u64 (uv bch), .int .u64 (uv bcl)] 43)).alloc (.cells #[.int .u64 0, .int .u64 0, .int .u64 0, .int .u64 0] 43)).cell? ⟨w.heap.size, 3, none⟩ = some (.int .u64 (uv acl)) ∧ (((w.alloc (.cells #[.int .u64 (uv avh), .int .u64 (uv avl), .int .u64 (uv ach), .int .u64 (uv acl)] 43)).alloc (.cells #[.int .u64 (uv bvh), .int .u64 (uv bvl), .int .u64 (uv bch), .int .u64 (uv bcl)] 43)).alloc (.cells #[.int .u64 0, .int .u64 0, .int .u64 0, .int .u64 0] 43)).cell? ⟨w.heap.size + 1, 0, none⟩ = some (.int .u64 (uv bvh)) ∧ (((w.alloc (.cells #[.int .u64 (uv avh), .int .u64 (uv avl), .int .u64 (uv ach), .int .u64 (uv acl)] 43)).alloc (.cells #[.int .u64 (uv bvh), .int .u64 (uv bvl), .int .u64 (uv bch), .int .u64 (uv bcl)] 43)).alloc (.cells #[.int .u64 0, .int .u64 0, .int .u64 0, .int .u64 0] 43)).cell? ⟨w.heap.size + 1, 1, none⟩ = some (.int .u64 (uv bvl)) ∧ (((w.alloc (.cells #[.int .u64 (uv avh), .int .u64 (uv avl), .int .u64 (uv ach), .int .u64 (uv acl)] 43)).alloc (.cells #[.int .u64 (uv bvh), .int .u64 (uv bvl), .int .u64 (uv bch), .int .u64 (uv bcl)] 43)).alloc (.cells #[.int .u64 0, .int .u64 0, .int .u64 0, .int .u64 0] 43)).cell? ⟨w.heap.size + 1, 2, none⟩ = some (.int .u64 (uv bch)) ∧ (((w.alloc (.cells #[.int .u64 (uv avh), .int .u64 (uv avl), .int .u64 (uv ach), .int .u64 (uv acl)] 43)).alloc (.cells #[.int .u64 (uv bvh), .int .u64 (uv bvl), .int .u64 (uv bch), .int .u64 (uv bcl)] 43)).alloc (.cells #[.int .u64 0, .int .u64 0, .int .u64 0, .int .u64 0] 43)).cell? ⟨w.heap.size + 1, 3, none⟩ = some (.int .u64 (uv bcl)) := ⟨below3 w (.cells #[.int .u64 (uv avh), .int .u64 (uv avl), .int .u64 (uv ach), .int .u64 (uv acl)] 43) (.cells #[.int .u64 (uv bvh), .int .u64 (uv bvl), .int .u64 (uv bch), .int .u64 (uv bcl)] 43) (.cells #[.int .u64 0, .int .u64 0, .int .u64 0, .int .u64 0] 43), by go_simp, by go_simp, by go_simp, by go_simp, by go_simp, by go_simp, by go_simp, by go_simp⟩
  have Z0 : Zero4 (((w.alloc (.cells #[.int .u64 (uv avh), .int .u64 (uv avl), .int .u64 (uv ach), .int .u64 (uv acl)] 43)).alloc (.cells #[.int .u64 (uv bvh), .int .u64 (uv bvl), .int .u64 (uv bch), .int .u64 (uv bcl)] 43)).alloc (.cells #[.int .u64 0, .int .u64 0, .int .u64 0, .int .u64 0] 43)) (w.heap.size + 1 + 1) := zero4_at ((w.alloc (.cells #[.int .u64 (uv avh), .int .u64 (uv avl), .int .u64 (uv ach), .int .u64 (uv acl)] 43)).alloc (.cells #[.int .u64 (uv bvh), .int .u64 (uv bvl), .int .u64 (uv bch), .int .u64 (uv bcl)] 43)) (w.heap.size + 1 + 1) (by simp)
  go_enter Try.func62, Try.ntmps62
  go_wp2_with fail
  (with_reducible refine (sound_c _ _ _ _ _).mono ?_)
  rintro e w1 ⟨rfl, hb1⟩
  have S1 := hold8 hb1 S0
  have Z1 := Zero4.on hb1 Z0
  clear hb1 S0 Z0
  have Y1 := Z1.out
  go_wp2
  exact bodyPost_ret (v := .tuple #[.agg #[.int .u64 0, .int .u64 0, .int .u64 0, .int .u64 0], .bool false]) (by simp [results, Try.results62, go_sem, Y1]) rfl ⟨rfl, S1.1.trans ((sets4 _ _ _ _ _ _).mono (by omega))⟩

set_option maxHeartbeats 1000000 in
theorem meet_no2 (avh avl ach acl bvh bvl bch bcl : BitVec 64) (w : World) (h1 : sndB avh avl ach acl = true) (h2 : sndB bvh bvl bch bcl = false) :
    Calls Try.prog 62 #[.agg #[.int .u64 (uv avh), .int .u64 (uv avl), .int .u64 (uv ach), .int .u64 (uv acl)], .agg #[.int .u64 (uv bvh), .int .u64 (uv bvl), .int .u64 (uv bch), .int .u64 (uv bcl)]] w fun e w' => e = .returned (.tuple #[.agg #[.int .u64 0, .int .u64 0, .int .u64 0, .int .u64 0], .bool false]) ∧ Below w.heap.size w w' := by
  have S0 : Below w.heap.size w (((w.alloc (.cells #[.int .u64 (uv avh), .int .u64 (uv avl), .int .u64 (uv ach), .int .u64 (uv acl)] 43)).alloc (.cells #[.int .u64 (uv bvh), .int .u64 (uv bvl), .int .u64 (uv bch), .int .u64 (uv bcl)] 43)).alloc (.cells #[.int .u64 0, .int .u64 0, .int .u64 0, .int .u64 0] 43)) ∧ (((w.alloc (.cells #[.int .u64 (uv avh), .int .u64 (uv avl), .int .u64 (uv ach), .int .u64 (uv acl)] 43)).alloc (.cells #[.int .u64 (uv bvh), .int .u64 (uv bvl), .int .u64 (uv bch), .int .u64 (uv bcl)] 43)).alloc (.cells #[.int .u64 0, .int .u64 0, .int .u64 0, .int .u64 0] 43)).cell? ⟨w.heap.size, 0, none⟩ = some (.int .u64 (uv avh)) ∧ (((w.alloc (.cells #[.int .u64 (uv avh), .int .u64 (uv avl), .int .u64 (uv ach), .int .u64 (uv acl)] 43)).alloc (.cells #[.int .u64 (uv bvh), .int .u64 (uv bvl), .int .u64 (uv bch), .int .u64 (uv bcl)] 43)).alloc (.cells #[.int .u64 0, .int .u64 0, .int .u64 0, .int .u64 0] 43)).cell? ⟨w.heap.size, 1, none⟩ = some (.int .u64 (uv avl)) ∧ (((w.alloc (.cells #[.int .u64 (uv avh), .int .u64 (uv avl), .int .u64 (uv ach), .int .u64 (uv acl)] 43)).alloc (.cells #[.int .u64 (uv bvh), .int .u64 (uv bvl), .int .u64 (uv bch), .int .u64 (uv bcl)] 43)).alloc (.cells #[.int .u64 0, .int .u64 0, .int .u64 0, .int .u64 0] 43)).cell? ⟨w.heap.size, 2, none⟩ = some (.int .u64 (uv ach)) ∧ (((w.alloc (.cells #[.int .u64 (uv avh), .int .u64 (uv avl), .int .u64 (uv ach), .int .u64 (uv acl)] 43)).alloc (.cells #[.int .u64 (uv bvh), .int .u64 (uv bvl), .int .u64 (uv bch), .int .u64 (uv bcl)] 43)).alloc (.cells #[.int .u64 0, .int .u64 0, .int .u64 0, .int .u64 0] 43)).cell? ⟨w.heap.size, 3, none⟩ = some (.int .u64 (uv acl)) ∧ (((w.alloc (.cells #[.int .u64 (uv avh), .int .u64 (uv avl), .int .u64 (uv ach), .int .u64 (uv acl)] 43)).alloc (.cells #[.int .u64 (uv bvh), .int .u64 (uv bvl), .int .u64 (uv bch), .int .u64 (uv bcl)] 43)).alloc (.cells #[.int .u64 0, .int .u64 0, .int .u64 0, .int .u64 0] 43)).cell? ⟨w.heap.size + 1, 0, none⟩ = some (.int .u64 (uv bvh)) ∧ (((w.alloc (.cells #[.int .u64 (uv avh), .int .u64 (uv avl), .int .u64 (uv ach), .int .u64 (uv acl)] 43)).alloc (.cells #[.int .u64 (uv bvh), .int .u64 (uv bvl), .int .u64 (uv bch), .int .u64 (uv bcl)] 43)).alloc (.cells #[.int .u64 0, .int .u64 0, .int .u64 0, .int .u64 0] 43)).cell? ⟨w.heap.size + 1, 1, none⟩ = some (.int .u64 (uv bvl)) ∧ (((w.alloc (.cells #[.int .u64 (uv avh), .int .u64 (uv avl), .int .u64 (uv ach), .int .u64 (uv acl)] 43)).alloc (.cells #[.int .u64 (uv bvh), .int .u64 (uv bvl), .int .u64 (uv bch), .int .u64 (uv bcl)] 43)).alloc (.cells #[.int .u64 0, .int .u64 0, .int .u64 0, .int .u64 0] 43)).cell? ⟨w.heap.size + 1, 2, none⟩ = some (.int .u64 (uv bch)) ∧ (((w.alloc (.cells #[.int .u64 (uv avh), .int .u64 (uv avl), .int .u64 (uv ach), .int .u64 (uv acl)] 43)).alloc (.cells #[.int .u64 (uv bvh), .int .u64 (uv bvl), .int .u64 (uv bch), .int .u64 (uv bcl)] 43)).alloc (.cells #[.int .u64 0, .int .u64 0, .int .u64 0, .int .u64 0] 43)).cell? ⟨w.heap.size + 1, 3, none⟩ = some (.int .u64 (uv bcl)) := ⟨below3 w (.cells #[.int .u64 (uv avh), .int .u64 (uv avl), .int .u64 (uv ach), .int .u64 (uv acl)] 43) (.cells #[.int .u64 (uv bvh), .int .u64 (uv bvl), .int .u64 (uv bch), .int .u64 (uv bcl)] 43) (.cells #[.int .u64 0, .int .u64 0, .int .u64 0, .int .u64 0] 43), by go_simp, by go_simp, by go_simp, by go_simp, by go_simp, by go_simp, by go_simp, by go_simp⟩
  have Z0 : Zero4 (((w.alloc (.cells #[.int .u64 (uv avh), .int .u64 (uv avl), .int .u64 (uv ach), .int .u64 (uv acl)] 43)).alloc (.cells #[.int .u64 (uv bvh), .int .u64 (uv bvl), .int .u64 (uv bch), .int .u64 (uv bcl)] 43)).alloc (.cells #[.int .u64 0, .int .u64 0, .int .u64 0, .int .u64 0] 43)) (w.heap.size + 1 + 1) := zero4_at ((w.alloc (.cells #[.int .u64 (uv avh), .int .u64 (uv avl), .int .u64 (uv ach), .int .u64 (uv acl)] 43)).alloc (.cells #[.int .u64 (uv bvh), .int .u64 (uv bvl), .int .u64 (uv bch), .int .u64 (uv bcl)] 43)) (w.heap.size + 1 + 1) (by simp)
  go_enter Try.func62, Try.ntmps62
  go_wp2_with fail
  (with_reducible refine (sound_c _ _ _ _ _).mono ?_)
  rintro e w1 ⟨rfl, hb1⟩
  have S1 := hold8 hb1 S0
  have Z1 := Zero4.on hb1 Z0
  clear hb1 S0 Z0
  go_wp2_with fail
  (with_reducible refine (sound_c _ _ _ _ _).mono ?_)
  rintro e w2 ⟨rfl, hb2⟩
  have S2 := hold8 hb2 S1
  have Z2 := Zero4.on hb2 Z1
  clear hb2 S1 Z1
  have Y2 := Z2.out
  go_wp2
  exact bodyPost_ret (v := .tuple #[.agg #[.int .u64 0, .int .u64 0, .int .u64 0, .int .u64 0], .bool false]) (by simp [results, Try.results62, go_sem, Y2]) rfl ⟨rfl, S2.1.trans ((sets4 _ _ _ _ _ _).mono (by omega))⟩

set_option maxHeartbeats 1000000 in
theorem meet_no3 (avh avl ach acl bvh bvl bch bcl : BitVec 64) (w : World) (h1 : sndB avh avl ach acl = true) (h2 : sndB bvh bvl bch bcl = true) (h3 : agrB avh avl ach acl bvh bvl bch bcl = false) :
    Calls Try.prog 62 #[.agg #[.int .u64 (uv avh), .int .u64 (uv avl), .int .u64 (uv ach), .int .u64 (uv acl)], .agg #[.int .u64 (uv bvh), .int .u64 (uv bvl), .int .u64 (uv bch), .int .u64 (uv bcl)]] w fun e w' => e = .returned (.tuple #[.agg #[.int .u64 0, .int .u64 0, .int .u64 0, .int .u64 0], .bool false]) ∧ Below w.heap.size w w' := by
  have S0 : Below w.heap.size w (((w.alloc (.cells #[.int .u64 (uv avh), .int .u64 (uv avl), .int .u64 (uv ach), .int .u64 (uv acl)] 43)).alloc (.cells #[.int .u64 (uv bvh), .int .u64 (uv bvl), .int .u64 (uv bch), .int .u64 (uv bcl)] 43)).alloc (.cells #[.int .u64 0, .int .u64 0, .int .u64 0, .int .u64 0] 43)) ∧ (((w.alloc (.cells #[.int .u64 (uv avh), .int .u64 (uv avl), .int .u64 (uv ach), .int .u64 (uv acl)] 43)).alloc (.cells #[.int .u64 (uv bvh), .int .u64 (uv bvl), .int .u64 (uv bch), .int .u64 (uv bcl)] 43)).alloc (.cells #[.int .u64 0, .int .u64 0, .int .u64 0, .int .u64 0] 43)).cell? ⟨w.heap.size, 0, none⟩ = some (.int .u64 (uv avh)) ∧ (((w.alloc (.cells #[.int .u64 (uv avh), .int .u64 (uv avl), .int .u64 (uv ach), .int .u64 (uv acl)] 43)).alloc (.cells #[.int .u64 (uv bvh), .int .u64 (uv bvl), .int .u64 (uv bch), .int .u64 (uv bcl)] 43)).alloc (.cells #[.int .u64 0, .int .u64 0, .int .u64 0, .int .u64 0] 43)).cell? ⟨w.heap.size, 1, none⟩ = some (.int .u64 (uv avl)) ∧ (((w.alloc (.cells #[.int .u64 (uv avh), .int .u64 (uv avl), .int .u64 (uv ach), .int .u64 (uv acl)] 43)).alloc (.cells #[.int .u64 (uv bvh), .int .u64 (uv bvl), .int .u64 (uv bch), .int .u64 (uv bcl)] 43)).alloc (.cells #[.int .u64 0, .int .u64 0, .int .u64 0, .int .u64 0] 43)).cell? ⟨w.heap.size, 2, none⟩ = some (.int .u64 (uv ach)) ∧ (((w.alloc (.cells #[.int .u64 (uv avh), .int .u64 (uv avl), .int .u64 (uv ach), .int .u64 (uv acl)] 43)).alloc (.cells #[.int .u64 (uv bvh), .int .u64 (uv bvl), .int .u64 (uv bch), .int .u64 (uv bcl)] 43)).alloc (.cells #[.int .u64 0, .int .u64 0, .int .u64 0, .int .u64 0] 43)).cell? ⟨w.heap.size, 3, none⟩ = some (.int .u64 (uv acl)) ∧ (((w.alloc (.cells #[.int .u64 (uv avh), .int .u64 (uv avl), .int .u64 (uv ach), .int .u64 (uv acl)] 43)).alloc (.cells #[.int .u64 (uv bvh), .int .u64 (uv bvl), .int .u64 (uv bch), .int .u64 (uv bcl)] 43)).alloc (.cells #[.int .u64 0, .int .u64 0, .int .u64 0, .int .u64 0] 43)).cell? ⟨w.heap.size + 1, 0, none⟩ = some (.int .u64 (uv bvh)) ∧ (((w.alloc (.cells #[.int .u64 (uv avh), .int .u64 (uv avl), .int .u64 (uv ach), .int .u64 (uv acl)] 43)).alloc (.cells #[.int .u64 (uv bvh), .int .u64 (uv bvl), .int .u64 (uv bch), .int .u64 (uv bcl)] 43)).alloc (.cells #[.int .u64 0, .int .u64 0, .int .u64 0, .int .u64 0] 43)).cell? ⟨w.heap.size + 1, 1, none⟩ = some (.int .u64 (uv bvl)) ∧ (((w.alloc (.cells #[.int .u64 (uv avh), .int .u64 (uv avl), .int .u64 (uv ach), .int .u64 (uv acl)] 43)).alloc (.cells #[.int .u64 (uv bvh), .int .u64 (uv bvl), .int .u64 (uv bch), .int .u64 (uv bcl)] 43)).alloc (.cells #[.int .u64 0, .int .u64 0, .int .u64 0, .int .u64 0] 43)).cell? ⟨w.heap.size + 1, 2, none⟩ = some (.int .u64 (uv bch)) ∧ (((w.alloc (.cells #[.int .u64 (uv avh), .int .u64 (uv avl), .int .u64 (uv ach), .int .u64 (uv acl)] 43)).alloc (.cells #[.int .u64 (uv bvh), .int .u64 (uv bvl), .int .u64 (uv bch), .int .u64 (uv bcl)] 43)).alloc (.cells #[.int .u64 0, .int .u64 0, .int .u64 0, .int .u64 0] 43)).cell? ⟨w.heap.size + 1, 3, none⟩ = some (.int .u64 (uv bcl)) := ⟨below3 w (.cells #[.int .u64 (uv avh), .int .u64 (uv avl), .int .u64 (uv ach), .int .u64 (uv acl)] 43) (.cells #[.int .u64 (uv bvh), .int .u64 (uv bvl), .int .u64 (uv bch), .int .u64 (uv bcl)] 43) (.cells #[.int .u64 0, .int .u64 0, .int .u64 0, .int .u64 0] 43), by go_simp, by go_simp, by go_simp, by go_simp, by go_simp, by go_simp, by go_simp, by go_simp⟩
  have Z0 : Zero4 (((w.alloc (.cells #[.int .u64 (uv avh), .int .u64 (uv avl), .int .u64 (uv ach), .int .u64 (uv acl)] 43)).alloc (.cells #[.int .u64 (uv bvh), .int .u64 (uv bvl), .int .u64 (uv bch), .int .u64 (uv bcl)] 43)).alloc (.cells #[.int .u64 0, .int .u64 0, .int .u64 0, .int .u64 0] 43)) (w.heap.size + 1 + 1) := zero4_at ((w.alloc (.cells #[.int .u64 (uv avh), .int .u64 (uv avl), .int .u64 (uv ach), .int .u64 (uv acl)] 43)).alloc (.cells #[.int .u64 (uv bvh), .int .u64 (uv bvl), .int .u64 (uv bch), .int .u64 (uv bcl)] 43)) (w.heap.size + 1 + 1) (by simp)
  go_enter Try.func62, Try.ntmps62
  go_wp2_with fail
  (with_reducible refine (sound_c _ _ _ _ _).mono ?_)
  rintro e w1 ⟨rfl, hb1⟩
  have S1 := hold8 hb1 S0
  have Z1 := Zero4.on hb1 Z0
  clear hb1 S0 Z0
  go_wp2_with fail
  (with_reducible refine (sound_c _ _ _ _ _).mono ?_)
  rintro e w2 ⟨rfl, hb2⟩
  have S2 := hold8 hb2 S1
  have Z2 := Zero4.on hb2 Z1
  clear hb2 S1 Z1
  go_wp2_with fail
  (with_reducible refine (agree_c _ _ _ _ _ _ _ _ _).mono ?_)
  rintro e w3 ⟨rfl, hb3⟩
  have S3 := hold8 hb3 S2
  have Z3 := Zero4.on hb3 Z2
  clear hb3 S2 Z2
  have Y3 := Z3.out
  go_wp2
  exact bodyPost_ret (v := .tuple #[.agg #[.int .u64 0, .int .u64 0, .int .u64 0, .int .u64 0], .bool false]) (by simp [results, Try.results62, go_sem, Y3]) rfl ⟨rfl, S3.1.trans ((sets4 _ _ _ _ _ _).mono (by omega))⟩

set_option maxHeartbeats 1000000 in
theorem meet_yes (avh avl ach acl bvh bvl bch bcl : BitVec 64) (w : World) (h1 : sndB avh avl ach acl = true) (h2 : sndB bvh bvl bch bcl = true) (h3 : agrB avh avl ach acl bvh bvl bch bcl = true) :
    Calls Try.prog 62 #[.agg #[.int .u64 (uv avh), .int .u64 (uv avl), .int .u64 (uv ach), .int .u64 (uv acl)], .agg #[.int .u64 (uv bvh), .int .u64 (uv bvl), .int .u64 (uv bch), .int .u64 (uv bcl)]] w fun e w' => e = .returned (.tuple #[.agg #[.int .u64 (uv (avh ||| bvh)), .int .u64 (uv (avl ||| bvl)), .int .u64 (uv (ach ||| bch)), .int .u64 (uv (acl ||| bcl))], .bool true]) ∧ Below w.heap.size w w' := by
  have S0 : Below w.heap.size w (((w.alloc (.cells #[.int .u64 (uv avh), .int .u64 (uv avl), .int .u64 (uv ach), .int .u64 (uv acl)] 43)).alloc (.cells #[.int .u64 (uv bvh), .int .u64 (uv bvl), .int .u64 (uv bch), .int .u64 (uv bcl)] 43)).alloc (.cells #[.int .u64 0, .int .u64 0, .int .u64 0, .int .u64 0] 43)) ∧ (((w.alloc (.cells #[.int .u64 (uv avh), .int .u64 (uv avl), .int .u64 (uv ach), .int .u64 (uv acl)] 43)).alloc (.cells #[.int .u64 (uv bvh), .int .u64 (uv bvl), .int .u64 (uv bch), .int .u64 (uv bcl)] 43)).alloc (.cells #[.int .u64 0, .int .u64 0, .int .u64 0, .int .u64 0] 43)).cell? ⟨w.heap.size, 0, none⟩ = some (.int .u64 (uv avh)) ∧ (((w.alloc (.cells #[.int .u64 (uv avh), .int .u64 (uv avl), .int .u64 (uv ach), .int .u64 (uv acl)] 43)).alloc (.cells #[.int .u64 (uv bvh), .int .u64 (uv bvl), .int .u64 (uv bch), .int .u64 (uv bcl)] 43)).alloc (.cells #[.int .u64 0, .int .u64 0, .int .u64 0, .int .u64 0] 43)).cell? ⟨w.heap.size, 1, none⟩ = some (.int .u64 (uv avl)) ∧ (((w.alloc (.cells #[.int .u64 (uv avh), .int .u64 (uv avl), .int .u64 (uv ach), .int .u64 (uv acl)] 43)).alloc (.cells #[.int .u64 (uv bvh), .int .u64 (uv bvl), .int .u64 (uv bch), .int .u64 (uv bcl)] 43)).alloc (.cells #[.int .u64 0, .int .u64 0, .int .u64 0, .int .u64 0] 43)).cell? ⟨w.heap.size, 2, none⟩ = some (.int .u64 (uv ach)) ∧ (((w.alloc (.cells #[.int .u64 (uv avh), .int .u64 (uv avl), .int .u64 (uv ach), .int .u64 (uv acl)] 43)).alloc (.cells #[.int .u64 (uv bvh), .int .u64 (uv bvl), .int .u64 (uv bch), .int .u64 (uv bcl)] 43)).alloc (.cells #[.int .u64 0, .int .u64 0, .int .u64 0, .int .u64 0] 43)).cell? ⟨w.heap.size, 3, none⟩ = some (.int .u64 (uv acl)) ∧ (((w.alloc (.cells #[.int .u64 (uv avh), .int .u64 (uv avl), .int .u64 (uv ach), .int .u64 (uv acl)] 43)).alloc (.cells #[.int .u64 (uv bvh), .int .u64 (uv bvl), .int .u64 (uv bch), .int .u64 (uv bcl)] 43)).alloc (.cells #[.int .u64 0, .int .u64 0, .int .u64 0, .int .u64 0] 43)).cell? ⟨w.heap.size + 1, 0, none⟩ = some (.int .u64 (uv bvh)) ∧ (((w.alloc (.cells #[.int .u64 (uv avh), .int .u64 (uv avl), .int .u64 (uv ach), .int .u64 (uv acl)] 43)).alloc (.cells #[.int .u64 (uv bvh), .int .u64 (uv bvl), .int .u64 (uv bch), .int .u64 (uv bcl)] 43)).alloc (.cells #[.int .u64 0, .int .u64 0, .int .u64 0, .int .u64 0] 43)).cell? ⟨w.heap.size + 1, 1, none⟩ = some (.int .u64 (uv bvl)) ∧ (((w.alloc (.cells #[.int .u64 (uv avh), .int .u64 (uv avl), .int .u64 (uv ach), .int .u64 (uv acl)] 43)).alloc (.cells #[.int .u64 (uv bvh), .int .u64 (uv bvl), .int .u64 (uv bch), .int .u64 (uv bcl)] 43)).alloc (.cells #[.int .u64 0, .int .u64 0, .int .u64 0, .int .u64 0] 43)).cell? ⟨w.heap.size + 1, 2, none⟩ = some (.int .u64 (uv bch)) ∧ (((w.alloc (.cells #[.int .u64 (uv avh), .int .u64 (uv avl), .int .u64 (uv ach), .int .u64 (uv acl)] 43)).alloc (.cells #[.int .u64 (uv bvh), .int .u64 (uv bvl), .int .u64 (uv bch), .int .u64 (uv bcl)] 43)).alloc (.cells #[.int .u64 0, .int .u64 0, .int .u64 0, .int .u64 0] 43)).cell? ⟨w.heap.size + 1, 3, none⟩ = some (.int .u64 (uv bcl)) := ⟨below3 w (.cells #[.int .u64 (uv avh), .int .u64 (uv avl), .int .u64 (uv ach), .int .u64 (uv acl)] 43) (.cells #[.int .u64 (uv bvh), .int .u64 (uv bvl), .int .u64 (uv bch), .int .u64 (uv bcl)] 43) (.cells #[.int .u64 0, .int .u64 0, .int .u64 0, .int .u64 0] 43), by go_simp, by go_simp, by go_simp, by go_simp, by go_simp, by go_simp, by go_simp, by go_simp⟩
  have Z0 : Zero4 (((w.alloc (.cells #[.int .u64 (uv avh), .int .u64 (uv avl), .int .u64 (uv ach), .int .u64 (uv acl)] 43)).alloc (.cells #[.int .u64 (uv bvh), .int .u64 (uv bvl), .int .u64 (uv bch), .int .u64 (uv bcl)] 43)).alloc (.cells #[.int .u64 0, .int .u64 0, .int .u64 0, .int .u64 0] 43)) (w.heap.size + 1 + 1) := zero4_at ((w.alloc (.cells #[.int .u64 (uv avh), .int .u64 (uv avl), .int .u64 (uv ach), .int .u64 (uv acl)] 43)).alloc (.cells #[.int .u64 (uv bvh), .int .u64 (uv bvl), .int .u64 (uv bch), .int .u64 (uv bcl)] 43)) (w.heap.size + 1 + 1) (by simp)
  go_enter Try.func62, Try.ntmps62
  go_wp2_with fail
  (with_reducible refine (sound_c _ _ _ _ _).mono ?_)
  rintro e w1 ⟨rfl, hb1⟩
  have S1 := hold8 hb1 S0
  have Z1 := Zero4.on hb1 Z0
  clear hb1 S0 Z0
  go_wp2_with fail
  (with_reducible refine (sound_c _ _ _ _ _).mono ?_)
  rintro e w2 ⟨rfl, hb2⟩
  have S2 := hold8 hb2 S1
  have Z2 := Zero4.on hb2 Z1
  clear hb2 S1 Z1
  go_wp2_with fail
  (with_reducible refine (agree_c _ _ _ _ _ _ _ _ _).mono ?_)
  rintro e w3 ⟨rfl, hb3⟩
  have S3 := hold8 hb3 S2
  have Z3 := Zero4.on hb3 Z2
  clear hb3 S2 Z2
  have D3 : Zero4 w3.drew (w.heap.size + 1 + 1) := Z3
  go_wp2_with fail
  go_region_held3 (fun w' => Below w.heap.size w w' ∧ w'.cell? ⟨w.heap.size, 0, none⟩ = some (.int .u64 (uv avh)) ∧ w'.cell? ⟨w.heap.size, 1, none⟩ = some (.int .u64 (uv avl)) ∧ w'.cell? ⟨w.heap.size, 2, none⟩ = some (.int .u64 (uv ach)) ∧ w'.cell? ⟨w.heap.size, 3, none⟩ = some (.int .u64 (uv acl)) ∧ w'.cell? ⟨w.heap.size + 1, 0, none⟩ = some (.int .u64 (uv bvh)) ∧ w'.cell? ⟨w.heap.size + 1, 1, none⟩ = some (.int .u64 (uv bvl)) ∧ w'.cell? ⟨w.heap.size + 1, 2, none⟩ = some (.int .u64 (uv bch)) ∧ w'.cell? ⟨w.heap.size + 1, 3, none⟩ = some (.int .u64 (uv bcl)))
    (first
      | exact hold8 (by assumption) (by assumption)
      | exact shold8 (sets4 _ _ _ _ _ _) (by assumption) (by omega) (by first | omega | (simp; done) | (simp; omega)) (by first | omega | (simp; done) | (simp; omega)) (by first | omega | (simp; done) | (simp; omega)) (by first | omega | (simp; done) | (simp; omega)) (by first | omega | (simp; done) | (simp; omega)) (by first | omega | (simp; done) | (simp; omega)) (by first | omega | (simp; done) | (simp; omega)) (by first | omega | (simp; done) | (simp; omega))
      | exact ⟨S3.1.drew, S3.2⟩)
    (first
      | (go_at_call 78; (with_reducible refine (or_c _ _ _ _ _).mono ?_); rintro e w' ⟨rfl, hb⟩; have Z := Zero4.on hb (by assumption); obtain ⟨z0, y0, z1, y1, z2, y2, z3, y3⟩ := Z.out))
  all_goals go_wp2
  all_goals exact bodyPost_ret (v := .tuple #[.agg #[.int .u64 (uv (avh ||| bvh)), .int .u64 (uv (avl ||| bvl)), .int .u64 (uv (ach ||| bch)), .int .u64 (uv (acl ||| bcl))], .bool true]) (by simp [results, Try.results62, go_sem, z0, z1, z2, z3]) rfl ⟨rfl, And.left (by assumption)⟩

set_option maxHeartbeats 1000000 in
theorem before_no1 (avh avl ach acl bvh bvl bch bcl : BitVec 64) (w : World) (h1 : sndB avh avl ach acl = false) :
    Calls Try.prog 29 #[.agg #[.int .u64 (uv avh), .int .u64 (uv avl), .int .u64 (uv ach), .int .u64 (uv acl)], .agg #[.int .u64 (uv bvh), .int .u64 (uv bvl), .int .u64 (uv bch), .int .u64 (uv bcl)]] w fun e w' => e = .returned (.tuple #[.agg #[.int .u64 0, .int .u64 0, .int .u64 0, .int .u64 0], .bool false]) ∧ Below w.heap.size w w' := by
  have S0 : Below w.heap.size w (((w.alloc (.cells #[.int .u64 (uv avh), .int .u64 (uv avl), .int .u64 (uv ach), .int .u64 (uv acl)] 43)).alloc (.cells #[.int .u64 (uv bvh), .int .u64 (uv bvl), .int .u64 (uv bch), .int .u64 (uv bcl)] 43)).alloc (.cells #[.int .u64 0, .int .u64 0, .int .u64 0, .int .u64 0] 43)) ∧ (((w.alloc (.cells #[.int .u64 (uv avh), .int .u64 (uv avl), .int .u64 (uv ach), .int .u64 (uv acl)] 43)).alloc (.cells #[.int .u64 (uv bvh), .int .u64 (uv bvl), .int .u64 (uv bch), .int .u64 (uv bcl)] 43)).alloc (.cells #[.int .u64 0, .int .u64 0, .int .u64 0, .int .u64 0] 43)).cell? ⟨w.heap.size, 0, none⟩ = some (.int .u64 (uv avh)) ∧ (((w.alloc (.cells #[.int .u64 (uv avh), .int .u64 (uv avl), .int .u64 (uv ach), .int .u64 (uv acl)] 43)).alloc (.cells #[.int .u64 (uv bvh), .int .u64 (uv bvl), .int .u64 (uv bch), .int .u64 (uv bcl)] 43)).alloc (.cells #[.int .u64 0, .int .u64 0, .int .u64 0, .int .u64 0] 43)).cell? ⟨w.heap.size, 1, none⟩ = some (.int .u64 (uv avl)) ∧ (((w.alloc (.cells #[.int .u64 (uv avh), .int .u64 (uv avl), .int .u64 (uv ach), .int .u64 (uv acl)] 43)).alloc (.cells #[.int .u64 (uv bvh), .int .u64 (uv bvl), .int .u64 (uv bch), .int .u64 (uv bcl)] 43)).alloc (.cells #[.int .u64 0, .int .u64 0, .int .u64 0, .int .u64 0] 43)).cell? ⟨w.heap.size, 2, none⟩ = some (.int .u64 (uv ach)) ∧ (((w.alloc (.cells #[.int .u64 (uv avh), .int .u64 (uv avl), .int .u64 (uv ach), .int .u64 (uv acl)] 43)).alloc (.cells #[.int .u64 (uv bvh), .int .u64 (uv bvl), .int .u64 (uv bch), .int .u64 (uv bcl)] 43)).alloc (.cells #[.int .u64 0, .int .u64 0, .int .u64 0, .int .u64 0] 43)).cell? ⟨w.heap.size, 3, none⟩ = some (.int .u64 (uv acl)) ∧ (((w.alloc (.cells #[.int .u64 (uv avh), .int .u64 (uv avl), .int .u64 (uv ach), .int .u64 (uv acl)] 43)).alloc (.cells #[.int .u64 (uv bvh), .int .u64 (uv bvl), .int .u64 (uv bch), .int .u64 (uv bcl)] 43)).alloc (.cells #[.int .u64 0, .int .u64 0, .int .u64 0, .int .u64 0] 43)).cell? ⟨w.heap.size + 1, 0, none⟩ = some (.int .u64 (uv bvh)) ∧ (((w.alloc (.cells #[.int .u64 (uv avh), .int .u64 (uv avl), .int .u64 (uv ach), .int .u64 (uv acl)] 43)).alloc (.cells #[.int .u64 (uv bvh), .int .u64 (uv bvl), .int .u64 (uv bch), .int .u64 (uv bcl)] 43)).alloc (.cells #[.int .u64 0, .int .u64 0, .int .u64 0, .int .u64 0] 43)).cell? ⟨w.heap.size + 1, 1, none⟩ = some (.int .u64 (uv bvl)) ∧ (((w.alloc (.cells #[.int .u64 (uv avh), .int .u64 (uv avl), .int .u64 (uv ach), .int .u64 (uv acl)] 43)).alloc (.cells #[.int .u64 (uv bvh), .int .u64 (uv bvl), .int .u64 (uv bch), .int .u64 (uv bcl)] 43)).alloc (.cells #[.int .u64 0, .int .u64 0, .int .u64 0, .int .u64 0] 43)).cell? ⟨w.heap.size + 1, 2, none⟩ = some (.int .u64 (uv bch)) ∧ (((w.alloc (.cells #[.int .u64 (uv avh), .int .u64 (uv avl), .int .u64 (uv ach), .int .u64 (uv acl)] 43)).alloc (.cells #[.int .u64 (uv bvh), .int .u64 (uv bvl), .int .u64 (uv bch), .int .u64 (uv bcl)] 43)).alloc (.cells #[.int .u64 0, .int .u64 0, .int .u64 0, .int .u64 0] 43)).cell? ⟨w.heap.size + 1, 3, none⟩ = some (.int .u64 (uv bcl)) := ⟨below3 w (.cells #[.int .u64 (uv avh), .int .u64 (uv avl), .int .u64 (uv ach), .int .u64 (uv acl)] 43) (.cells #[.int .u64 (uv bvh), .int .u64 (uv bvl), .int .u64 (uv bch), .int .u64 (uv bcl)] 43) (.cells #[.int .u64 0, .int .u64 0, .int .u64 0, .int .u64 0] 43), by go_simp, by go_simp, by go_simp, by go_simp, by go_simp, by go_simp, by go_simp, by go_simp⟩
  have Z0 : Zero4 (((w.alloc (.cells #[.int .u64 (uv avh), .int .u64 (uv avl), .int .u64 (uv ach), .int .u64 (uv acl)] 43)).alloc (.cells #[.int .u64 (uv bvh), .int .u64 (uv bvl), .int .u64 (uv bch), .int .u64 (uv bcl)] 43)).alloc (.cells #[.int .u64 0, .int .u64 0, .int .u64 0, .int .u64 0] 43)) (w.heap.size + 1 + 1) := zero4_at ((w.alloc (.cells #[.int .u64 (uv avh), .int .u64 (uv avl), .int .u64 (uv ach), .int .u64 (uv acl)] 43)).alloc (.cells #[.int .u64 (uv bvh), .int .u64 (uv bvl), .int .u64 (uv bch), .int .u64 (uv bcl)] 43)) (w.heap.size + 1 + 1) (by simp)
  go_enter Try.func29, Try.ntmps29
  go_wp2_with fail
  (with_reducible refine (sound_c _ _ _ _ _).mono ?_)
  rintro e w1 ⟨rfl, hb1⟩
  have S1 := hold8 hb1 S0
  have Z1 := Zero4.on hb1 Z0
  clear hb1 S0 Z0
  have Y1 := Z1.out
  go_wp2
  exact bodyPost_ret (v := .tuple #[.agg #[.int .u64 0, .int .u64 0, .int .u64 0, .int .u64 0], .bool false]) (by simp [results, Try.results29, go_sem, Y1]) rfl ⟨rfl, S1.1.trans ((sets4 _ _ _ _ _ _).mono (by omega))⟩

set_option maxHeartbeats 1000000 in
theorem before_no2 (avh avl ach acl bvh bvl bch bcl : BitVec 64) (w : World) (h1 : sndB avh avl ach acl = true) (h3 : agrB avh avl ach acl bvh bvl bch bcl = false) :
    Calls Try.prog 29 #[.agg #[.int .u64 (uv avh), .int .u64 (uv avl), .int .u64 (uv ach), .int .u64 (uv acl)], .agg #[.int .u64 (uv bvh), .int .u64 (uv bvl), .int .u64 (uv bch), .int .u64 (uv bcl)]] w fun e w' => e = .returned (.tuple #[.agg #[.int .u64 0, .int .u64 0, .int .u64 0, .int .u64 0], .bool false]) ∧ Below w.heap.size w w' := by
  have S0 : Below w.heap.size w (((w.alloc (.cells #[.int .u64 (uv avh), .int .u64 (uv avl), .int .u64 (uv ach), .int .u64 (uv acl)] 43)).alloc (.cells #[.int .u64 (uv bvh), .int .u64 (uv bvl), .int .u64 (uv bch), .int .u64 (uv bcl)] 43)).alloc (.cells #[.int .u64 0, .int .u64 0, .int .u64 0, .int .u64 0] 43)) ∧ (((w.alloc (.cells #[.int .u64 (uv avh), .int .u64 (uv avl), .int .u64 (uv ach), .int .u64 (uv acl)] 43)).alloc (.cells #[.int .u64 (uv bvh), .int .u64 (uv bvl), .int .u64 (uv bch), .int .u64 (uv bcl)] 43)).alloc (.cells #[.int .u64 0, .int .u64 0, .int .u64 0, .int .u64 0] 43)).cell? ⟨w.heap.size, 0, none⟩ = some (.int .u64 (uv avh)) ∧ (((w.alloc (.cells #[.int .u64 (uv avh), .int .u64 (uv avl), .int .u64 (uv ach), .int .u64 (uv acl)] 43)).alloc (.cells #[.int .u64 (uv bvh), .int .u64 (uv bvl), .int .u64 (uv bch), .int .u64 (uv bcl)] 43)).alloc (.cells #[.int .u64 0, .int .u64 0, .int .u64 0, .int .u64 0] 43)).cell? ⟨w.heap.size, 1, none⟩ = some (.int .u64 (uv avl)) ∧ (((w.alloc (.cells #[.int .u64 (uv avh), .int .u64 (uv avl), .int .u64 (uv ach), .int .u64 (uv acl)] 43)).alloc (.cells #[.int .u64 (uv bvh), .int .u64 (uv bvl), .int .u64 (uv bch), .int .u64 (uv bcl)] 43)).alloc (.cells #[.int .u64 0, .int .u64 0, .int .u64 0, .int .u64 0] 43)).cell? ⟨w.heap.size, 2, none⟩ = some (.int .u64 (uv ach)) ∧ (((w.alloc (.cells #[.int .u64 (uv avh), .int .u64 (uv avl), .int .u64 (uv ach), .int .u64 (uv acl)] 43)).alloc (.cells #[.int .u64 (uv bvh), .int .u64 (uv bvl), .int .u64 (uv bch), .int .u64 (uv bcl)] 43)).alloc (.cells #[.int .u64 0, .int .u64 0, .int .u64 0, .int .u64 0] 43)).cell? ⟨w.heap.size, 3, none⟩ = some (.int .u64 (uv acl)) ∧ (((w.alloc (.cells #[.int .u64 (uv avh), .int .u64 (uv avl), .int .u64 (uv ach), .int .u64 (uv acl)] 43)).alloc (.cells #[.int .u64 (uv bvh), .int .u64 (uv bvl), .int .u64 (uv bch), .int .u64 (uv bcl)] 43)).alloc (.cells #[.int .u64 0, .int .u64 0, .int .u64 0, .int .u64 0] 43)).cell? ⟨w.heap.size + 1, 0, none⟩ = some (.int .u64 (uv bvh)) ∧ (((w.alloc (.cells #[.int .u64 (uv avh), .int .u64 (uv avl), .int .u64 (uv ach), .int .u64 (uv acl)] 43)).alloc (.cells #[.int .u64 (uv bvh), .int .u64 (uv bvl), .int .u64 (uv bch), .int .u64 (uv bcl)] 43)).alloc (.cells #[.int .u64 0, .int .u64 0, .int .u64 0, .int .u64 0] 43)).cell? ⟨w.heap.size + 1, 1, none⟩ = some (.int .u64 (uv bvl)) ∧ (((w.alloc (.cells #[.int .u64 (uv avh), .int .u64 (uv avl), .int .u64 (uv ach), .int .u64 (uv acl)] 43)).alloc (.cells #[.int .u64 (uv bvh), .int .u64 (uv bvl), .int .u64 (uv bch), .int .u64 (uv bcl)] 43)).alloc (.cells #[.int .u64 0, .int .u64 0, .int .u64 0, .int .u64 0] 43)).cell? ⟨w.heap.size + 1, 2, none⟩ = some (.int .u64 (uv bch)) ∧ (((w.alloc (.cells #[.int .u64 (uv avh), .int .u64 (uv avl), .int .u64 (uv ach), .int .u64 (uv acl)] 43)).alloc (.cells #[.int .u64 (uv bvh), .int .u64 (uv bvl), .int .u64 (uv bch), .int .u64 (uv bcl)] 43)).alloc (.cells #[.int .u64 0, .int .u64 0, .int .u64 0, .int .u64 0] 43)).cell? ⟨w.heap.size + 1, 3, none⟩ = some (.int .u64 (uv bcl)) := ⟨below3 w (.cells #[.int .u64 (uv avh), .int .u64 (uv avl), .int .u64 (uv ach), .int .u64 (uv acl)] 43) (.cells #[.int .u64 (uv bvh), .int .u64 (uv bvl), .int .u64 (uv bch), .int .u64 (uv bcl)] 43) (.cells #[.int .u64 0, .int .u64 0, .int .u64 0, .int .u64 0] 43), by go_simp, by go_simp, by go_simp, by go_simp, by go_simp, by go_simp, by go_simp, by go_simp⟩
  have Z0 : Zero4 (((w.alloc (.cells #[.int .u64 (uv avh), .int .u64 (uv avl), .int .u64 (uv ach), .int .u64 (uv acl)] 43)).alloc (.cells #[.int .u64 (uv bvh), .int .u64 (uv bvl), .int .u64 (uv bch), .int .u64 (uv bcl)] 43)).alloc (.cells #[.int .u64 0, .int .u64 0, .int .u64 0, .int .u64 0] 43)) (w.heap.size + 1 + 1) := zero4_at ((w.alloc (.cells #[.int .u64 (uv avh), .int .u64 (uv avl), .int .u64 (uv ach), .int .u64 (uv acl)] 43)).alloc (.cells #[.int .u64 (uv bvh), .int .u64 (uv bvl), .int .u64 (uv bch), .int .u64 (uv bcl)] 43)) (w.heap.size + 1 + 1) (by simp)
  go_enter Try.func29, Try.ntmps29
  go_wp2_with fail
  (with_reducible refine (sound_c _ _ _ _ _).mono ?_)
  rintro e w1 ⟨rfl, hb1⟩
  have S1 := hold8 hb1 S0
  have Z1 := Zero4.on hb1 Z0
  clear hb1 S0 Z0
  go_wp2_with fail
  (with_reducible refine (agree_c _ _ _ _ _ _ _ _ _).mono ?_)
  rintro e w2 ⟨rfl, hb2⟩
  have S2 := hold8 hb2 S1
  have Z2 := Zero4.on hb2 Z1
  clear hb2 S1 Z1
  have Y2 := Z2.out
  go_wp2
  exact bodyPost_ret (v := .tuple #[.agg #[.int .u64 0, .int .u64 0, .int .u64 0, .int .u64 0], .bool false]) (by simp [results, Try.results29, go_sem, Y2]) rfl ⟨rfl, S2.1.trans ((sets4 _ _ _ _ _ _).mono (by omega))⟩

set_option maxHeartbeats 1000000 in
theorem before_yes (avh avl ach acl bvh bvl bch bcl : BitVec 64) (w : World) (h1 : sndB avh avl ach acl = true) (h3 : agrB avh avl ach acl bvh bvl bch bcl = true) :
    Calls Try.prog 29 #[.agg #[.int .u64 (uv avh), .int .u64 (uv avl), .int .u64 (uv ach), .int .u64 (uv acl)], .agg #[.int .u64 (uv bvh), .int .u64 (uv bvl), .int .u64 (uv bch), .int .u64 (uv bcl)]] w fun e w' => e = .returned (.tuple #[.agg #[.int .u64 (uv (avh &&& (ach &&& ~~~bch))), .int .u64 (uv (avl &&& (acl &&& ~~~bcl))), .int .u64 (uv (ach &&& ~~~bch)), .int .u64 (uv (acl &&& ~~~bcl))], .bool true]) ∧ Below w.heap.size w w' := by
  have S0 : Below w.heap.size w (((w.alloc (.cells #[.int .u64 (uv avh), .int .u64 (uv avl), .int .u64 (uv ach), .int .u64 (uv acl)] 43)).alloc (.cells #[.int .u64 (uv bvh), .int .u64 (uv bvl), .int .u64 (uv bch), .int .u64 (uv bcl)] 43)).alloc (.cells #[.int .u64 0, .int .u64 0, .int .u64 0, .int .u64 0] 43)) ∧ (((w.alloc (.cells #[.int .u64 (uv avh), .int .u64 (uv avl), .int .u64 (uv ach), .int .u64 (uv acl)] 43)).alloc (.cells #[.int .u64 (uv bvh), .int .u64 (uv bvl), .int .u64 (uv bch), .int .u64 (uv bcl)] 43)).alloc (.cells #[.int .u64 0, .int .u64 0, .int .u64 0, .int .u64 0] 43)).cell? ⟨w.heap.size, 0, none⟩ = some (.int .u64 (uv avh)) ∧ (((w.alloc (.cells #[.int .u64 (uv avh), .int .u64 (uv avl), .int .u64 (uv ach), .int .u64 (uv acl)] 43)).alloc (.cells #[.int .u64 (uv bvh), .int .u64 (uv bvl), .int .u64 (uv bch), .int .u64 (uv bcl)] 43)).alloc (.cells #[.int .u64 0, .int .u64 0, .int .u64 0, .int .u64 0] 43)).cell? ⟨w.heap.size, 1, none⟩ = some (.int .u64 (uv avl)) ∧ (((w.alloc (.cells #[.int .u64 (uv avh), .int .u64 (uv avl), .int .u64 (uv ach), .int .u64 (uv acl)] 43)).alloc (.cells #[.int .u64 (uv bvh), .int .u64 (uv bvl), .int .u64 (uv bch), .int .u64 (uv bcl)] 43)).alloc (.cells #[.int .u64 0, .int .u64 0, .int .u64 0, .int .u64 0] 43)).cell? ⟨w.heap.size, 2, none⟩ = some (.int .u64 (uv ach)) ∧ (((w.alloc (.cells #[.int .u64 (uv avh), .int .u64 (uv avl), .int .u64 (uv ach), .int .u64 (uv acl)] 43)).alloc (.cells #[.int .u64 (uv bvh), .int .u64 (uv bvl), .int .u64 (uv bch), .int .u64 (uv bcl)] 43)).alloc (.cells #[.int .u64 0, .int .u64 0, .int .u64 0, .int .u64 0] 43)).cell? ⟨w.heap.size, 3, none⟩ = some (.int .u64 (uv acl)) ∧ (((w.alloc (.cells #[.int .u64 (uv avh), .int .u64 (uv avl), .int .u64 (uv ach), .int .u64 (uv acl)] 43)).alloc (.cells #[.int .u64 (uv bvh), .int .u64 (uv bvl), .int .u64 (uv bch), .int .u64 (uv bcl)] 43)).alloc (.cells #[.int .u64 0, .int .u64 0, .int .u64 0, .int .u64 0] 43)).cell? ⟨w.heap.size + 1, 0, none⟩ = some (.int .u64 (uv bvh)) ∧ (((w.alloc (.cells #[.int .u64 (uv avh), .int .u64 (uv avl), .int .u64 (uv ach), .int .u64 (uv acl)] 43)).alloc (.cells #[.int .u64 (uv bvh), .int .u64 (uv bvl), .int .u64 (uv bch), .int .u64 (uv bcl)] 43)).alloc (.cells #[.int .u64 0, .int .u64 0, .int .u64 0, .int .u64 0] 43)).cell? ⟨w.heap.size + 1, 1, none⟩ = some (.int .u64 (uv bvl)) ∧ (((w.alloc (.cells #[.int .u64 (uv avh), .int .u64 (uv avl), .int .u64 (uv ach), .int .u64 (uv acl)] 43)).alloc (.cells #[.int .u64 (uv bvh), .int .u64 (uv bvl), .int .u64 (uv bch), .int .u64 (uv bcl)] 43)).alloc (.cells #[.int .u64 0, .int .u64 0, .int .u64 0, .int .u64 0] 43)).cell? ⟨w.heap.size + 1, 2, none⟩ = some (.int .u64 (uv bch)) ∧ (((w.alloc (.cells #[.int .u64 (uv avh), .int .u64 (uv avl), .int .u64 (uv ach), .int .u64 (uv acl)] 43)).alloc (.cells #[.int .u64 (uv bvh), .int .u64 (uv bvl), .int .u64 (uv bch), .int .u64 (uv bcl)] 43)).alloc (.cells #[.int .u64 0, .int .u64 0, .int .u64 0, .int .u64 0] 43)).cell? ⟨w.heap.size + 1, 3, none⟩ = some (.int .u64 (uv bcl)) := ⟨below3 w (.cells #[.int .u64 (uv avh), .int .u64 (uv avl), .int .u64 (uv ach), .int .u64 (uv acl)] 43) (.cells #[.int .u64 (uv bvh), .int .u64 (uv bvl), .int .u64 (uv bch), .int .u64 (uv bcl)] 43) (.cells #[.int .u64 0, .int .u64 0, .int .u64 0, .int .u64 0] 43), by go_simp, by go_simp, by go_simp, by go_simp, by go_simp, by go_simp, by go_simp, by go_simp⟩
  have Z0 : Zero4 (((w.alloc (.cells #[.int .u64 (uv avh), .int .u64 (uv avl), .int .u64 (uv ach), .int .u64 (uv acl)] 43)).alloc (.cells #[.int .u64 (uv bvh), .int .u64 (uv bvl), .int .u64 (uv bch), .int .u64 (uv bcl)] 43)).alloc (.cells #[.int .u64 0, .int .u64 0, .int .u64 0, .int .u64 0] 43)) (w.heap.size + 1 + 1) := zero4_at ((w.alloc (.cells #[.int .u64 (uv avh), .int .u64 (uv avl), .int .u64 (uv ach), .int .u64 (uv acl)] 43)).alloc (.cells #[.int .u64 (uv bvh), .int .u64 (uv bvl), .int .u64 (uv bch), .int .u64 (uv bcl)] 43)) (w.heap.size + 1 + 1) (by simp)
  go_enter Try.func29, Try.ntmps29
  go_wp2_with fail
  (with_reducible refine (sound_c _ _ _ _ _).mono ?_)
  rintro e w1 ⟨rfl, hb1⟩
  have S1 := hold8 hb1 S0
  have Z1 := Zero4.on hb1 Z0
  clear hb1 S0 Z0
  go_wp2_with fail
  (with_reducible refine (agree_c _ _ _ _ _ _ _ _ _).mono ?_)
  rintro e w2 ⟨rfl, hb2⟩
  have S2 := hold8 hb2 S1
  have Z2 := Zero4.on hb2 Z1
  clear hb2 S1 Z1
  have D2 : Zero4 w2.drew (w.heap.size + 1 + 1) := Z2
  go_wp2_with fail
  go_region_held3 (fun w' => Below w.heap.size w w' ∧ w'.cell? ⟨w.heap.size, 0, none⟩ = some (.int .u64 (uv avh)) ∧ w'.cell? ⟨w.heap.size, 1, none⟩ = some (.int .u64 (uv avl)) ∧ w'.cell? ⟨w.heap.size, 2, none⟩ = some (.int .u64 (uv ach)) ∧ w'.cell? ⟨w.heap.size, 3, none⟩ = some (.int .u64 (uv acl)) ∧ w'.cell? ⟨w.heap.size + 1, 0, none⟩ = some (.int .u64 (uv bvh)) ∧ w'.cell? ⟨w.heap.size + 1, 1, none⟩ = some (.int .u64 (uv bvl)) ∧ w'.cell? ⟨w.heap.size + 1, 2, none⟩ = some (.int .u64 (uv bch)) ∧ w'.cell? ⟨w.heap.size + 1, 3, none⟩ = some (.int .u64 (uv bcl)))
    (first
      | exact hold8 (by assumption) (by assumption)
      | exact shold8 (sets4 _ _ _ _ _ _) (by assumption) (by omega) (by first | omega | (simp; done) | (simp; omega)) (by first | omega | (simp; done) | (simp; omega)) (by first | omega | (simp; done) | (simp; omega)) (by first | omega | (simp; done) | (simp; omega)) (by first | omega | (simp; done) | (simp; omega)) (by first | omega | (simp; done) | (simp; omega)) (by first | omega | (simp; done) | (simp; omega)) (by first | omega | (simp; done) | (simp; omega))
      | exact ⟨S2.1.drew, S2.2⟩)
    (first
      | (go_at_call 50; (with_reducible refine (less_c _ _ _ _ _).mono ?_); rintro e w' ⟨rfl, hb⟩; have Z := Zero4.on hb (by assumption); obtain ⟨z0, y0, z1, y1, z2, y2, z3, y3⟩ := Z.out)
      | (go_at_call 49; (with_reducible refine (make_c _ _ _ _ _).mono ?_); rintro e w' ⟨rfl, hb⟩; have Z := Zero4.on hb (by assumption); obtain ⟨z0, y0, z1, y1, z2, y2, z3, y3⟩ := Z.out))
  all_goals go_wp2
  all_goals exact bodyPost_ret (v := .tuple #[.agg #[.int .u64 (uv (avh &&& (ach &&& ~~~bch))), .int .u64 (uv (avl &&& (acl &&& ~~~bcl))), .int .u64 (uv (ach &&& ~~~bch)), .int .u64 (uv (acl &&& ~~~bcl))], .bool true]) (by simp [results, Try.results29, go_sem, z0, z1, z2, z3]) rfl ⟨rfl, And.left (by assumption)⟩

end Go.Proofs

namespace Go.Proofs
open Go.RowKit Go.Proofs.Hd
attribute [local go_sem] uv_and uv_or uv_xor uv_andNot uv_shr uv_shl uv_add uv_sub uv_nonneg
attribute [local go_sem high] run_eq2 run_eq4
end Go.Proofs

namespace Go.Proofs
open Go.RowKit Go.Proofs.Hd
def sel (c : Bool) (x : BitVec 64) : BitVec 64 := if c = true then x else 0#64
theorem sel_t (x : BitVec 64) : sel true x = x := rfl
theorem sel_f (x : BitVec 64) : uv (sel false x) = 0 := rfl
/-- Is the intersection not empty? -/
def metB (avh avl ach acl bvh bvl bch bcl : BitVec 64) : Bool := sndB avh avl ach acl && (sndB bvh bvl bch bcl && agrB avh avl ach acl bvh bvl bch bcl)
/-- Does the first care for all bits that the second cares for? -/
def inCa (ach acl bch bcl : BitVec 64) : Bool := (ach &&& bch == bch) && (acl &&& bcl == bcl)
def witB (avh avl ach acl bvh bvl bch bcl : BitVec 64) : Bool := sndB avh avl ach acl && (sndB bvh bvl bch bcl && (inCa ach acl bch bcl && agrB avh avl ach acl bvh bvl bch bcl))
def befB (avh avl ach acl bvh bvl bch bcl : BitVec 64) : Bool := sndB avh avl ach acl && agrB avh avl ach acl bvh bvl bch bcl
theorem meet_c (avh avl ach acl bvh bvl bch bcl : BitVec 64) (w : World) : Calls Try.prog 62 #[.agg #[.int .u64 (uv avh), .int .u64 (uv avl), .int .u64 (uv ach), .int .u64 (uv acl)], .agg #[.int .u64 (uv bvh), .int .u64 (uv bvl), .int .u64 (uv bch), .int .u64 (uv bcl)]] w fun e w' => e = .returned (.tuple #[.agg #[.int .u64 (uv (sel (metB avh avl ach acl bvh bvl bch bcl) (avh ||| bvh))), .int .u64 (uv (sel (metB avh avl ach acl bvh bvl bch bcl) (avl ||| bvl))), .int .u64 (uv (sel (metB avh avl ach acl bvh bvl bch bcl) (ach ||| bch))), .int .u64 (uv (sel (metB avh avl ach acl bvh bvl bch bcl) (acl ||| bcl)))], .bool (metB avh avl ach acl bvh bvl bch bcl)]) ∧ Below w.heap.size w w' := by
  cases h1 : sndB avh avl ach acl
  · rw [show metB avh avl ach acl bvh bvl bch bcl = false by unfold metB; rw [h1]; rfl]; simp only [sel_f]; exact meet_no1 _ _ _ _ _ _ _ _ _ h1
  · cases h2 : sndB bvh bvl bch bcl
    · rw [show metB avh avl ach acl bvh bvl bch bcl = false by unfold metB; rw [h1, h2]; rfl]; simp only [sel_f]; exact meet_no2 _ _ _ _ _ _ _ _ _ h1 h2
    · cases h3 : agrB avh avl ach acl bvh bvl bch bcl
      · rw [show metB avh avl ach acl bvh bvl bch bcl = false by unfold metB; rw [h1, h2, h3]; rfl]; simp only [sel_f]; exact meet_no3 _ _ _ _ _ _ _ _ _ h1 h2 h3
      · rw [show metB avh avl ach acl bvh bvl bch bcl = true by unfold metB; rw [h1, h2, h3]; rfl]; simp only [sel_t]; exact meet_yes _ _ _ _ _ _ _ _ _ h1 h2 h3

theorem pair_bits (a b c d : BitVec 64) : ((a == c) && (b == d)) = true ↔ ∀ j, j < 128 → hbit a b j = hbit c d j := by
  simp only [Bool.and_eq_true, beq_iff_eq]
  constructor
  · rintro ⟨rfl, rfl⟩ j _; rfl
  · exact fun h => head_ext h
theorem snd_bits (avh avl ach acl : BitVec 64) : sndB avh avl ach acl = true ↔ ∀ j, j < 128 → hbit avh avl j = true → hbit ach acl j = true := by
  unfold sndB
  rw [pair_bits]
  constructor
  · intro h j hj hv; have := h j hj; rw [hbit_and, hv] at this; simpa using this
  · intro h j hj; rw [hbit_and]; cases hv : hbit avh avl j with
    | false => rfl
    | true => rw [h j hj hv]; rfl
theorem agr_bits (avh avl ach acl bvh bvl bch bcl : BitVec 64) : agrB avh avl ach acl bvh bvl bch bcl = true ↔ ∀ j, j < 128 → hbit ach acl j = true → hbit bch bcl j = true → hbit avh avl j = hbit bvh bvl j := by
  unfold agrB
  rw [pair_bits]
  constructor
  · intro h j hj h1 h2; have := h j hj; simp only [hbit_and, h1, h2, Bool.and_true] at this; exact this
  · intro h j hj; simp only [hbit_and]
    cases h1 : hbit ach acl j <;> cases h2 : hbit bch bcl j <;> simp
    exact h j hj h1 h2
attribute [irreducible] sel metB witB befB inCa
end Go.Proofs

namespace Go.Proofs.Hd
open Go.RowKit
def Cb.V (c : Cb) (j : Nat) : Bool := hbit c.vh c.vl j
def Cb.K (c : Cb) (j : Nat) : Bool := hbit c.ch c.cl j
def Cb.snd (c : Cb) : Bool := sndB c.vh c.vl c.ch c.cl
def Cb.has (c : Cb) (h l : BitVec 64) : Bool := hasB c.vh c.vl c.ch c.cl h l
def Cb.agr (a b : Cb) : Bool := agrB a.vh a.vl a.ch a.cl b.vh b.vl b.ch b.cl
theorem Cb.snd_iff (c : Cb) : c.snd = true ↔ ∀ j, j < 128 → c.V j = true → c.K j = true := snd_bits _ _ _ _
theorem Cb.agr_iff (a b : Cb) : a.agr b = true ↔ ∀ j, j < 128 → a.K j = true → b.K j = true → a.V j = b.V j := agr_bits _ _ _ _ _ _ _ _
end Go.Proofs.Hd

namespace Go.Proofs.Hd
open Go.RowKit
/-- v is a slice of ports whose kinds are K. -/
def Po (w : World) (v : Value) (K : List Int) : Prop := (K = [] ∧ ∃ A cap, v = .slice A 0 cap) ∨ ∃ b off cap, v = .slice (some ⟨b, off, none⟩) K.length cap ∧ K.length ≤ maxLen ∧ b < w.heap.size ∧ ∀ (k : Nat) (x : Int), K[k]? = some x → w.cell? ⟨b, off + k * 5, none⟩ = some (.int .i64 x)
theorem Po.on {w w' : World} {v : Value} {K : List Int} (h : Po w v K) (hb : Below w.heap.size w w') : Po w' v K := by
  rcases h with h | ⟨b, off, cap, e, hl, hs, h⟩
  · exact .inl h
  · exact .inr ⟨b, off, cap, e, hl, Nat.lt_of_lt_of_le hs hb.size, fun k c hk => on_some hb (h k c hk)⟩
/-- Is n the number of a port of a kind? -/
def isP (K : List Int) (n kind : Int) : Bool := decide (0 ≤ n) && (K[n.toNat]? == some kind)
theorem isP_neg {K : List Int} {n : Int} (h : ¬ 0 ≤ n) (kind : Int) : isP K n kind = false := by simp [isP, h]
theorem isP_far {K : List Int} {n : Int} (h : ¬ n < (K.length : Int)) (kind : Int) : isP K n kind = false := by
  unfold isP
  by_cases h0 : 0 ≤ n
  · rw [List.getElem?_eq_none (by omega)]; simp
  · simp [h0]
theorem isP_at {K : List Int} {k : Nat} {x : Int} (h : K[k]? = some x) (kind : Int) : isP K (k : Int) kind = (x == kind) := by
  unfold isP
  rw [Int.toNat_natCast, h]
  simp
/-- May a rule of a table send headers where it does? -/
def leads (kind port tab table : Int) (K : List Int) : Bool :=
  if kind = 1 then decide (port = 0) && decide (tab = 0) else if kind = 2 then isP K port 1 && decide (tab = 0) else if kind = 3 then isP K port 2 && decide (tab = 0) else if kind = 4 then decide (table < tab) && decide (tab < 3) && decide (port = 0) else false
/-- Is a rule sound at a table of a switch with ports of these kinds? -/
def sndR (r : Rl) (table : Int) (K : List Int) : Bool := decide (0 ≤ r.pri) && decide (r.pri ≤ 1048576) && r.m.snd && r.s.snd && leads r.kind r.port r.tab table K
end Go.Proofs.Hd
namespace Go.Proofs
open Go.RowKit Go.Proofs.Hd Go.Sort
attribute [local go_sem] uv_nonneg
set_option maxRecDepth 100000 in
theorem isPort_c (x : Bool) (v : Value) (K : List Int) (n kind : Int) (w : World) (hx : isP K n kind = x) (hv : Po w v K) : Calls Try.prog 82 #[v, .int .i64 n, .int .i64 kind] w fun e w' => e = .returned (.bool x) ∧ Below w.heap.size w w' := by
  obtain ⟨A, cap, hA⟩ : ∃ A cap, v = .slice A K.length cap := by
    rcases hv with ⟨rfl, A, cap, rfl⟩ | ⟨b, off, cap, rfl, _⟩ <;> exact ⟨_, _, rfl⟩
  by_cases h0 : 0 ≤ n
  · by_cases h1 : n < (K.length : Int)
    · obtain ⟨k, rfl⟩ : ∃ k : Nat, n = (k : Int) := ⟨n.toNat, by omega⟩
      have hk : k < K.length := by omega
      obtain ⟨y, hy⟩ : ∃ y, K[k]? = some y := ⟨_, List.getElem?_eq_getElem hk⟩
      rcases hv with ⟨rfl, _⟩ | ⟨b, off, cap, rfl, hl, hb, hc⟩
      · simp at hk
      have c := hc k y hy
      rw [isP_at hy] at hx
      have hl2 : (K.length : Int) ≤ 9223372036854775807 := by unfold maxLen at hl; omega
      clear hc hy hA
      go_enter Try.func82, Try.ntmps82
      go_wp2
      go_ret
      exact ⟨by subst hx; rfl, Below.refl _ _⟩
    · rw [isP_far h1] at hx
      subst hx hA
      clear hv
      go_enter Try.func82, Try.ntmps82
      go_wp2
      go_ret
      exact ⟨rfl, Below.refl _ _⟩
  · rw [isP_neg h0] at hx
    subst hx hA
    clear hv
    go_enter Try.func82, Try.ntmps82
    go_wp2
    go_ret
    exact ⟨rfl, Below.refl _ _⟩
set_option maxRecDepth 100000 in
set_option maxHeartbeats 4000000 in
theorem leads_c (x : Bool) (r : Rl) (table : Int) (v : Value) (K : List Int) (w : World) (hx : leads r.kind r.port r.tab table K = x) (hv : Po w v K) : Calls Try.prog 75 #[.agg #[.int .i64 r.pri, .int .u64 (uv r.m.vh), .int .u64 (uv r.m.vl), .int .u64 (uv r.m.ch), .int .u64 (uv r.m.cl), .int .i64 r.kind, .int .i64 r.port, .int .i64 r.tab, .int .u64 (uv r.s.vh), .int .u64 (uv r.s.vl), .int .u64 (uv r.s.ch), .int .u64 (uv r.s.cl)], .int .i64 table, v] w fun e w' => e = .returned (.bool x) ∧ Below w.heap.size w w' := by
  obtain ⟨pri, m, kind, port, tab, s⟩ := r
  dsimp only at hx ⊢
  have B0 := below1 w (.cells #[.int .i64 pri, .int .u64 (uv m.vh), .int .u64 (uv m.vl), .int .u64 (uv m.ch), .int .u64 (uv m.cl), .int .i64 kind, .int .i64 port, .int .i64 tab, .int .u64 (uv s.vh), .int .u64 (uv s.vl), .int .u64 (uv s.ch), .int .u64 (uv s.cl)] 139)
  unfold leads at hx
  by_cases k1 : kind = 1
  · subst k1
    rw [if_pos rfl] at hx
    by_cases hp : port = 0
    · subst hp
      by_cases ht : tab = 0
      · subst ht
        subst hx
        go_enter Try.func75, Try.ntmps75
        go_wp2
        go_ret
        exact ⟨by simp, B0⟩
      · simp [ht] at hx
        subst hx
        go_enter Try.func75, Try.ntmps75
        go_wp2
        go_ret
        exact ⟨by simp [ht], B0⟩
    · simp [hp] at hx
      subst hx
      go_enter Try.func75, Try.ntmps75
      go_wp2
      go_ret
      exact ⟨by simp, B0⟩
  rw [if_neg k1] at hx
  by_cases k2 : kind = 2
  · subst k2
    rw [if_pos rfl] at hx
    cases hp : isP K port 1 with
    | true =>
      rw [hp] at hx
      go_enter Try.func75, Try.ntmps75
      go_wp2_with fail
      refine (isPort_c true v K port 1 _ hp (hv.on B0)).mono ?_
      rintro e w1 ⟨rfl, hb⟩
      have c7 : w1.cell? ⟨w.heap.size, 7, none⟩ = some (.int .i64 tab) := on_some hb (by go_simp)
      have B := B0.trans (hb.mono B0.size)
      clear B0 hb hv
      by_cases ht : tab = 0
      · subst ht; subst hx
        go_wp2
        go_ret
        exact ⟨by simp, B⟩
      · simp [ht] at hx; subst hx
        go_wp2
        go_ret
        exact ⟨by simp [ht], B⟩
    | false =>
      rw [hp] at hx
      simp at hx
      subst hx
      go_enter Try.func75, Try.ntmps75
      go_wp2_with fail
      refine (isPort_c false v K port 1 _ hp (hv.on B0)).mono ?_
      rintro e w1 ⟨rfl, hb⟩
      have B := B0.trans (hb.mono B0.size)
      clear B0 hb hv
      go_wp2
      go_ret
      exact ⟨by simp, B⟩
  rw [if_neg k2] at hx
  by_cases k3 : kind = 3
  · subst k3
    rw [if_pos rfl] at hx
    cases hp : isP K port 2 with
    | true =>
      rw [hp] at hx
      go_enter Try.func75, Try.ntmps75
      go_wp2_with fail
      refine (isPort_c true v K port 2 _ hp (hv.on B0)).mono ?_
      rintro e w1 ⟨rfl, hb⟩
      have c7 : w1.cell? ⟨w.heap.size, 7, none⟩ = some (.int .i64 tab) := on_some hb (by go_simp)
      have B := B0.trans (hb.mono B0.size)
      clear B0 hb hv
      by_cases ht : tab = 0
      · subst ht; subst hx
        go_wp2
        go_ret
        exact ⟨by simp, B⟩
      · simp [ht] at hx; subst hx
        go_wp2
        go_ret
        exact ⟨by simp [ht], B⟩
    | false =>
      rw [hp] at hx
      simp at hx
      subst hx
      go_enter Try.func75, Try.ntmps75
      go_wp2_with fail
      refine (isPort_c false v K port 2 _ hp (hv.on B0)).mono ?_
      rintro e w1 ⟨rfl, hb⟩
      have B := B0.trans (hb.mono B0.size)
      clear B0 hb hv
      go_wp2
      go_ret
      exact ⟨by simp, B⟩
  rw [if_neg k3] at hx
  by_cases k4 : kind = 4
  · subst k4
    rw [if_pos rfl] at hx
    by_cases h1 : table < tab
    · by_cases h2 : tab < 3
      · by_cases h3 : port = 0
        · subst h3
          simp [h1, h2] at hx
          subst hx
          go_enter Try.func75, Try.ntmps75
          go_wp2
          go_ret
          exact ⟨by simp, B0⟩
        · simp [h3] at hx
          subst hx
          go_enter Try.func75, Try.ntmps75
          go_wp2
          go_ret
          exact ⟨by simp [h3], B0⟩
      · simp [h2] at hx
        subst hx
        go_enter Try.func75, Try.ntmps75
        go_wp2
        go_ret
        exact ⟨by simp, B0⟩
    · simp [h1] at hx
      subst hx
      go_enter Try.func75, Try.ntmps75
      go_wp2
      go_ret
      exact ⟨by simp, B0⟩
  rw [if_neg k4] at hx
  subst hx
  go_enter Try.func75, Try.ntmps75
  go_wp2
  go_ret
  exact ⟨by simp, B0⟩
end Go.Proofs

namespace Go.Proofs.Ytanliiopdhjhjaa
open Go.ChangeShapes Go.WideShapes Go.ChangeAt Go.RowKit Go.Joins Go.Deep Go.Proofs.Hd
theorem cellsRule : Try.prog.cellsOf 51 = 12 := by kernel_rfl
theorem cellsDo : Try.prog.cellsOf 49 = 7 := by kernel_rfl
theorem cellsInt : Try.prog.cellsOf 3 = 1 := by kernel_rfl
section
variable {H : Type} {enc : TypeId × Value → H} {W : World} {base : Nat} {sp : Nat → Bool}
set_option maxRecDepth 100000 in
theorem read_cube4 {n : Nat} {c0 c1 c2 c3 : Value} {y : DataW H × List MemPlace} (h0 : DataW.trod enc Try.prog W base sp true n 43 [c0, c1, c2, c3] = some y) :
    ∃ c : Cb, c0 = .int .u64 (uv c.vh) ∧ c1 = .int .u64 (uv c.vl) ∧ c2 = .int .u64 (uv c.ch) ∧ c3 = .int .u64 (uv c.cl) := by
  obtain ⟨y0, y1, m, _, _, q0, q1⟩ := trod_struct2 Try.underlying43 h0
  have q0' : DataW.trod enc Try.prog W base sp true m 41 [c0, c1] = some y0 := by simpa [cellsHead] using q0
  have q1' : DataW.trod enc Try.prog W base sp true m 41 [c2, c3] = some y1 := by simpa [cellsHead] using q1
  obtain ⟨vh, vl, rfl, rfl, _⟩ := read_head q0'
  obtain ⟨ch, cl, rfl, rfl, _⟩ := read_head q1'
  exact ⟨⟨vh, vl, ch, cl⟩, rfl, rfl, rfl, rfl⟩
set_option maxRecDepth 100000 in
theorem read_rule {n : Nat} {cs : List Value} {y : DataW H × List MemPlace} (hl : cs.length = 12) (h0 : DataW.trod enc Try.prog W base sp true n 51 cs = some y) : ∃ r : Rl, cs = r.cs := by
  match cs, hl with
  | [c0, c1, c2, c3, c4, c5, c6, c7, c8, c9, c10, c11], _ =>
    obtain ⟨y0, y1, y2, m, _, _, q0, q1, q2⟩ := trod_struct3 Try.underlying51 h0
    have q0' : DataW.trod enc Try.prog W base sp true m 3 [c0] = some y0 := by simpa [cellsInt] using q0
    have q1' : DataW.trod enc Try.prog W base sp true m 43 [c1, c2, c3, c4] = some y1 := by simpa [cellsCube] using q1
    have q2' : DataW.trod enc Try.prog W base sp true m 49 [c5, c6, c7, c8, c9, c10, c11] = some y2 := by simpa [cellsDo] using q2
    obtain ⟨pri, e0, _, _⟩ := DataW.trod_int Try.underlying3 q0'
    obtain ⟨cm, e1, e2, e3, e4⟩ := read_cube4 q1'
    obtain ⟨z0, z1, z2, z3, m', _, _, s0, s1, s2, s3⟩ := trod_struct4 Try.underlying49 q2'
    have s0' : DataW.trod enc Try.prog W base sp true m' 3 [c5] = some z0 := by simpa [cellsInt] using s0
    have s1' : DataW.trod enc Try.prog W base sp true m' 3 [c6] = some z1 := by simpa [cellsInt] using s1
    have s2' : DataW.trod enc Try.prog W base sp true m' 3 [c7] = some z2 := by simpa [cellsInt] using s2
    have s3' : DataW.trod enc Try.prog W base sp true m' 43 [c8, c9, c10, c11] = some z3 := by simpa [cellsCube] using s3
    obtain ⟨kind, e5, _, _⟩ := DataW.trod_int Try.underlying3 s0'
    obtain ⟨port, e6, _, _⟩ := DataW.trod_int Try.underlying3 s1'
    obtain ⟨tab, e7, _, _⟩ := DataW.trod_int Try.underlying3 s2'
    obtain ⟨cset, e8, e9, e10, e11⟩ := read_cube4 s3'
    simp at e0 e5 e6 e7
    subst e0 e1 e2 e3 e4 e5 e6 e7 e8 e9 e10 e11
    exact ⟨⟨pri, cm, kind, port, tab, cset⟩, rfl⟩
end
end Go.Proofs.Ytanliiopdhjhjaa

namespace Go.Proofs
open Go.RowKit Go.Proofs.Hd
attribute [local go_sem] uv_and uv_or uv_xor uv_andNot uv_shr uv_shl uv_add uv_sub uv_nonneg uv_shl_one uv_sub_one uv_and_one uv_div_2 uv_div_4 uv_div_16 uv_div_256 uv_div_65536 uv_div_big uv_and_m0 uv_and_m1 uv_and_m2
theorem ret_int {k : IntKind} {a b : Int} (h : a = b) : Ending.returned (.int k a) = .returned (.int k b) := by rw [h]
theorem field_yes (a b : Nat) (w : World) (h : a + b ≤ 128) : Calls Try.prog 86 #[.int .i64 a, .int .i64 b] w fun e w' => e = .returned (.bool true) ∧ w = w' := by
  have h1 : (0 : Int) ≤ a := by omega
  have h2 : (0 : Int) ≤ b := by omega
  have h3 : (b : Int) ≤ 128 - a := by omega
  have h4 : (a : Int) ≤ 128 := by omega
  go_enter Try.func86, Try.ntmps86
  go_wp2
  go_ret
  exact ⟨rfl, rfl⟩

theorem number_yes (a b : Nat) (w : World) (h : a + b ≤ 128) (h64 : b ≤ 64) : Calls Try.prog 83 #[.int .i64 a, .int .i64 b] w fun e w' => e = .returned (.bool true) ∧ w = w' := by
  have h3 : decide ((b : Int) ≤ 64) = true := by simp; omega
  go_enter Try.func83, Try.ntmps83
  go_wp2_with (go_at_call 86; refine (field_yes _ _ _ h).mono ?_; rintro e w' ⟨rfl, rfl⟩)
  go_ret
  exact ⟨rfl, rfl⟩

theorem lowest_c (n : Nat) (w : World) (h : n ≤ 64) : Calls Try.prog 84 #[.int .i64 n] w fun e w' => e = .returned (.int .u64 (uv (low n))) ∧ w = w' := by
  go_enter Try.func84, Try.ntmps84
  go_wp2
  go_ret
  exact ⟨rfl, rfl⟩

theorem up_hi (v : BitVec 64) (n : Nat) (w : World) (h1 : 64 ≤ n) (h2 : n ≤ 128) : Calls Try.prog 85 #[.int .u64 (uv v), .int .i64 n] w fun e w' => e = .returned (.agg #[.int .u64 (uv (upHi v n)), .int .u64 (uv (upLo v n))]) ∧ Below w.heap.size w w' := by
  go_enter Try.func85, Try.ntmps85
  go_wp2
  exact bodyPost_ret (v := .agg #[.int .u64 (uv (v <<< (n - 64))), .int .u64 (uv 0#64)]) (by simp [results, Try.results85, go_sem, ← uv_zero]) rfl ⟨by rw [upHi, upLo, if_pos h1, if_pos h1], (Below.refl _ _).alloc (Nat.le_refl _) _⟩

theorem up_lo (v : BitVec 64) (n : Nat) (w : World) (h1 : n < 64) : Calls Try.prog 85 #[.int .u64 (uv v), .int .i64 n] w fun e w' => e = .returned (.agg #[.int .u64 (uv (upHi v n)), .int .u64 (uv (upLo v n))]) ∧ Below w.heap.size w w' := by
  go_enter Try.func85, Try.ntmps85
  go_wp2
  go_region
  go_wp2
  exact bodyPost_ret (v := .agg #[.int .u64 (uv (v >>> (64 - n))), .int .u64 (uv (v <<< n))]) (by simp [results, Try.results85, go_sem]) rfl ⟨by rw [upHi, upLo, if_neg (by omega), if_neg (by omega)], ((Below.refl _ _).alloc (Nat.le_refl _) _).drew⟩

theorem lowest_i (x : Int) (w : World) (h0 : 0 ≤ x) (h : x ≤ 64) : Calls Try.prog 84 #[.int .i64 x] w fun e w' => e = .returned (.int .u64 (uv (low x.toNat))) ∧ w = w' := by
  have := lowest_c x.toNat w (by omega)
  rwa [Int.toNat_of_nonneg h0] at this

theorem below_lo (n : Nat) (w : World) (h : n < 64) : Calls Try.prog 87 #[.int .i64 n] w fun e w' => e = .returned (.agg #[.int .u64 (uv (low (n - 64))), .int .u64 (uv (low (min n 64)))]) ∧ Below w.heap.size w w' := by
  have h1 : (n : Int) - 64 < 0 := by omega
  have h2 : (n : Int) < 64 := by omega
  go_enter Try.func87, Try.ntmps87
  go_wp2_with (go_at_call 84; refine (lowest_i _ _ (by omega) (by omega)).mono ?_; rintro e w' ⟨rfl, rfl⟩)
  refine bodyPost_ret (v := .agg #[.int .u64 (uv (low 0)), .int .u64 (uv (low n))]) (by simp [results, Try.results87, go_sem]) rfl ⟨by rw [Nat.min_eq_left (by omega), show n - 64 = 0 by omega], (Below.refl _ _).alloc (Nat.le_refl _) _⟩

theorem below_hi (n : Nat) (w : World) (h : 64 < n) (h' : n ≤ 128) : Calls Try.prog 87 #[.int .i64 n] w fun e w' => e = .returned (.agg #[.int .u64 (uv (low (n - 64))), .int .u64 (uv (low (min n 64)))]) ∧ Below w.heap.size w w' := by
  have h1 : (0 : Int) ≤ (n : Int) - 64 := by omega
  have h2 : (64 : Int) < n := by omega
  rw [Nat.min_eq_right (by omega)]
  go_enter Try.func87, Try.ntmps87
  go_wp2_with (go_at_call 84; refine (lowest_i _ _ (by omega) (by omega)).mono ?_; rintro e w' ⟨rfl, rfl⟩)
  refine bodyPost_ret (v := .agg #[.int .u64 (uv (low (n - 64))), .int .u64 (uv (low 64))]) (by simp [results, Try.results87, go_sem]) rfl ⟨rfl, (Below.refl _ _).alloc (Nat.le_refl _) _⟩

theorem below_64 (w : World) : Calls Try.prog 87 #[.int .i64 64] w fun e w' => e = .returned (.agg #[.int .u64 (uv (low 0)), .int .u64 (uv (low 64))]) ∧ Below w.heap.size w w' := by
  go_enter Try.func87, Try.ntmps87
  go_wp2_with (go_at_call 84; refine (lowest_i _ _ (by omega) (by omega)).mono ?_; rintro e w' ⟨rfl, rfl⟩)
  refine bodyPost_ret (v := .agg #[.int .u64 (uv (low 0)), .int .u64 (uv (low 64))]) (by simp [results, Try.results87, go_sem]) rfl ⟨rfl, (Below.refl _ _).alloc (Nat.le_refl _) _⟩

theorem below_c (n : Nat) (w : World) (h : n ≤ 128) : Calls Try.prog 87 #[.int .i64 n] w fun e w' => e = .returned (.agg #[.int .u64 (uv (low (n - 64))), .int .u64 (uv (low (min n 64)))]) ∧ Below w.heap.size w w' := by
  by_cases h1 : 64 < n
  · exact below_hi n w h1 h
  · by_cases h2 : n = 64
    · subst h2; exact below_64 w
    · exact below_lo n w (by omega)

theorem ones64_c (a : BitVec 64) (w : World) : Calls Try.prog 72 #[.int .u64 (uv a)] w fun e w' => e = .returned (.int .i64 (ones a)) ∧ w = w' := by
  go_enter Try.func72, Try.ntmps72
  go_wp2
  go_ret
  exact ⟨ret_int (swar_ones a), rfl⟩

end Go.Proofs

namespace Go.Proofs
open Go.RowKit Go.Proofs.Hd
attribute [local go_sem] uv_and uv_or uv_xor uv_andNot uv_shr uv_shl uv_add uv_sub uv_nonneg uv_shl_one uv_sub_one uv_and_one
theorem below_i (x : Int) (w : World) (h0 : 0 ≤ x) (h : x ≤ 128) : Calls Try.prog 87 #[.int .i64 x] w fun e w' => e = .returned (.agg #[.int .u64 (uv (low (x.toNat - 64))), .int .u64 (uv (low (min x.toNat 64)))]) ∧ Below w.heap.size w w' := by
  have := below_c x.toNat w (by omega)
  rwa [Int.toNat_of_nonneg h0] at this

theorem mask_c (a n : Nat) (w : World) (h : a + n ≤ 128) : Calls Try.prog 77 #[.int .i64 a, .int .i64 n] w fun e w' => e = .returned (.tuple #[.agg #[.int .u64 (uv (maskH a n)), .int .u64 (uv (maskL a n))], .int .i64 0]) ∧ Below w.heap.size w w' := by
  go_enter Try.func77, Try.ntmps77
  go_wp2_with (go_at_call 86; refine (field_yes _ _ _ h).mono ?_; rintro e w' ⟨rfl, rfl⟩)
  refine (below_i _ _ (by omega) (by omega)).mono ?_
  rintro e w1 ⟨rfl, hb1⟩
  go_wp2_with fail
  refine (below_i _ _ (by omega) (by omega)).mono ?_
  rintro e w2 ⟨rfl, hb2⟩
  go_wp2_with fail
  refine (less_c _ _ _ _ _).mono ?_
  rintro e w3 ⟨rfl, hb3⟩
  have hb : Below (w.heap.size + 1) (w.alloc (.cells #[.int .u64 0, .int .u64 0] 41)) w3 := ((hb1.trans (hb2.mono hb1.size)).trans (hb3.mono (Nat.le_trans hb1.size hb2.size))).mono (by simp)
  have hc : ∀ o, w3.cell? ⟨w.heap.size, o, none⟩ = (w.alloc (.cells #[.int .u64 0, .int .u64 0] 41)).cell? ⟨w.heap.size, o, none⟩ := fun o => hb.cell (p := ⟨w.heap.size, o, none⟩) (by simp)
  have hf : ∀ o, w3.frozen? ⟨w.heap.size, o, none⟩ = (w.alloc (.cells #[.int .u64 0, .int .u64 0] 41)).frozen? ⟨w.heap.size, o, none⟩ := fun o => hb.frozen (p := ⟨w.heap.size, o, none⟩) (by simp)
  go_wp2
  exact bodyPost_ret (v := .tuple #[.agg #[.int .u64 (uv (maskH a n)), .int .u64 (uv (maskL a n))], .int .i64 0]) (by simp [results, Try.results77, go_sem, hc, maskH, maskL]) rfl ⟨rfl, ((((Below.refl _ w).alloc (Nat.le_refl _) _).trans (hb.mono (by omega))).setCell (by simp) _).setCell (by simp) _⟩

end Go.Proofs

namespace Go.Proofs
open Go.RowKit Go.Proofs.Hd
attribute [local go_sem] uv_and uv_or uv_xor uv_andNot uv_shr uv_shl uv_add uv_sub uv_nonneg uv_shl_one uv_sub_one uv_and_one
theorem up_c (v : BitVec 64) (n : Nat) (w : World) (h2 : n ≤ 128) : Calls Try.prog 85 #[.int .u64 (uv v), .int .i64 n] w fun e w' => e = .returned (.agg #[.int .u64 (uv (upHi v n)), .int .u64 (uv (upLo v n))]) ∧ Below w.heap.size w w' := by
  by_cases h1 : 64 ≤ n
  · exact up_hi v n w h1 h2
  · exact up_lo v n w (by omega)

theorem later {B : Nat} {W0 w1 w2 : World} (hb : Below w1.heap.size w1 w2) (h : Below B W0 w1) (hB : B ≤ W0.heap.size) : Below B W0 w2 :=
  h.trans (hb.mono (Nat.le_trans hB h.size))
theorem six {w w' : World} {h l : BitVec 64} (J : Below (w.heap.size + 2) ((w.alloc (.cells #[.int .u64 (uv h), .int .u64 (uv l)] 41)).alloc (.cells #[.int .u64 0, .int .u64 0] 41)) w') : w'.cell? ⟨w.heap.size, 0, none⟩ = some (.int .u64 (uv h)) ∧ w'.cell? ⟨w.heap.size, 1, none⟩ = some (.int .u64 (uv l)) ∧
    w'.cell? ⟨w.heap.size + 1, 0, none⟩ = some (.int .u64 0) ∧ w'.cell? ⟨w.heap.size + 1, 1, none⟩ = some (.int .u64 0) ∧ w'.frozen? ⟨w.heap.size + 1, 0, none⟩ = false ∧ w'.frozen? ⟨w.heap.size + 1, 1, none⟩ = false := by
  refine ⟨?_, ?_, ?_, ?_, ?_, ?_⟩
  · rw [J.cell (by simp <;> omega)]; simp
  · rw [J.cell (by simp <;> omega)]; simp
  · rw [J.cell (by simp)]; simp
  · rw [J.cell (by simp)]; simp
  · rw [J.frozen (by simp)]; simp
  · rw [J.frozen (by simp)]; simp

set_option maxHeartbeats 1000000 in
theorem put_c (h l : BitVec 64) (a n : Nat) (v : BitVec 64) (w : World) (hn : a + n ≤ 128) (h64 : n ≤ 64) (hv : ¬ uv (low n) < uv v) :
    Calls Try.prog 76 #[.agg #[.int .u64 (uv h), .int .u64 (uv l)], .int .i64 a, .int .i64 n, .int .u64 (uv v)] w fun e w' => e = .returned (.tuple #[.agg #[.int .u64 (uv (putH h a n v)), .int .u64 (uv (putL l a n v))], .int .i64 0]) ∧ Below w.heap.size w w' := by
  go_enter Try.func76, Try.ntmps76
  go_wp2_with (first | (go_at_call 83; refine (number_yes _ _ _ hn h64).mono ?_; rintro e w' ⟨rfl, rfl⟩) | (go_at_call 84; refine (lowest_c _ _ h64).mono ?_; rintro e w' ⟨rfl, rfl⟩))
  have J0 : Below (w.heap.size + 2) ((w.alloc (.cells #[.int .u64 (uv h), .int .u64 (uv l)] 41)).alloc (.cells #[.int .u64 0, .int .u64 0] 41)) ((w.alloc (.cells #[.int .u64 (uv h), .int .u64 (uv l)] 41)).alloc (.cells #[.int .u64 0, .int .u64 0] 41)).drew := (Below.refl _ _).drew
  go_region_with (first
      | (go_at_call 84; refine (lowest_c _ _ h64).mono ?_; rintro e w' ⟨rfl, rfl⟩)
      | (go_at_call 85; refine (up_c _ _ _ (by omega)).mono ?_; rintro e w' ⟨rfl, hb⟩; have J := later hb (by assumption) (by simp); clear hb; obtain ⟨q1, q2, q3, q4, q5, q6⟩ := six J)
      | (go_at_call 50; refine (less_c _ _ _ _ _).mono ?_; rintro e w' ⟨rfl, hb⟩; have J := later hb (by assumption) (by simp); clear hb; obtain ⟨q1, q2, q3, q4, q5, q6⟩ := six J)
      | (go_at_call 78; refine (or_c _ _ _ _ _).mono ?_; rintro e w' ⟨rfl, hb⟩; have J := later hb (by assumption) (by simp); clear hb; obtain ⟨q1, q2, q3, q4, q5, q6⟩ := six J))
  all_goals go_wp2
  all_goals (refine bodyPost_ret (v := .tuple #[.agg #[.int .u64 (uv (putH h a n v)), .int .u64 (uv (putL l a n v))], .int .i64 0]) (by simp [results, Try.results76, go_sem, q3, q4, putH, putL]) rfl ⟨rfl, ?_⟩)
  all_goals exact ((((((Below.refl _ w).alloc (Nat.le_refl _) _).alloc (by simp) _).trans ((by assumption : Below (w.heap.size + 2) ((w.alloc (.cells #[.int .u64 (uv h), .int .u64 (uv l)] 41)).alloc (.cells #[.int .u64 0, .int .u64 0] 41)) _).mono (by omega))).setCell (by simp) _).setCell (by simp) _)

end Go.Proofs

namespace Go.Proofs
open Go.RowKit Go.Proofs.Hd
attribute [local go_sem] uv_and uv_or uv_xor uv_andNot uv_shr uv_shl uv_add uv_sub uv_nonneg uv_shl_one uv_sub_one uv_and_one
end Go.Proofs

namespace Go.Proofs
open Go.RowKit Go.Proofs.Hd

end Go.Proofs

namespace Go.Proofs.Hd
open Go.RowKit
/-- An array of 128 bools. -/
def bl (f : Nat → Bool) : List Value := (List.range 128).map fun i => Value.bool (f i)
theorem bl_len (f : Nat → Bool) : (bl f).length = 128 := by simp [bl]
theorem bl_size (f : Nat → Bool) : (bl f).toArray.size = 128 := by simp [bl]
theorem bl_get (f : Nat → Bool) (k : Nat) (h : k < 128) : (bl f)[k]? = some (.bool (f k)) := by simp [bl, h]
theorem bl_one (f : Nat → Bool) : ∀ v ∈ bl f, v.oneCell' = true := by
  intro v hv; simp only [bl, List.mem_map] at hv; obtain ⟨i, _, rfl⟩ := hv; rfl
theorem bl_all (f : Nat → Bool) : (bl f).toArray.all (·.oneCell') = true := all_oneCell_toArray (bl_one f)
theorem bl_congr {f g : Nat → Bool} (h : ∀ j, j < 128 → f j = g j) : bl f = bl g := by
  unfold bl; apply List.map_congr_left; intro i hi; rw [h i (by simpa using hi)]
theorem bl_set (f : Nat → Bool) (k : Nat) (b : Bool) : (bl f).set k (.bool b) = bl (fun j => if j = k then b else f j) := by
  apply List.ext_getElem?
  intro i
  rw [List.getElem?_set]
  by_cases hi : i < 128
  · by_cases e : k = i
    · subst e; simp [bl, hi]
    · simp [bl, hi, e, show ¬ i = k from fun h => e h.symm]
  · have : (bl (fun j => if j = k then b else f j))[i]? = none := by simp [bl]; omega
    rw [this]
    by_cases e : k = i
    · subst e; simp [bl, hi]
    · simp [e, bl]; omega
/-- The first k of f, the others false. -/
def upTo (f : Nat → Bool) (k : Nat) : Nat → Bool := fun j => decide (j < k) && f j
theorem upTo_zero (f : Nat → Bool) : bl (upTo f 0) = bl (fun _ => false) := bl_congr fun j _ => by simp [upTo]
theorem upTo_all (f : Nat → Bool) : bl (upTo f 128) = bl f := bl_congr fun j hj => by simp [upTo, hj]
theorem upTo_set (f : Nat → Bool) (k : Nat) (b : Bool) (h : b = f k) : (bl (upTo f k)).set k (.bool b) = bl (upTo f (k + 1)) := by
  subst h
  rw [bl_set]
  apply bl_congr
  intro j _
  unfold upTo
  by_cases e : j = k
  · subst e; simp
  · have : (j < k + 1) ↔ (j < k) := by omega
    simp [e, this]
theorem uv_odd (x : BitVec 64) : ((uv x).tmod 2 == 1) = x.getLsbD 0 := by
  rw [Int.tmod_eq_emod_of_nonneg (uv_nonneg x)]
  unfold uv
  rw [BitVec.getLsbD, Nat.testBit_zero, Bool.eq_iff_iff]
  simp only [beq_iff_eq, decide_eq_true_eq]
  omega
theorem bit_lo (h l : BitVec 64) (k : Nat) (hk : k < 64) : ((uv (l >>> k)).tmod 2 == 1) = hbit h l k := by
  rw [uv_odd, BitVec.getLsbD_ushiftRight, hbit, if_pos hk, Nat.add_zero]
theorem bit_hi (h l : BitVec 64) (k : Nat) (hk : ¬ k < 64) : ((uv (h >>> (k - 64))).tmod 2 == 1) = hbit h l k := by
  rw [uv_odd, BitVec.getLsbD_ushiftRight, hbit, if_neg hk, Nat.add_zero]
theorem Below.setRow {B : Nat} {a w : World} (h : Below B a w) {g : Nat} (hg : B ≤ g) (cs : Array Value) : Below B a (w.setRow g cs) :=
  h.trans ⟨rfl, rfl, rfl, by simp, fun k hk => setRow_other _ _ _ _ (by omega)⟩
/-- A whole array of bools lies at the head of block b. -/
theorem range_of_alloc (w : World) (f : Nat → Bool) (t : TypeId) : (w.alloc (.cells (bl f).toArray t)).rangeAt w.heap.size 0 (bl f) := by
  intro j v hv
  rw [Nat.zero_add, World.cell?_alloc_new]
  simpa using hv
theorem Below.setCells {B b : Nat} {a : World} : ∀ (vs : List Value) (o : Nat) (w : World), Below B a w → B ≤ b → Below B a (w.setCells b o vs)
  | [], _, _, h, _ => h
  | v :: r, o, _, h, hb => Below.setCells r (o + 1) _ (h.setCell (p := ⟨b, o, none⟩) hb v) hb
theorem range_below {B b o : Nat} {cs : List Value} {w w' : World} (hb : Below B w w') (h : w.rangeAt b o cs) (hl : b < B) : w'.rangeAt b o cs :=
  fun j v hv => (hb.cell (p := ⟨b, o + j, none⟩) hl).trans (h j v hv)
theorem there_below {B b o n : Nat} {w w' : World} (hb : Below B w w') (h : w.there b o n) (hl : b < B) : w'.there b o n := by
  intro j hj
  have e1 := hb.cell (p := ⟨b, o + j, none⟩) hl
  have e2 := hb.frozen (p := ⟨b, o + j, none⟩) hl
  rw [e1, e2]; exact h j hj
theorem there_of_alloc (w : World) (f : Nat → Bool) (t : TypeId) : (w.alloc (.cells (bl f).toArray t)).there w.heap.size 0 128 := by
  intro j hj
  rw [Nat.zero_add, World.cell?_alloc_new]
  exact ⟨by simp [bl, hj], by simp⟩
attribute [irreducible] bl
end Go.Proofs.Hd

namespace Go.Proofs
open Go.RowKit Go.Proofs.Hd
attribute [local go_sem] uv_shr uv_nonneg
theorem info25 : (Try.prog.info? 92).map (fun i => (i.zero, i.size)) = some (some (.agg (bl (fun _ => false)).toArray), 128) := by kernel_rfl
theorem zero25 (w : World) : (zeroValue 92).run Try.prog w = .ok (.agg (bl (fun _ => false)).toArray) w := (zero_of_info info25).1 w
theorem size25 (f : Nat → Bool) : (Try.prog.info? 92).map (·.size) = some (bl f).toArray.size := by rw [(zero_of_info info25).2, bl_size]
theorem built25 : Try.prog.built 92 [] = some (bl (fun _ => false)).toArray := by kernel_rfl
theorem build25 (w : World) : (Instr.build 92 #[]).run Try.prog w = .ok (.agg (bl (fun _ => false)).toArray) w := run_build w 92 #[] _ built25
theorem heap_two (w : World) (a b c : Obj) : (((w.alloc a).alloc b).alloc c).heap[w.heap.size + 1]? = some b := by
  show (((w.heap.push a).push b).push c)[w.heap.size + 1]? = some b
  simp only [Array.getElem?_push, Array.size_push]
  rw [if_neg (by omega), if_pos trivial]
theorem put_new {ops : Array Oper} {rest : List Oper} {op : Oper} {a : Act} {w : World} {Q : Exit → Act → World → Prop} (hgd : op.guard = none) (x y : Operand) (ho : op.op = .store 92 x y)
    (f g : Nat → Bool) (b : Nat) (hb : b = w.heap.size) (hx : a.eval x = .pointer (some ⟨b, 0, none⟩)) (hy : a.eval y = .agg (bl g).toArray)
    (h : wpList Try.prog ops Q rest (a.put op.dst undef) (w.alloc (.cells (bl g).toArray 92))) : wpList Try.prog ops Q (op :: rest) a (w.alloc (.cells (bl f).toArray 92)) :=
  wpList_plain hgd fun _ hK => by
    subst hb
    unfold Oper.wp execOp
    simp only [ho, hx, hy, Instr.storeAt, Instr.sureAddr, Sem.run_bind, Sem.run_pure, Result.andThen_ok, run_storeVar_new w 92 (bl f).toArray (bl g).toArray (size25 g) (by rw [bl_size, bl_size]) (bl_all g)]
    exact hK _ _ h
theorem get_new {ops : Array Oper} {rest : List Oper} {op : Oper} {a : Act} {w : World} {Q : Exit → Act → World → Prop} (hgd : op.guard = none) (x : Operand) (ho : op.op = .load 92 x)
    (f : Nat → Bool) (b : Nat) (hb : b = w.heap.size) (hx : a.eval x = .pointer (some ⟨b, 0, none⟩))
    (h : wpList Try.prog ops Q rest (a.put op.dst (.agg (bl f).toArray)) (w.alloc (.cells (bl f).toArray 92))) : wpList Try.prog ops Q (op :: rest) a (w.alloc (.cells (bl f).toArray 92)) :=
  wpList_plain hgd fun _ hK => by
    subst hb
    unfold Oper.wp execOp
    simp only [ho, hx, Instr.loadAt, Instr.sureAddr, Sem.run_bind, Sem.run_pure, Result.andThen_ok, run_loadVar_new w 92 (bl f).toArray 128 4 Try.underlying92 (size25 f)]
    exact hK _ _ h

set_option maxRecDepth 100000 in
set_option maxHeartbeats 400000 in
theorem bits_c (h l : BitVec 64) (w : World) : Calls Try.prog 34 #[.agg #[.int .u64 (uv h), .int .u64 (uv l)]] w fun e w' => e = .returned (.agg (bl (hbit h l)).toArray) ∧ Below w.heap.size w w' := by
  have hz := zero25
  have hb := build25
  go_enter Try.func34, Try.ntmps34
  go_wp2_with (refine put_new rfl _ _ rfl (fun _ => false) (fun _ => false) _ (by simp) rfl rfl ?_)
  go_loopg [4] 128 (fun g i wr => ∃ k : Nat, k ≤ 128 ∧ g = 128 - k ∧ i = .int .i64 k ∧ wr = ((w.alloc (.cells #[.int .u64 (uv h), .int .u64 (uv l)] 41)).alloc (.cells (bl (fun _ => false)).toArray 92)).alloc (.cells (bl (upTo (hbit h l) k)).toArray 92))
  case atStart => exact ⟨0, by omega, rfl, rfl, by rw [upTo_zero]⟩
  case round =>
    obtain ⟨k, hk, rfl, rfl, rfl⟩ := hrel
    by_cases hlt : k < 128
    · have hlt' : (k : Int) < 128 := by omega
      by_cases h64 : k < 64
      · have h64' : (k : Int) < 64 := by omega
        have hg := bl_get (upTo (hbit h l) k) k hlt
        go_wp2
        go_roundg (128 - (k + 1))
        case measure => omega
        case rel => exact ⟨k + 1, by omega, rfl, by go_num, by rw [upTo_set _ _ _ (bit_lo h l k h64)]⟩
      · have h64' : ¬ (k : Int) < 64 := by omega
        have hg := bl_get (upTo (hbit h l) k) k hlt
        go_wp2
        go_roundg (128 - (k + 1))
        case measure => omega
        case rel => exact ⟨k + 1, by omega, rfl, by go_num, by rw [upTo_set _ _ _ (bit_hi h l k h64)]⟩
    · obtain rfl : k = 128 := by omega
      go_wp2_with (first
        | refine get_new rfl _ rfl (upTo (hbit h l) 128) _ (by simp) rfl ?_
        | refine wpList_store_row rfl 92 _ _ rfl (w.heap.size + 1) (bl (upTo (hbit h l) 128)).toArray rfl rfl 92 (bl (fun _ => false)).toArray (heap_two _ _ _ _) (size25 _) (by rw [bl_size, bl_size]) (bl_all _) ?_)
      rw [upTo_all]
      exact bodyPost_ret (v := .agg (bl (hbit h l)).toArray) (results_cell_row Try.results34 _ _ (w.heap.size + 1) 92 _ (0, 0) _ rfl (setRow_heap _ _ (bl (fun _ => false)).toArray _ 92 (0, 0) (heap_two _ _ _ _)) Try.underlying92 rfl (size25 _)) rfl
        ⟨rfl, Below.setRow ((((Below.refl _ w).alloc (Nat.le_refl _) _).alloc (by simp) _).alloc (by simp <;> omega) _) (by omega) _⟩
end Go.Proofs

namespace Go.Proofs.Hd
open Go.RowKit
/-- The number of n bits from bit lo on. -/
def valN (f : Nat → Bool) : Nat → Nat → Nat
  | _, 0 => 0
  | lo, n + 1 => (f lo).toNat + 2 * valN f (lo + 1) n
def num (f : Nat → Bool) (lo n : Nat) : BitVec 64 := BitVec.ofNat 64 (valN f lo n)
theorem num_zero (f : Nat → Bool) (lo : Nat) : num f lo 0 = 0#64 := rfl
theorem valN_bit (f : Nat → Bool) (lo n i : Nat) : (valN f lo n).testBit i = (decide (i < n) && f (lo + i)) := by
  induction n generalizing lo i with
  | zero => simp [valN]
  | succ n ih =>
    rw [valN]
    cases i with
    | zero =>
      rw [Nat.testBit_zero]
      cases f lo <;> simp <;> omega
    | succ i =>
      rw [Nat.testBit_succ]
      have e : ((f lo).toNat + 2 * valN f (lo + 1) n) / 2 = valN f (lo + 1) n := by
        have := Bool.toNat_le (f lo); omega
      rw [e, ih, show lo + 1 + i = lo + (i + 1) by omega]
      congr 1
      simp
theorem num_bit (f : Nat → Bool) (lo n i : Nat) (hn : n ≤ 64) : (num f lo n).getLsbD i = (decide (i < n) && f (lo + i)) := by
  unfold num
  rw [BitVec.getLsbD_ofNat, valN_bit]
  by_cases c : i < n
  · simp [c, show i < 64 by omega]
  · simp [c]
theorem num_step (f : Nat → Bool) (lo n : Nat) (h : 0 < lo) (b : BitVec 64) (hb : b = BitVec.ofNat 64 (f (lo - 1)).toNat) : num f lo n + num f lo n + b = num f (lo - 1) (n + 1) := by
  subst hb
  unfold num
  rw [valN, show lo - 1 + 1 = lo by omega]
  apply BitVec.eq_of_toNat_eq
  simp only [BitVec.toNat_add, BitVec.toNat_ofNat]
  omega
theorem head_num (f : Nat → Bool) (j : Nat) (hj : j < 128) : hbit (num f 64 64) (num f 0 64) j = f j := by
  unfold hbit
  by_cases c : j < 64
  · rw [if_pos c, num_bit _ _ _ _ (by omega)]; simp [c]
  · rw [if_neg c, num_bit _ _ _ _ (by omega)]; simp only [show j - 64 < 64 by omega, decide_true, Bool.true_and]; congr 1; omega
/-- A header that has these bits is their number. -/
theorem num_of_bits {h l : BitVec 64} {f : Nat → Bool} (hb : ∀ j, j < 128 → hbit h l j = f j) : num f 64 64 = h ∧ num f 0 64 = l :=
  head_ext fun j hj => by rw [head_num f j hj, hb j hj]
theorem uv_twice (x : BitVec 64) : IntKind.u64.wrap (uv x * 2) = uv (x + x) := by
  rw [← uv_add]; congr 1; omega
theorem uv_add_one (x : BitVec 64) : IntKind.u64.wrap (uv x + 1) = uv (x + 1#64) := by
  rw [uv_one, uv_add]
theorem uv_wrap (x : BitVec 64) : IntKind.u64.wrap (uv x) = uv x := by
  rw [IntKind.wrap_u64]; have := uv_nonneg x; have := uv_lt x; omega
theorem num_step1 (f : Nat → Bool) (m n : Nat) (h : f m = true) : num f (m + 1) n + num f (m + 1) n + 1#64 = num f m (n + 1) :=
  num_step f (m + 1) n (by omega) 1#64 (by rw [Nat.add_sub_cancel, h]; rfl)
theorem num_step0 (f : Nat → Bool) (m n : Nat) (h : f m = false) : num f (m + 1) n + num f (m + 1) n = num f m (n + 1) := by
  have := num_step f (m + 1) n (by omega) 0#64 (by rw [Nat.add_sub_cancel, h]; rfl)
  rwa [BitVec.add_zero] at this
/-- The two words of a header whose bits from k on are known. -/
def hiW (f : Nat → Bool) (k : Nat) : BitVec 64 := num f (max k 64) (128 - max k 64)
def loW (f : Nat → Bool) (k : Nat) : BitVec 64 := num f (min k 64) (64 - min k 64)
theorem hiW_top (f : Nat → Bool) : hiW f 128 = 0#64 := num_zero f 128
theorem loW_top (f : Nat → Bool) : loW f 128 = 0#64 := num_zero f 64
theorem hiW_end (f : Nat → Bool) : hiW f 0 = num f 64 64 := rfl
theorem loW_end (f : Nat → Bool) : loW f 0 = num f 0 64 := rfl
theorem hiW_lo (f : Nat → Bool) (m : Nat) (h : m < 64) : hiW f (m + 1) = hiW f m := by
  unfold hiW; rw [show max (m + 1) 64 = 64 by omega, show max m 64 = 64 by omega]
theorem loW_hi (f : Nat → Bool) (m : Nat) (h : ¬ m < 64) : loW f (m + 1) = loW f m := by
  unfold loW; rw [show min (m + 1) 64 = 64 by omega, show min m 64 = 64 by omega]
theorem hiW_1 (f : Nat → Bool) (m : Nat) (h : ¬ m < 64) (h' : m < 128) (hf : f m = true) : hiW f (m + 1) + hiW f (m + 1) + 1#64 = hiW f m := by
  unfold hiW; rw [show max (m + 1) 64 = m + 1 by omega, show max m 64 = m by omega, num_step1 f m _ hf, show 128 - (m + 1) + 1 = 128 - m by omega]
theorem hiW_0 (f : Nat → Bool) (m : Nat) (h : ¬ m < 64) (h' : m < 128) (hf : f m = false) : hiW f (m + 1) + hiW f (m + 1) = hiW f m := by
  unfold hiW; rw [show max (m + 1) 64 = m + 1 by omega, show max m 64 = m by omega, num_step0 f m _ hf, show 128 - (m + 1) + 1 = 128 - m by omega]
theorem loW_1 (f : Nat → Bool) (m : Nat) (h : m < 64) (hf : f m = true) : loW f (m + 1) + loW f (m + 1) + 1#64 = loW f m := by
  unfold loW; rw [show min (m + 1) 64 = m + 1 by omega, show min m 64 = m by omega, num_step1 f m _ hf, show 64 - (m + 1) + 1 = 64 - m by omega]
theorem loW_0 (f : Nat → Bool) (m : Nat) (h : m < 64) (hf : f m = false) : loW f (m + 1) + loW f (m + 1) = loW f m := by
  unfold loW; rw [show min (m + 1) 64 = m + 1 by omega, show min m 64 = m by omega, num_step0 f m _ hf, show 64 - (m + 1) + 1 = 64 - m by omega]
attribute [irreducible] num hiW loW
end Go.Proofs.Hd

namespace Go.Proofs
open Go.RowKit Go.Proofs.Hd
attribute [local go_sem] uv_shr uv_nonneg uv_twice uv_add_one
set_option maxRecDepth 100000 in
set_option maxHeartbeats 400000 in
theorem refhead_c (f : Nat → Bool) (w : World) : Calls Try.prog 54 #[.agg (bl f).toArray] w fun e w' => e = .returned (.agg #[.int .u64 (uv (num f 64 64)), .int .u64 (uv (num f 0 64))]) ∧ Below w.heap.size w w' := by
  go_enter Try.func54, Try.ntmps54
  go_wp2
  go_loopg [4] 128 (fun k i wr => k ≤ 128 ∧ i = .int .i64 ((k : Int) - 1) ∧ wr = ((w.alloc (.cells (bl f).toArray 92)).alloc (.cells #[.int .u64 0, .int .u64 0] 41)).alloc (.cells #[.int .u64 (uv (hiW f k)), .int .u64 (uv (loW f k))] 41))
  case atStart => exact ⟨by omega, rfl, by rw [hiW_top, loW_top, ← uv_zero]⟩
  case round =>
    obtain ⟨hk, rfl, rfl⟩ := hrel
    rcases Nat.eq_zero_or_pos gk with rfl | h0
    · go_wp2
      exact bodyPost_ret (v := .agg #[.int .u64 (uv (hiW f 0)), .int .u64 (uv (loW f 0))]) (by simp [results, Try.results54, go_sem]) rfl ⟨by rw [hiW_end, loW_end], (((Below.refl _ w).alloc (Nat.le_refl _) _).alloc (by simp) _).alloc (by simp <;> omega) _⟩
    · obtain ⟨m, rfl⟩ : ∃ m, gk = m + 1 := ⟨gk - 1, by omega⟩
      have em : ((m + 1 : Nat) : Int) - 1 = (m : Int) := by omega
      rw [em]
      have hm : m < 128 := by omega
      have hm' : (m : Int) < 128 := by omega
      clear em h0 hk
      have hg := bl_get f m hm
      by_cases h64 : m < 64
      · have h64' : (m : Int) < 64 := by omega
        cases hf : f m
        · rw [hf] at hg
          have HF := Lib.hid hf; clear hf
          go_wp2
          go_roundg m
          case measure => omega
          case rel => exact ⟨by omega, rfl, by rw [hiW_lo f m h64]; simp only [uv_wrap]; rw [loW_0 f m h64 HF.out]⟩
        · rw [hf] at hg
          have HF := Lib.hid hf; clear hf
          go_wp2
          go_roundg m
          case measure => omega
          case rel => exact ⟨by omega, rfl, by rw [hiW_lo f m h64, loW_1 f m h64 HF.out]⟩
      · have h64' : ¬ (m : Int) < 64 := by omega
        cases hf : f m
        · rw [hf] at hg
          have HF := Lib.hid hf; clear hf
          go_wp2
          go_roundg m
          case measure => omega
          case rel => exact ⟨by omega, rfl, by rw [loW_hi f m h64]; simp only [uv_wrap]; rw [hiW_0 f m h64 hm HF.out]⟩
        · rw [hf] at hg
          have HF := Lib.hid hf; clear hf
          go_wp2
          go_roundg m
          case measure => omega
          case rel => exact ⟨by omega, rfl, by rw [loW_hi f m h64, hiW_1 f m h64 hm HF.out]⟩
end Go.Proofs

namespace Go.Proofs
open Go.RowKit Go.Proofs.Hd
theorem fl_lt {w : World} {b : Nat} (h : w.there b 0 128) : b < w.heap.size := by
  have := (h 0 (by omega)).1
  obtain ⟨u, hu⟩ := Option.isSome_iff_exists.1 this
  exact World.block_lt_of_cell? w ⟨b, 0 + 0, none⟩ hu
/-- An array of 128 cells is there in block b, at or behind block B; it is no block that is made later. -/
def Th (B : Nat) (w : World) (b : Nat) : Prop := w.there b 0 128 ∧ B ≤ b
theorem Th.on {B b : Nat} {W w' : World} (h : Th B W b) (hb : Below W.heap.size W w') : Th B w' b := ⟨there_below hb h.1 (fl_lt h.1), h.2⟩
theorem Th.top {B : Nat} (X : World) (b : Nat) (hb : b = X.heap.size) (h : B ≤ X.heap.size) : Th B (X.alloc (.cells (bl (fun _ => false)).toArray 92)) b := by
  subst hb; exact ⟨there_of_alloc X _ 92, h⟩
theorem Th.alloc {B b : Nat} {W : World} (h : Th B W b) (o : Obj) : Th B (W.alloc o) b := ⟨World.there_alloc h.1 o, h.2⟩
theorem Th.drew {B b : Nat} {W : World} (h : Th B W b) : Th B W.drew b := h
theorem Th.set {B b : Nat} {W : World} (h : Th B W b) (c : Nat) (vs : List Value) : Th B (W.setCells c 0 vs) b := ⟨World.there_setCells h.1 c 0 vs, h.2⟩
theorem Th.ne {B b : Nat} {W : World} (h : Th B W b) : b ≠ W.heap.size := Nat.ne_of_lt (fl_lt h.1)
theorem rows2 {V : World} {b c : Nat} (f g : Nat → Bool) (h1 : V.there b 0 128) (h2 : V.there c 0 128) (hne : b ≠ c) :
    ((V.setCells b 0 (bl f)).setCells c 0 (bl g)).rangeAt b 0 (bl f) ∧ ((V.setCells b 0 (bl f)).setCells c 0 (bl g)).rangeAt c 0 (bl g) :=
  ⟨World.rangeAt_setCells_apart (World.rangeAt_setCells_same V b 0 (bl f) (by rw [bl_len]; exact h1)) c 0 (bl g) (Or.inl hne),
   World.rangeAt_setCells_same _ c 0 (bl g) (by rw [bl_len]; exact World.there_setCells h2 b 0 (bl f))⟩
end Go.Proofs

namespace Go.Proofs.Hd
open Go.RowKit
/-- The sign of bit j. -/
def sgn (c : Cb) (j : Nat) : UInt8 := if c.K j = true then (if c.V j = true then 49 else 48) else 120
def txtL (c : Cb) : List UInt8 := (List.range 128).map fun i => sgn c (127 - i)
def txt (c : Cb) : ByteArray := ⟨(txtL c).toArray⟩
theorem txtL_len (c : Cb) : (txtL c).length = 128 := by simp [txtL]
theorem txt_size (c : Cb) : (txt c).size = 128 := by show (txtL c).toArray.size = 128; simp [txtL]
theorem txt_get (c : Cb) (i : Nat) (h : i < (txt c).size) : (txt c)[i] = sgn c (127 - i) := by
  show (txtL c).toArray[i]'h = _
  simp [txtL]
/-- 128 bytes as cells. -/
def by8 (f : Nat → UInt8) : List Value := (List.range 128).map fun i => Value.int .u8 (f i).toNat
theorem by8_get (f : Nat → UInt8) (k : Nat) (h : k < 128) : (by8 f)[k]? = some (.int .u8 (f k).toNat) := by simp [by8, h]
theorem by8_congr {f g : Nat → UInt8} (h : ∀ j, j < 128 → f j = g j) : by8 f = by8 g := by
  unfold by8; apply List.map_congr_left; intro i hi; rw [h i (by simpa using hi)]
theorem by8_set (f : Nat → UInt8) (k : Nat) (b : UInt8) : (by8 f).set k (.int .u8 b.toNat) = by8 (fun j => if j = k then b else f j) := by
  apply List.ext_getElem?
  intro i
  rw [List.getElem?_set]
  by_cases hi : i < 128
  · by_cases e : k = i
    · subst e; simp [by8, hi]
    · simp [by8, hi, e, show ¬ i = k from fun h => e h.symm]
  · have : (by8 (fun j => if j = k then b else f j))[i]? = none := by simp [by8]; omega
    rw [this]
    by_cases e : k = i
    · subst e; simp [by8, hi]
    · simp [e, by8]; omega
/-- The text from its k last signs on; the others 0. -/
def upTxt (c : Cb) (k : Nat) : Nat → UInt8 := fun i => if 128 ≤ i + k then sgn c (127 - i) else 0
theorem upTxt_zero (c : Cb) : by8 (upTxt c 0) = by8 (fun _ => 0) := by8_congr fun j hj => by simp [upTxt]; omega
theorem upTxt_set (c : Cb) (k : Nat) (hk : k < 128) (b : UInt8) (hb : b = sgn c k) : (by8 (upTxt c k)).set (127 - k) (.int .u8 b.toNat) = by8 (upTxt c (k + 1)) := by
  rw [by8_set]
  apply by8_congr
  intro j hj
  unfold upTxt
  by_cases e : j = 127 - k
  · subst e
    rw [if_pos rfl, if_pos (by omega), hb]
    congr 1; omega
  · rw [if_neg e]
    by_cases h : 128 ≤ j + k
    · rw [if_pos h, if_pos (by omega)]
    · rw [if_neg h, if_neg (by omega)]
theorem upTxt_all (c : Cb) : by8 (upTxt c 128) = (txtL c).map (fun b => Value.int .u8 b.toNat) := by
  unfold by8 txtL upTxt
  rw [List.map_map]
  apply List.map_congr_left
  intro i hi
  have : i < 128 := by simpa using hi
  simp [show 128 ≤ i + 128 by omega]
theorem upTxt_put (c : Cb) (k m : Nat) (hm : m + k = 127) (b : Int) (hb : b = ((sgn c k).toNat : Int)) : (by8 (upTxt c k)).set m (.int .u8 b) = by8 (upTxt c (k + 1)) := by
  subst hb
  have e : m = 127 - k := by omega
  subst e
  exact upTxt_set c k (by omega) _ rfl
theorem made8 : madeCells (Value.int .u8 0).cells (128 * 1) = (by8 (fun _ => 0)).toArray := by kernel_rfl
attribute [irreducible] by8
end Go.Proofs.Hd

namespace Go.Proofs.Hd
open Go.RowKit
/-- The number of the first k bits. -/
def V (f : Nat → Bool) : Nat → Nat
  | 0 => 0
  | k + 1 => V f k + 2 ^ k * (f k).toNat
theorem range_cell {w : World} {b k : Nat} {f : Nat → Bool} (h : w.rangeAt b 0 (bl f)) (hk : k < 128) : w.cell? ⟨b, k, none⟩ = some (.bool (f k)) := by
  have := h k _ (bl_get f k hk)
  rwa [Nat.zero_add] at this
end Go.Proofs.Hd
