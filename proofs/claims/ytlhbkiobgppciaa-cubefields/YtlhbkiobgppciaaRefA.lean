/-
  Contract: Bits of the reference of layer 1 returns the 128 bits of a header. No conditions.
-/
import Derived.Test.YtlhbkiobgppciaaHdF
import Derived.Test.YtlhbkiobgppciaaArr
import Derived.Deep.DeepCutAuto
import Derived.Deep.LoopGhost
import Derived.Deep.Light
namespace Go.Proofs
open Go.RowKit Go.Proofs.Hd
attribute [local go_sem] uv_shr uv_nonneg

theorem info25 : (Try.prog.info? 43).map (fun i => (i.zero, i.size)) = some (some (.agg (bl (fun _ => false)).toArray), 128) := by kernel_rfl
theorem zero25 (w : World) : (zeroValue 43).run Try.prog w = .ok (.agg (bl (fun _ => false)).toArray) w := (zero_of_info info25).1 w
theorem size25 (f : Nat → Bool) : (Try.prog.info? 43).map (·.size) = some (bl f).toArray.size := by rw [(zero_of_info info25).2, bl_size]
theorem built25 : Try.prog.built 43 [] = some (bl (fun _ => false)).toArray := by kernel_rfl
theorem build25 (w : World) : (Instr.build 43 #[]).run Try.prog w = .ok (.agg (bl (fun _ => false)).toArray) w := run_build w 43 #[] _ built25
theorem loadNew (f : Nat → Bool) (w : World) : (Instr.loadAt 43 (.pointer (some ⟨w.heap.size, 0, none⟩))).run Try.prog (w.alloc (.cells (bl f).toArray 43)) = .ok (.agg (bl f).toArray) (w.alloc (.cells (bl f).toArray 43)) :=
  run_loadAt_new w 43 (bl f).toArray 128 4 Try.underlying43 (size25 f)
theorem storeNew (f g : Nat → Bool) (w : World) : (Instr.storeAt 43 (.pointer (some ⟨w.heap.size, 0, none⟩)) (.agg (bl g).toArray)).run Try.prog (w.alloc (.cells (bl f).toArray 43)) = .ok () (w.alloc (.cells (bl g).toArray 43)) :=
  run_storeAt_new w 43 (bl f).toArray (bl g).toArray (size25 g) (by rw [bl_size, bl_size]) (bl_all g)

theorem heap_two (w : World) (a b c : Obj) : (((w.alloc a).alloc b).alloc c).heap[w.heap.size + 1]? = some b := by
  show (((w.heap.push a).push b).push c)[w.heap.size + 1]? = some b
  simp only [Array.getElem?_push, Array.size_push]
  rw [if_neg (by omega), if_pos trivial]
theorem put_new {ops : Array Oper} {rest : List Oper} {op : Oper} {a : Act} {w : World} {Q : Exit → Act → World → Prop} (hgd : op.guard = none) (x y : Operand) (ho : op.op = .store 43 x y)
    (f g : Nat → Bool) (b : Nat) (hb : b = w.heap.size) (hx : a.eval x = .pointer (some ⟨b, 0, none⟩)) (hy : a.eval y = .agg (bl g).toArray)
    (h : wpList Try.prog ops Q rest (a.put op.dst undef) (w.alloc (.cells (bl g).toArray 43))) : wpList Try.prog ops Q (op :: rest) a (w.alloc (.cells (bl f).toArray 43)) :=
  wpList_plain hgd fun _ hK => by
    subst hb
    unfold Oper.wp execOp
    simp only [ho, hx, hy, Instr.storeAt, Instr.sureAddr, Sem.run_bind, Sem.run_pure, Result.andThen_ok, run_storeVar_new w 43 (bl f).toArray (bl g).toArray (size25 g) (by rw [bl_size, bl_size]) (bl_all g)]
    exact hK _ _ h
theorem get_new {ops : Array Oper} {rest : List Oper} {op : Oper} {a : Act} {w : World} {Q : Exit → Act → World → Prop} (hgd : op.guard = none) (x : Operand) (ho : op.op = .load 43 x)
    (f : Nat → Bool) (b : Nat) (hb : b = w.heap.size) (hx : a.eval x = .pointer (some ⟨b, 0, none⟩))
    (h : wpList Try.prog ops Q rest (a.put op.dst (.agg (bl f).toArray)) (w.alloc (.cells (bl f).toArray 43))) : wpList Try.prog ops Q (op :: rest) a (w.alloc (.cells (bl f).toArray 43)) :=
  wpList_plain hgd fun _ hK => by
    subst hb
    unfold Oper.wp execOp
    simp only [ho, hx, Instr.loadAt, Instr.sureAddr, Sem.run_bind, Sem.run_pure, Result.andThen_ok, run_loadVar_new w 43 (bl f).toArray 128 4 Try.underlying43 (size25 f)]
    exact hK _ _ h

set_option maxRecDepth 100000 in
set_option maxHeartbeats 400000 in
theorem bits_c (h l : BitVec 64) (w : World) : Calls Try.prog 22 #[.agg #[.int .u64 (uv h), .int .u64 (uv l)]] w fun e w' => e = .returned (.agg (bl (hbit h l)).toArray) ∧ Below w.heap.size w w' := by
  have hz := zero25
  have hb := build25
  go_enter Try.func22, Try.ntmps22
  go_wp2_with (refine put_new rfl _ _ rfl (fun _ => false) (fun _ => false) _ (by simp) rfl rfl ?_)
  go_loopg [4] 128 (fun g i wr => ∃ k : Nat, k ≤ 128 ∧ g = 128 - k ∧ i = .int .i64 k ∧ wr = ((w.alloc (.cells #[.int .u64 (uv h), .int .u64 (uv l)] 24)).alloc (.cells (bl (fun _ => false)).toArray 43)).alloc (.cells (bl (upTo (hbit h l) k)).toArray 43))
  case atStart => exact ⟨0, by omega, rfl, rfl, by rw [upTo_zero]⟩
  case round =>
    obtain ⟨k, hk, rfl, rfl, rfl⟩ := hrel
    by_cases hlt : k < 128
    · have hlt' : (k : Int) < 128 := by omega
      by_cases h64 : k < 64
      · have h64' : (k : Int) < 64 := by omega
        have hg := bl_get (upTo (hbit h l) k) k hlt
        go_wp2
        go_roundg (128 - (k + 1))
        case measure => omega
        case rel => exact ⟨k + 1, by omega, rfl, by go_num, by rw [upTo_set _ _ _ (bit_lo h l k h64)]⟩
      · have h64' : ¬ (k : Int) < 64 := by omega
        have hg := bl_get (upTo (hbit h l) k) k hlt
        go_wp2
        go_roundg (128 - (k + 1))
        case measure => omega
        case rel => exact ⟨k + 1, by omega, rfl, by go_num, by rw [upTo_set _ _ _ (bit_hi h l k h64)]⟩
    · obtain rfl : k = 128 := by omega
      go_wp2_with (first
        | refine get_new rfl _ rfl (upTo (hbit h l) 128) _ (by simp) rfl ?_
        | refine wpList_store_row rfl 43 _ _ rfl (w.heap.size + 1) (bl (upTo (hbit h l) 128)).toArray rfl rfl 43 (bl (fun _ => false)).toArray (heap_two _ _ _ _) (size25 _) (by rw [bl_size, bl_size]) (bl_all _) ?_)
      rw [upTo_all]
      exact bodyPost_ret (v := .agg (bl (hbit h l)).toArray) (results_cell_row Try.results22 _ _ (w.heap.size + 1) 43 _ (0, 0) _ rfl (setRow_heap _ _ (bl (fun _ => false)).toArray _ 43 (0, 0) (heap_two _ _ _ _)) Try.underlying43 rfl (size25 _)) rfl
        ⟨rfl, Below.setRow ((((Below.refl _ w).alloc (Nat.le_refl _) _).alloc (by simp) _).alloc (by simp <;> omega) _) (by omega) _⟩
end Go.Proofs
