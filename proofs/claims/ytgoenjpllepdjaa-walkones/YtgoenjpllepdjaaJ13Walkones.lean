/-
  customhouselaw09.WalkOnes returns true for every input, and each argument reads behind the call as before. No conditions.
  The law CubeHas returns true for all cubes and headers, and changes nothing that was there. No conditions.
  Contract of the reference's Find of layer 6. Conditions as the theorem lists them.
  The walk of customhouselaw09.WalkOnes: it returns true. Conditions as the theorem lists them.
-/
import Derived.Test.YtgoenjpllepdjaaJ12
import Derived.OrdersHeld
import Derived.Deep.LoopGhost
import Derived.Lib.Hide
import Derived.BigQuiet
import Derived.Test.YtgoenjpllepdjaaRows
import Derived.Below
import Derived.SizedLaws
namespace Go.Proofs
open Go.RowKit Go.Proofs.Hd
attribute [local go_sem] uv_nonneg eq4_self eq2_self
attribute [local go_sem high] run_eq2 run_eq4
theorem text_s (s : ByteArray) (c : Cb) (w : World) (hs : c.snd = true) (h : txt c = s) : Calls Try.prog 19 #[.agg #[.int .u64 (uv c.vh), .int .u64 (uv c.vl), .int .u64 (uv c.ch), .int .u64 (uv c.cl)]] w fun e w' => e = .returned (.tuple #[.string s, .bool true]) ∧ Below w.heap.size w w' := by
  subst h; exact text_yes c w hs
theorem rhas_is (x : Bool) (s : ByteArray) (c : Cb) (hh hl : BitVec 64) (w : World) (hc : c.snd = true) (hs : txt c = s) (hx : c.has hh hl = x) :
    Calls Try.prog 20 #[.string s, .agg #[.int .u64 (uv hh), .int .u64 (uv hl)]] w fun e w' => e = .returned (.bool x) ∧ Below w.heap.size w w' := by
  subst hx; exact rhas_s s c hh hl w hc hs
theorem has_none {c : Cb} (h l : BitVec 64) (hs : c.snd = false) : c.has h l = false := by
  cases e : c.has h l with
  | false => rfl
  | true =>
    have hh := (Cb.has_iff c h l).1 e
    have := (Cb.snd_iff c).2 (fun j hj hv => by have := hh j hj; rw [hv] at this; revert this; cases c.K j <;> simp)
    rw [hs] at this; cases this
end Go.Proofs

namespace Go.Proofs.Hd
open Go.RowKit
/-- A found place as the reference's loop holds it. -/
def fr : Option Nat → Int | some b => (b : Int) | none => -1
theorem leI_of_gt {L : List Rl} {i b : Nat} (h : L[b]!.pri < L[i]!.pri) : leI L i b = true := by unfold leI; rw [decide_eq_true_eq]; omega
theorem leI_of_ge {L : List Rl} {i b : Nat} (hb : b < i) (h : ¬ L[b]!.pri < L[i]!.pri) : leI L b i = true := by unfold leI; rw [decide_eq_true_eq]; omega
end Go.Proofs.Hd
namespace Go.Proofs
open Go.RowKit Go.Proofs.Hd Go.Sort Go.Shelf Go.Lib
attribute [local go_sem] uv_nonneg
set_option maxHeartbeats 8000000 in
set_option maxRecDepth 100000 in
theorem rfind_c (v : Value) (L : List Rl) (hh hl : BitVec 64) (w : World) (hn : L.length ≤ 4611686018427387904) (hv : Ru w v L) :
    Calls Try.prog 9 #[v, .agg #[.int .u64 (uv hh), .int .u64 (uv hl)]] w fun e w' => e = .returned (.tuple #[.int .i64 (fz (fndI L hh hl)), .bool (fndI L hh hl).isSome]) ∧ Below w.heap.size w w' := by
  obtain ⟨A, cap, rfl, hA⟩ := hv.form
  have hlz : (L.length : Int) ≤ 4611686018427387904 := by omega
  have HA := Lib.hid hA
  have B0 := below1 w (.cells #[.int .u64 (uv hh), .int .u64 (uv hl)] 25)
  have X0 : Blk (w.alloc (.cells #[.int .u64 (uv hh), .int .u64 (uv hl)] 25)) w.heap.size 25 #[.int .u64 (uv hh), .int .u64 (uv hl)] := Blk.new w _ _
  have HB := Lib.hid B0
  have HX := Lib.hid X0
  clear hv hA B0 X0
  go_enter Try.func9, Try.ntmps9
  go_wp2
  go_loopg [6, 7, 8, 9] L.length (fun gk s6 s7 _ _ wr => ∃ (k : Nat) (z : Option Nat), k ≤ L.length ∧ gk = L.length - k ∧ s7 = .int .i64 k ∧ s6 = .int .i64 (fr z) ∧ Hid (FstIs L hh hl k z) ∧ Hid (Below w.heap.size w wr) ∧ Hid (Blk wr w.heap.size 25 #[.int .u64 (uv hh), .int .u64 (uv hl)]))
  case atStart => exact ⟨0, none, Nat.zero_le _, rfl, rfl, rfl, FstIs.zero L hh hl, HB, HX⟩
  case round =>
    clear HB HX
    obtain ⟨k, z, hk, rfl, rfl, rfl, HF, HB, HX⟩ := hrel
    by_cases hlt : k < L.length
    · have hltz : (k : Int) < (L.length : Int) := by omega
      obtain ⟨r, hr⟩ : ∃ r, L[k]? = some r := ⟨_, List.getElem?_eq_getElem hlt⟩
      obtain ⟨b, off, rfl, hb0, hpc⟩ := HA.out (by intro h; rw [h] at hlt; simp at hlt)
      obtain ⟨c0, c1, c2, c3, c4, c5, c6, c7, c8, c9, c10, c11⟩ := ((hpc k r hr).on HB.out).out
      have HR := Lib.hid hr
      have HPC := Lib.hid hpc
      have HI := Lib.hid (hasI_at hr hh hl)
      clear hr hpc
      cases hs : r.m.snd with
      | false =>
        have hq := has_none hh hl hs
        go_wp2_with fail
        (with_reducible refine (text_no r.m _ hs).mono ?_)
        rintro e w2 ⟨rfl, hb2⟩
        have HB2 := Lib.hid (HB.out.trans (hb2.mono HB.out.size))
        have HX2 := Lib.hid (HX.out.on hb2)
        clear HB HX hb2 c0 c1 c2 c3 c4 c5 c6 c7 c8 c9 c10 c11
        have KP : ∀ W, Below w2.heap.size w2 W → (Below w2.heap.size w2 W ∧ W.cell? ⟨w.heap.size, 0, none⟩ = some (.int .u64 (uv hh)) ∧ W.cell? ⟨w.heap.size, 1, none⟩ = some (.int .u64 (uv hl)) ∧ W.cell? ⟨b, off + k * 12, none⟩ = some (.int .i64 r.pri)) := fun W hb => ⟨hb, (HX2.out.on hb).cell 0, (HX2.out.on hb).cell 1, (((HPC.out k r HR.out).on HB2.out).on hb).out.1⟩
        have HKP := Lib.hid KP
        clear KP
        go_upto_region 6 with (fail)
        refine wp_region_held_drew (S := fun w' => Below w2.heap.size w2 w' ∧ w'.cell? ⟨w.heap.size, 0, none⟩ = some (.int .u64 (uv hh)) ∧ w'.cell? ⟨w.heap.size, 1, none⟩ = some (.int .u64 (uv hl)) ∧ w'.cell? ⟨b, off + k * 12, none⟩ = some (.int .i64 r.pri)) (by kernel_rfl) (HKP.out _ (Below.refl _ w2).drew) (fun hHeld => ?_)
        refine wpAnyH_take (i := 0) (oi := ⟨some 25, _, _, _, _, _⟩) (v := ?va0) rfl (by kernel_rfl) (by kernel_rfl) (by kernel_rfl) (fun _ _ _ h => h) (Or.inl ⟨by rfl, ?ya0⟩) hHeld ?ra0
        case ya0 => (intro w' hSw; (try dsimp only at hSw); go_simp; try (with_reducible rfl))
        simp only [Act.put, List.setIfInBounds_toArray, List.set_cons_zero, List.set_cons_succ]
        refine wpAnyH_take (i := 1) (oi := ⟨some 26, _, _, _, _, _⟩) (v := ?va1) rfl (by kernel_rfl) (by kernel_rfl) (by kernel_rfl) (fun _ _ _ h => h) (Or.inl ⟨by rfl, ?ya1⟩) hHeld ?ra1
        case ya1 => (intro w' hSw; (try dsimp only at hSw); go_simp; try (with_reducible rfl))
        simp only [Act.put, List.setIfInBounds_toArray, List.set_cons_zero, List.set_cons_succ]
        refine wpAnyH_take (i := 2) (oi := ⟨some 27, _, _, _, _, _⟩) (v := undef) rfl (by kernel_rfl) (by kernel_rfl) (by kernel_rfl) (fun _ _ _ h => h) (Or.inr ⟨by rfl, rfl⟩) hHeld ?_
        simp only [Act.put, List.setIfInBounds_toArray, List.set_cons_zero, List.set_cons_succ]
        refine wpAnyH_take (i := 3) (oi := ⟨some 28, _, _, _, _, _⟩) (v := undef) rfl (by kernel_rfl) (by kernel_rfl) (by kernel_rfl) (fun _ _ _ h => h) (Or.inr ⟨by rfl, rfl⟩) hHeld ?_
        simp only [Act.put, List.setIfInBounds_toArray, List.set_cons_zero, List.set_cons_succ]
        refine wpAnyH_ready (rs := [4]) (by kernel_rfl) (by simp) ?_
        refine AllReadyH.cons (o := ⟨some 29, _, _, _, _, _⟩) rfl (fun K hK => ?_) AllReadyH.nil
        go_simp
        refine hK.out _ _ hHeld (fun hNext => ?_)
        clear hK K hHeld
        have hHeld := hNext
        clear hNext
        try simp only [Act.put, List.setIfInBounds_toArray, List.set_cons_zero, List.set_cons_succ]
        refine wpAnyH_take (i := 5) (oi := ⟨some 30, _, _, _, _, _⟩) (v := ?va5) rfl (by kernel_rfl) (by kernel_rfl) (by kernel_rfl) (fun _ _ _ h => h) (Or.inl ⟨by rfl, ?ya5⟩) hHeld ?ra5
        case ya5 => (intro w' hSw; (try dsimp only at hSw); go_simp; try (with_reducible rfl))
        simp only [Act.put, List.setIfInBounds_toArray, List.set_cons_zero, List.set_cons_succ]
        refine wpAnyH_take (i := 6) (oi := ⟨some 31, _, _, _, _, _⟩) (v := ?va6) rfl (by kernel_rfl) (by kernel_rfl) (by kernel_rfl) (fun _ _ _ h => h) (Or.inl ⟨by rfl, ?ya6⟩) hHeld ?ra6
        case ya6 => (intro w' hSw; (try dsimp only at hSw); go_simp; try (with_reducible rfl))
        simp only [Act.put, List.setIfInBounds_toArray, List.set_cons_zero, List.set_cons_succ]
        refine wpAnyH_take (i := 7) (oi := ⟨some 32, _, _, _, _, _⟩) (v := undef) rfl (by kernel_rfl) (by kernel_rfl) (by kernel_rfl) (fun _ _ _ h => h) (Or.inr ⟨by rfl, rfl⟩) hHeld ?_
        simp only [Act.put, List.setIfInBounds_toArray, List.set_cons_zero, List.set_cons_succ]
        refine wpAnyH_take (i := 8) (oi := ⟨some 33, _, _, _, _, _⟩) (v := undef) rfl (by kernel_rfl) (by kernel_rfl) (by kernel_rfl) (fun _ _ _ h => h) (Or.inr ⟨by rfl, rfl⟩) hHeld ?_
        simp only [Act.put, List.setIfInBounds_toArray, List.set_cons_zero, List.set_cons_succ]
        refine wpAnyH_take (i := 9) (oi := ⟨some 34, _, _, _, _, _⟩) (v := undef) rfl (by kernel_rfl) (by kernel_rfl) (by kernel_rfl) (fun _ _ _ h => h) (Or.inr ⟨by rfl, rfl⟩) hHeld ?_
        simp only [Act.put, List.setIfInBounds_toArray, List.set_cons_zero, List.set_cons_succ]
        refine wpAnyH_take (i := 10) (oi := ⟨some 35, _, _, _, _, _⟩) (v := undef) rfl (by kernel_rfl) (by kernel_rfl) (by kernel_rfl) (fun _ _ _ h => h) (Or.inr ⟨by rfl, rfl⟩) hHeld ?_
        simp only [Act.put, List.setIfInBounds_toArray, List.set_cons_zero, List.set_cons_succ]
        refine wpAnyH_take (i := 11) (oi := ⟨some 36, _, _, _, _, _⟩) (v := undef) rfl (by kernel_rfl) (by kernel_rfl) (by kernel_rfl) (fun _ _ _ h => h) (Or.inr ⟨by rfl, rfl⟩) hHeld ?_
        simp only [Act.put, List.setIfInBounds_toArray, List.set_cons_zero, List.set_cons_succ]
        refine wpAnyH_take (i := 12) (oi := ⟨some 37, _, _, _, _, _⟩) (v := undef) rfl (by kernel_rfl) (by kernel_rfl) (by kernel_rfl) (fun _ _ _ h => h) (Or.inr ⟨by rfl, rfl⟩) hHeld ?_
        simp only [Act.put, List.setIfInBounds_toArray, List.set_cons_zero, List.set_cons_succ]
        refine wpAnyH_take (i := 13) (oi := ⟨some 38, _, _, _, _, _⟩) (v := undef) rfl (by kernel_rfl) (by kernel_rfl) (by kernel_rfl) (fun _ _ _ h => h) (Or.inr ⟨by rfl, rfl⟩) hHeld ?_
        simp only [Act.put, List.setIfInBounds_toArray, List.set_cons_zero, List.set_cons_succ]
        refine wpAnyH_take (i := 14) (oi := ⟨some 39, _, _, _, _, _⟩) (v := undef) rfl (by kernel_rfl) (by kernel_rfl) (by kernel_rfl) (fun _ _ _ h => h) (Or.inr ⟨by rfl, rfl⟩) hHeld ?_
        simp only [Act.put, List.setIfInBounds_toArray, List.set_cons_zero, List.set_cons_succ]
        refine wpAnyH_take (i := 15) (oi := ⟨some 40, _, _, _, _, _⟩) (v := undef) rfl (by kernel_rfl) (by kernel_rfl) (by kernel_rfl) (fun _ _ _ h => h) (Or.inr ⟨by rfl, rfl⟩) hHeld ?_
        simp only [Act.put, List.setIfInBounds_toArray, List.set_cons_zero, List.set_cons_succ]
        refine wpAnyH_take (i := 16) (oi := ⟨some 41, _, _, _, _, _⟩) (v := undef) rfl (by kernel_rfl) (by kernel_rfl) (by kernel_rfl) (fun _ _ _ h => h) (Or.inr ⟨by rfl, rfl⟩) hHeld ?_
        simp only [Act.put, List.setIfInBounds_toArray, List.set_cons_zero, List.set_cons_succ]
        refine wpAnyH_take (i := 17) (oi := ⟨some 42, _, _, _, _, _⟩) (v := undef) rfl (by kernel_rfl) (by kernel_rfl) (by kernel_rfl) (fun _ _ _ h => h) (Or.inr ⟨by rfl, rfl⟩) hHeld ?_
        simp only [Act.put, List.setIfInBounds_toArray, List.set_cons_zero, List.set_cons_succ]
        refine wpAnyH_take (i := 18) (oi := ⟨some 43, _, _, _, _, _⟩) (v := undef) rfl (by kernel_rfl) (by kernel_rfl) (by kernel_rfl) (fun _ _ _ h => h) (Or.inr ⟨by rfl, rfl⟩) hHeld ?_
        simp only [Act.put, List.setIfInBounds_toArray, List.set_cons_zero, List.set_cons_succ]
        refine wpAnyH_take (i := 19) (oi := ⟨some 44, _, _, _, _, _⟩) (v := undef) rfl (by kernel_rfl) (by kernel_rfl) (by kernel_rfl) (fun _ _ _ h => h) (Or.inr ⟨by rfl, rfl⟩) hHeld ?_
        simp only [Act.put, List.setIfInBounds_toArray, List.set_cons_zero, List.set_cons_succ]
        refine wpAnyH_take (i := 20) (oi := ⟨some 45, _, _, _, _, _⟩) (v := undef) rfl (by kernel_rfl) (by kernel_rfl) (by kernel_rfl) (fun _ _ _ h => h) (Or.inr ⟨by rfl, rfl⟩) hHeld ?_
        simp only [Act.put, List.setIfInBounds_toArray, List.set_cons_zero, List.set_cons_succ]
        refine wpAnyH_take (i := 21) (oi := ⟨some 46, _, _, _, _, _⟩) (v := undef) rfl (by kernel_rfl) (by kernel_rfl) (by kernel_rfl) (fun _ _ _ h => h) (Or.inr ⟨by rfl, rfl⟩) hHeld ?_
        simp only [Act.put, List.setIfInBounds_toArray, List.set_cons_zero, List.set_cons_succ]
        refine wpAnyH_take (i := 22) (oi := ⟨some 47, _, _, _, _, _⟩) (v := ?va22) rfl (by kernel_rfl) (by kernel_rfl) (by kernel_rfl) (fun _ _ _ h => h) (Or.inl ⟨by rfl, ?ya22⟩) hHeld ?ra22
        case ya22 => (intro w' hSw; (try dsimp only at hSw); go_simp; try (with_reducible rfl))
        simp only [Act.put, List.setIfInBounds_toArray, List.set_cons_zero, List.set_cons_succ]
        refine wpAnyH_done (by kernel_rfl) ?_ _
        have HB3 := Lib.hid (HB2.out.trans (hHeld.1.mono HB2.out.size))
        have HX3 := Lib.hid (HX2.out.on hHeld.1)
        clear hHeld HKP HB2 HX2
        go_wp2
        go_roundg (L.length - (k + 1))
        case measure => omega
        case rel => exact ⟨k + 1, z, by omega, rfl, by go_num, rfl, HF.out.no (by rw [HI.out, hq]), HB3, HX3⟩
      | true =>
        obtain ⟨s, HT⟩ : ∃ s, Hid (txt r.m = s) := ⟨_, rfl⟩
        cases hq : r.m.has hh hl with
        | false =>
          go_wp2_with fail
          (with_reducible refine (text_s s r.m _ hs HT.out).mono ?_)
          rintro e w2 ⟨rfl, hb2⟩
          have HB2 := Lib.hid (HB.out.trans (hb2.mono HB.out.size))
          have HX2 := Lib.hid (HX.out.on hb2)
          clear HB HX hb2 c0 c1 c2 c3 c4 c5 c6 c7 c8 c9 c10 c11
          have KP : ∀ W, Below w2.heap.size w2 W → (Below w2.heap.size w2 W ∧ W.cell? ⟨w.heap.size, 0, none⟩ = some (.int .u64 (uv hh)) ∧ W.cell? ⟨w.heap.size, 1, none⟩ = some (.int .u64 (uv hl)) ∧ W.cell? ⟨b, off + k * 12, none⟩ = some (.int .i64 r.pri)) := fun W hb => ⟨hb, (HX2.out.on hb).cell 0, (HX2.out.on hb).cell 1, (((HPC.out k r HR.out).on HB2.out).on hb).out.1⟩
          have HKP := Lib.hid KP
          clear KP
          go_upto_region 6 with (fail)
          refine wp_region_held_drew (S := fun w' => Below w2.heap.size w2 w' ∧ w'.cell? ⟨w.heap.size, 0, none⟩ = some (.int .u64 (uv hh)) ∧ w'.cell? ⟨w.heap.size, 1, none⟩ = some (.int .u64 (uv hl)) ∧ w'.cell? ⟨b, off + k * 12, none⟩ = some (.int .i64 r.pri)) (by kernel_rfl) (HKP.out _ (Below.refl _ w2).drew) (fun hHeld => ?_)
          refine wpAnyH_take (i := 0) (oi := ⟨some 25, _, _, _, _, _⟩) (v := ?vb0) rfl (by kernel_rfl) (by kernel_rfl) (by kernel_rfl) (fun _ _ _ h => h) (Or.inl ⟨by rfl, ?yb0⟩) hHeld ?rb0
          case yb0 => (intro w' hSw; (try dsimp only at hSw); go_simp; try (with_reducible rfl))
          simp only [Act.put, List.setIfInBounds_toArray, List.set_cons_zero, List.set_cons_succ]
          refine wpAnyH_take (i := 1) (oi := ⟨some 26, _, _, _, _, _⟩) (v := ?vb1) rfl (by kernel_rfl) (by kernel_rfl) (by kernel_rfl) (fun _ _ _ h => h) (Or.inl ⟨by rfl, ?yb1⟩) hHeld ?rb1
          case yb1 => (intro w' hSw; (try dsimp only at hSw); go_simp; try (with_reducible rfl))
          simp only [Act.put, List.setIfInBounds_toArray, List.set_cons_zero, List.set_cons_succ]
          refine wpAnyH_take (i := 2) (oi := ⟨some 27, _, _, _, _, _⟩) (v := ?vb2) rfl (by kernel_rfl) (by kernel_rfl) (by kernel_rfl) (fun _ _ _ h => h) (Or.inl ⟨by rfl, ?yb2⟩) hHeld ?rb2
          case yb2 => (intro w' hSw; (try dsimp only at hSw); go_simp; try (with_reducible rfl))
          simp only [Act.put, List.setIfInBounds_toArray, List.set_cons_zero, List.set_cons_succ]
          refine wpAnyH_take (i := 3) (oi := ⟨some 28, _, _, _, _, _⟩) (v := ?vb3) rfl (by kernel_rfl) (by kernel_rfl) (by kernel_rfl) (fun _ _ _ h => h) (Or.inl ⟨by rfl, ?yb3⟩) hHeld ?rb3
          case yb3 => (intro w' hSw; (try dsimp only at hSw); go_simp; try (with_reducible rfl))
          simp only [Act.put, List.setIfInBounds_toArray, List.set_cons_zero, List.set_cons_succ]
          refine wpAnyH_ready (rs := [4]) (by kernel_rfl) (by simp) ?_
          refine AllReadyH.cons (o := ⟨some 29, _, _, _, _, _⟩) rfl (fun K hK => ?_) AllReadyH.nil
          go_simp
          (with_reducible refine (rhas_is false s r.m hh hl _ hs HT.out hq).mono ?_)
          rintro e w5 ⟨rfl, hb⟩
          (try dsimp only)
          refine hK.out _ _ (HKP.out _ (hHeld.1.trans (hb.mono hHeld.1.size))) (fun hNext => ?_)
          clear hK K hHeld
          have hHeld := hNext
          clear hNext
          try simp only [Act.put, List.setIfInBounds_toArray, List.set_cons_zero, List.set_cons_succ]
          refine wpAnyH_take (i := 5) (oi := ⟨some 30, _, _, _, _, _⟩) (v := ?vb5) rfl (by kernel_rfl) (by kernel_rfl) (by kernel_rfl) (fun _ _ _ h => h) (Or.inl ⟨by rfl, ?yb5⟩) hHeld ?rb5
          case yb5 => (intro w' hSw; (try dsimp only at hSw); go_simp; try (with_reducible rfl))
          simp only [Act.put, List.setIfInBounds_toArray, List.set_cons_zero, List.set_cons_succ]
          refine wpAnyH_take (i := 6) (oi := ⟨some 31, _, _, _, _, _⟩) (v := ?vb6) rfl (by kernel_rfl) (by kernel_rfl) (by kernel_rfl) (fun _ _ _ h => h) (Or.inl ⟨by rfl, ?yb6⟩) hHeld ?rb6
          case yb6 => (intro w' hSw; (try dsimp only at hSw); go_simp; try (with_reducible rfl))
          simp only [Act.put, List.setIfInBounds_toArray, List.set_cons_zero, List.set_cons_succ]
          refine wpAnyH_take (i := 7) (oi := ⟨some 32, _, _, _, _, _⟩) (v := undef) rfl (by kernel_rfl) (by kernel_rfl) (by kernel_rfl) (fun _ _ _ h => h) (Or.inr ⟨by rfl, rfl⟩) hHeld ?_
          simp only [Act.put, List.setIfInBounds_toArray, List.set_cons_zero, List.set_cons_succ]
          refine wpAnyH_take (i := 8) (oi := ⟨some 33, _, _, _, _, _⟩) (v := undef) rfl (by kernel_rfl) (by kernel_rfl) (by kernel_rfl) (fun _ _ _ h => h) (Or.inr ⟨by rfl, rfl⟩) hHeld ?_
          simp only [Act.put, List.setIfInBounds_toArray, List.set_cons_zero, List.set_cons_succ]
          refine wpAnyH_take (i := 9) (oi := ⟨some 34, _, _, _, _, _⟩) (v := undef) rfl (by kernel_rfl) (by kernel_rfl) (by kernel_rfl) (fun _ _ _ h => h) (Or.inr ⟨by rfl, rfl⟩) hHeld ?_
          simp only [Act.put, List.setIfInBounds_toArray, List.set_cons_zero, List.set_cons_succ]
          refine wpAnyH_take (i := 10) (oi := ⟨some 35, _, _, _, _, _⟩) (v := undef) rfl (by kernel_rfl) (by kernel_rfl) (by kernel_rfl) (fun _ _ _ h => h) (Or.inr ⟨by rfl, rfl⟩) hHeld ?_
          simp only [Act.put, List.setIfInBounds_toArray, List.set_cons_zero, List.set_cons_succ]
          refine wpAnyH_take (i := 11) (oi := ⟨some 36, _, _, _, _, _⟩) (v := undef) rfl (by kernel_rfl) (by kernel_rfl) (by kernel_rfl) (fun _ _ _ h => h) (Or.inr ⟨by rfl, rfl⟩) hHeld ?_
          simp only [Act.put, List.setIfInBounds_toArray, List.set_cons_zero, List.set_cons_succ]
          refine wpAnyH_take (i := 12) (oi := ⟨some 37, _, _, _, _, _⟩) (v := undef) rfl (by kernel_rfl) (by kernel_rfl) (by kernel_rfl) (fun _ _ _ h => h) (Or.inr ⟨by rfl, rfl⟩) hHeld ?_
          simp only [Act.put, List.setIfInBounds_toArray, List.set_cons_zero, List.set_cons_succ]
          refine wpAnyH_take (i := 13) (oi := ⟨some 38, _, _, _, _, _⟩) (v := undef) rfl (by kernel_rfl) (by kernel_rfl) (by kernel_rfl) (fun _ _ _ h => h) (Or.inr ⟨by rfl, rfl⟩) hHeld ?_
          simp only [Act.put, List.setIfInBounds_toArray, List.set_cons_zero, List.set_cons_succ]
          refine wpAnyH_take (i := 14) (oi := ⟨some 39, _, _, _, _, _⟩) (v := undef) rfl (by kernel_rfl) (by kernel_rfl) (by kernel_rfl) (fun _ _ _ h => h) (Or.inr ⟨by rfl, rfl⟩) hHeld ?_
          simp only [Act.put, List.setIfInBounds_toArray, List.set_cons_zero, List.set_cons_succ]
          refine wpAnyH_take (i := 15) (oi := ⟨some 40, _, _, _, _, _⟩) (v := undef) rfl (by kernel_rfl) (by kernel_rfl) (by kernel_rfl) (fun _ _ _ h => h) (Or.inr ⟨by rfl, rfl⟩) hHeld ?_
          simp only [Act.put, List.setIfInBounds_toArray, List.set_cons_zero, List.set_cons_succ]
          refine wpAnyH_take (i := 16) (oi := ⟨some 41, _, _, _, _, _⟩) (v := undef) rfl (by kernel_rfl) (by kernel_rfl) (by kernel_rfl) (fun _ _ _ h => h) (Or.inr ⟨by rfl, rfl⟩) hHeld ?_
          simp only [Act.put, List.setIfInBounds_toArray, List.set_cons_zero, List.set_cons_succ]
          refine wpAnyH_take (i := 17) (oi := ⟨some 42, _, _, _, _, _⟩) (v := undef) rfl (by kernel_rfl) (by kernel_rfl) (by kernel_rfl) (fun _ _ _ h => h) (Or.inr ⟨by rfl, rfl⟩) hHeld ?_
          simp only [Act.put, List.setIfInBounds_toArray, List.set_cons_zero, List.set_cons_succ]
          refine wpAnyH_take (i := 18) (oi := ⟨some 43, _, _, _, _, _⟩) (v := undef) rfl (by kernel_rfl) (by kernel_rfl) (by kernel_rfl) (fun _ _ _ h => h) (Or.inr ⟨by rfl, rfl⟩) hHeld ?_
          simp only [Act.put, List.setIfInBounds_toArray, List.set_cons_zero, List.set_cons_succ]
          refine wpAnyH_take (i := 19) (oi := ⟨some 44, _, _, _, _, _⟩) (v := undef) rfl (by kernel_rfl) (by kernel_rfl) (by kernel_rfl) (fun _ _ _ h => h) (Or.inr ⟨by rfl, rfl⟩) hHeld ?_
          simp only [Act.put, List.setIfInBounds_toArray, List.set_cons_zero, List.set_cons_succ]
          refine wpAnyH_take (i := 20) (oi := ⟨some 45, _, _, _, _, _⟩) (v := undef) rfl (by kernel_rfl) (by kernel_rfl) (by kernel_rfl) (fun _ _ _ h => h) (Or.inr ⟨by rfl, rfl⟩) hHeld ?_
          simp only [Act.put, List.setIfInBounds_toArray, List.set_cons_zero, List.set_cons_succ]
          refine wpAnyH_take (i := 21) (oi := ⟨some 46, _, _, _, _, _⟩) (v := undef) rfl (by kernel_rfl) (by kernel_rfl) (by kernel_rfl) (fun _ _ _ h => h) (Or.inr ⟨by rfl, rfl⟩) hHeld ?_
          simp only [Act.put, List.setIfInBounds_toArray, List.set_cons_zero, List.set_cons_succ]
          refine wpAnyH_take (i := 22) (oi := ⟨some 47, _, _, _, _, _⟩) (v := ?vb22) rfl (by kernel_rfl) (by kernel_rfl) (by kernel_rfl) (fun _ _ _ h => h) (Or.inl ⟨by rfl, ?yb22⟩) hHeld ?rb22
          case yb22 => (intro w' hSw; (try dsimp only at hSw); go_simp; try (with_reducible rfl))
          simp only [Act.put, List.setIfInBounds_toArray, List.set_cons_zero, List.set_cons_succ]
          refine wpAnyH_done (by kernel_rfl) ?_ _
          have HB3 := Lib.hid (HB2.out.trans (hHeld.1.mono HB2.out.size))
          have HX3 := Lib.hid (HX2.out.on hHeld.1)
          clear hHeld HKP HB2 HX2
          go_wp2
          go_roundg (L.length - (k + 1))
          case measure => omega
          case rel => exact ⟨k + 1, z, by omega, rfl, by go_num, rfl, HF.out.no (by rw [HI.out, hq]), HB3, HX3⟩
        | true =>
          cases z with
          | none =>
            have hfr : fr none = -1 := rfl
            rw [hfr]
            go_wp2_with fail
            (with_reducible refine (text_s s r.m _ hs HT.out).mono ?_)
            rintro e w2 ⟨rfl, hb2⟩
            have HB2 := Lib.hid (HB.out.trans (hb2.mono HB.out.size))
            have HX2 := Lib.hid (HX.out.on hb2)
            clear HB HX hb2 c0 c1 c2 c3 c4 c5 c6 c7 c8 c9 c10 c11
            have KP : ∀ W, Below w2.heap.size w2 W → (Below w2.heap.size w2 W ∧ W.cell? ⟨w.heap.size, 0, none⟩ = some (.int .u64 (uv hh)) ∧ W.cell? ⟨w.heap.size, 1, none⟩ = some (.int .u64 (uv hl)) ∧ W.cell? ⟨b, off + k * 12, none⟩ = some (.int .i64 r.pri)) := fun W hb => ⟨hb, (HX2.out.on hb).cell 0, (HX2.out.on hb).cell 1, (((HPC.out k r HR.out).on HB2.out).on hb).out.1⟩
            have HKP := Lib.hid KP
            clear KP
            go_upto_region 6 with (fail)
            refine wp_region_held_drew (S := fun w' => Below w2.heap.size w2 w' ∧ w'.cell? ⟨w.heap.size, 0, none⟩ = some (.int .u64 (uv hh)) ∧ w'.cell? ⟨w.heap.size, 1, none⟩ = some (.int .u64 (uv hl)) ∧ w'.cell? ⟨b, off + k * 12, none⟩ = some (.int .i64 r.pri)) (by kernel_rfl) (HKP.out _ (Below.refl _ w2).drew) (fun hHeld => ?_)
            refine wpAnyH_take (i := 0) (oi := ⟨some 25, _, _, _, _, _⟩) (v := ?vc0) rfl (by kernel_rfl) (by kernel_rfl) (by kernel_rfl) (fun _ _ _ h => h) (Or.inl ⟨by rfl, ?yc0⟩) hHeld ?rc0
            case yc0 => (intro w' hSw; (try dsimp only at hSw); go_simp; try (with_reducible rfl))
            simp only [Act.put, List.setIfInBounds_toArray, List.set_cons_zero, List.set_cons_succ]
            refine wpAnyH_take (i := 1) (oi := ⟨some 26, _, _, _, _, _⟩) (v := ?vc1) rfl (by kernel_rfl) (by kernel_rfl) (by kernel_rfl) (fun _ _ _ h => h) (Or.inl ⟨by rfl, ?yc1⟩) hHeld ?rc1
            case yc1 => (intro w' hSw; (try dsimp only at hSw); go_simp; try (with_reducible rfl))
            simp only [Act.put, List.setIfInBounds_toArray, List.set_cons_zero, List.set_cons_succ]
            refine wpAnyH_take (i := 2) (oi := ⟨some 27, _, _, _, _, _⟩) (v := ?vc2) rfl (by kernel_rfl) (by kernel_rfl) (by kernel_rfl) (fun _ _ _ h => h) (Or.inl ⟨by rfl, ?yc2⟩) hHeld ?rc2
            case yc2 => (intro w' hSw; (try dsimp only at hSw); go_simp; try (with_reducible rfl))
            simp only [Act.put, List.setIfInBounds_toArray, List.set_cons_zero, List.set_cons_succ]
            refine wpAnyH_take (i := 3) (oi := ⟨some 28, _, _, _, _, _⟩) (v := ?vc3) rfl (by kernel_rfl) (by kernel_rfl) (by kernel_rfl) (fun _ _ _ h => h) (Or.inl ⟨by rfl, ?yc3⟩) hHeld ?rc3
            case yc3 => (intro w' hSw; (try dsimp only at hSw); go_simp; try (with_reducible rfl))
            simp only [Act.put, List.setIfInBounds_toArray, List.set_cons_zero, List.set_cons_succ]
            refine wpAnyH_ready (rs := [4]) (by kernel_rfl) (by simp) ?_
            refine AllReadyH.cons (o := ⟨some 29, _, _, _, _, _⟩) rfl (fun K hK => ?_) AllReadyH.nil
            go_simp
            (with_reducible refine (rhas_is true s r.m hh hl _ hs HT.out hq).mono ?_)
            rintro e w5 ⟨rfl, hb⟩
            (try dsimp only)
            refine hK.out _ _ (HKP.out _ (hHeld.1.trans (hb.mono hHeld.1.size))) (fun hNext => ?_)
            clear hK K hHeld
            have hHeld := hNext
            clear hNext
            try simp only [Act.put, List.setIfInBounds_toArray, List.set_cons_zero, List.set_cons_succ]
            refine wpAnyH_take (i := 5) (oi := ⟨some 30, _, _, _, _, _⟩) (v := ?vc5) rfl (by kernel_rfl) (by kernel_rfl) (by kernel_rfl) (fun _ _ _ h => h) (Or.inl ⟨by rfl, ?yc5⟩) hHeld ?rc5
            case yc5 => (intro w' hSw; (try dsimp only at hSw); go_simp; try (with_reducible rfl))
            simp only [Act.put, List.setIfInBounds_toArray, List.set_cons_zero, List.set_cons_succ]
            refine wpAnyH_take (i := 6) (oi := ⟨some 31, _, _, _, _, _⟩) (v := ?vc6) rfl (by kernel_rfl) (by kernel_rfl) (by kernel_rfl) (fun _ _ _ h => h) (Or.inl ⟨by rfl, ?yc6⟩) hHeld ?rc6
            case yc6 => (intro w' hSw; (try dsimp only at hSw); go_simp; try (with_reducible rfl))
            simp only [Act.put, List.setIfInBounds_toArray, List.set_cons_zero, List.set_cons_succ]
            refine wpAnyH_take (i := 7) (oi := ⟨some 32, _, _, _, _, _⟩) (v := ?vc7) rfl (by kernel_rfl) (by kernel_rfl) (by kernel_rfl) (fun _ _ _ h => h) (Or.inl ⟨by rfl, ?yc7⟩) hHeld ?rc7
            case yc7 => (intro w' hSw; (try dsimp only at hSw); go_simp; try (with_reducible rfl))
            simp only [Act.put, List.setIfInBounds_toArray, List.set_cons_zero, List.set_cons_succ]
            refine wpAnyH_take (i := 8) (oi := ⟨some 33, _, _, _, _, _⟩) (v := ?vc8) rfl (by kernel_rfl) (by kernel_rfl) (by kernel_rfl) (fun _ _ _ h => h) (Or.inl ⟨by rfl, ?yc8⟩) hHeld ?rc8
            case yc8 => (intro w' hSw; (try dsimp only at hSw); go_simp; try (with_reducible rfl))
            simp only [Act.put, List.setIfInBounds_toArray, List.set_cons_zero, List.set_cons_succ]
            refine wpAnyH_take (i := 9) (oi := ⟨some 34, _, _, _, _, _⟩) (v := ?vc9) rfl (by kernel_rfl) (by kernel_rfl) (by kernel_rfl) (fun _ _ _ h => h) (Or.inl ⟨by rfl, ?yc9⟩) hHeld ?rc9
            case yc9 => (intro w' hSw; (try dsimp only at hSw); go_simp; try (with_reducible rfl))
            simp only [Act.put, List.setIfInBounds_toArray, List.set_cons_zero, List.set_cons_succ]
            refine wpAnyH_take (i := 10) (oi := ⟨some 35, _, _, _, _, _⟩) (v := undef) rfl (by kernel_rfl) (by kernel_rfl) (by kernel_rfl) (fun _ _ _ h => h) (Or.inr ⟨by rfl, rfl⟩) hHeld ?_
            simp only [Act.put, List.setIfInBounds_toArray, List.set_cons_zero, List.set_cons_succ]
            refine wpAnyH_take (i := 11) (oi := ⟨some 36, _, _, _, _, _⟩) (v := undef) rfl (by kernel_rfl) (by kernel_rfl) (by kernel_rfl) (fun _ _ _ h => h) (Or.inr ⟨by rfl, rfl⟩) hHeld ?_
            simp only [Act.put, List.setIfInBounds_toArray, List.set_cons_zero, List.set_cons_succ]
            refine wpAnyH_take (i := 12) (oi := ⟨some 37, _, _, _, _, _⟩) (v := undef) rfl (by kernel_rfl) (by kernel_rfl) (by kernel_rfl) (fun _ _ _ h => h) (Or.inr ⟨by rfl, rfl⟩) hHeld ?_
            simp only [Act.put, List.setIfInBounds_toArray, List.set_cons_zero, List.set_cons_succ]
            refine wpAnyH_take (i := 13) (oi := ⟨some 38, _, _, _, _, _⟩) (v := undef) rfl (by kernel_rfl) (by kernel_rfl) (by kernel_rfl) (fun _ _ _ h => h) (Or.inr ⟨by rfl, rfl⟩) hHeld ?_
            simp only [Act.put, List.setIfInBounds_toArray, List.set_cons_zero, List.set_cons_succ]
            refine wpAnyH_take (i := 14) (oi := ⟨some 39, _, _, _, _, _⟩) (v := undef) rfl (by kernel_rfl) (by kernel_rfl) (by kernel_rfl) (fun _ _ _ h => h) (Or.inr ⟨by rfl, rfl⟩) hHeld ?_
            simp only [Act.put, List.setIfInBounds_toArray, List.set_cons_zero, List.set_cons_succ]
            refine wpAnyH_take (i := 15) (oi := ⟨some 40, _, _, _, _, _⟩) (v := undef) rfl (by kernel_rfl) (by kernel_rfl) (by kernel_rfl) (fun _ _ _ h => h) (Or.inr ⟨by rfl, rfl⟩) hHeld ?_
            simp only [Act.put, List.setIfInBounds_toArray, List.set_cons_zero, List.set_cons_succ]
            refine wpAnyH_take (i := 16) (oi := ⟨some 41, _, _, _, _, _⟩) (v := undef) rfl (by kernel_rfl) (by kernel_rfl) (by kernel_rfl) (fun _ _ _ h => h) (Or.inr ⟨by rfl, rfl⟩) hHeld ?_
            simp only [Act.put, List.setIfInBounds_toArray, List.set_cons_zero, List.set_cons_succ]
            refine wpAnyH_take (i := 17) (oi := ⟨some 42, _, _, _, _, _⟩) (v := undef) rfl (by kernel_rfl) (by kernel_rfl) (by kernel_rfl) (fun _ _ _ h => h) (Or.inr ⟨by rfl, rfl⟩) hHeld ?_
            simp only [Act.put, List.setIfInBounds_toArray, List.set_cons_zero, List.set_cons_succ]
            refine wpAnyH_take (i := 18) (oi := ⟨some 43, _, _, _, _, _⟩) (v := undef) rfl (by kernel_rfl) (by kernel_rfl) (by kernel_rfl) (fun _ _ _ h => h) (Or.inr ⟨by rfl, rfl⟩) hHeld ?_
            simp only [Act.put, List.setIfInBounds_toArray, List.set_cons_zero, List.set_cons_succ]
            refine wpAnyH_take (i := 19) (oi := ⟨some 44, _, _, _, _, _⟩) (v := undef) rfl (by kernel_rfl) (by kernel_rfl) (by kernel_rfl) (fun _ _ _ h => h) (Or.inr ⟨by rfl, rfl⟩) hHeld ?_
            simp only [Act.put, List.setIfInBounds_toArray, List.set_cons_zero, List.set_cons_succ]
            refine wpAnyH_take (i := 20) (oi := ⟨some 45, _, _, _, _, _⟩) (v := undef) rfl (by kernel_rfl) (by kernel_rfl) (by kernel_rfl) (fun _ _ _ h => h) (Or.inr ⟨by rfl, rfl⟩) hHeld ?_
            simp only [Act.put, List.setIfInBounds_toArray, List.set_cons_zero, List.set_cons_succ]
            refine wpAnyH_take (i := 21) (oi := ⟨some 46, _, _, _, _, _⟩) (v := ?vc21) rfl (by kernel_rfl) (by kernel_rfl) (by kernel_rfl) (fun _ _ _ h => h) (Or.inl ⟨by rfl, ?yc21⟩) hHeld ?rc21
            case yc21 => (intro w' hSw; (try dsimp only at hSw); go_simp; try (with_reducible rfl))
            simp only [Act.put, List.setIfInBounds_toArray, List.set_cons_zero, List.set_cons_succ]
            refine wpAnyH_take (i := 22) (oi := ⟨some 47, _, _, _, _, _⟩) (v := ?vc22) rfl (by kernel_rfl) (by kernel_rfl) (by kernel_rfl) (fun _ _ _ h => h) (Or.inl ⟨by rfl, ?yc22⟩) hHeld ?rc22
            case yc22 => (intro w' hSw; (try dsimp only at hSw); go_simp; try (with_reducible rfl))
            simp only [Act.put, List.setIfInBounds_toArray, List.set_cons_zero, List.set_cons_succ]
            refine wpAnyH_done (by kernel_rfl) ?_ _
            have HB3 := Lib.hid (HB2.out.trans (hHeld.1.mono HB2.out.size))
            have HX3 := Lib.hid (HX2.out.on hHeld.1)
            clear hHeld HKP HB2 HX2
            go_wp2
            go_roundg (L.length - (k + 1))
            case measure => omega
            case rel => exact ⟨k + 1, some k, by omega, rfl, by go_num, rfl, HF.out.first (by rw [HI.out, hq]), HB3, HX3⟩
          | some z =>
            have hfr : fr (some z) = (z : Int) := rfl
            rw [hfr]
            have hz := HF.out.lt
            have hzz : (z : Int) < (L.length : Int) := by omega
            have hz0 : ¬ (z : Int) < 0 := by omega
            have hzd : decide ((z : Int) < 0) = false := decide_eq_false hz0
            obtain ⟨p, hp⟩ : ∃ p, L[z]? = some p := ⟨_, List.getElem?_eq_getElem (by omega)⟩
            have HP := Lib.hid hp
            clear hp
            by_cases hd : p.pri < r.pri
            · have hdd : decide (p.pri < r.pri) = true := decide_eq_true hd
              have HG : Hid (leI L k z = true) := leI_of_gt (by rw [at_pos HP.out, at_pos HR.out]; exact hd)
              go_wp2_with fail
              (with_reducible refine (text_s s r.m _ hs HT.out).mono ?_)
              rintro e w2 ⟨rfl, hb2⟩
              have HB2 := Lib.hid (HB.out.trans (hb2.mono HB.out.size))
              have HX2 := Lib.hid (HX.out.on hb2)
              clear HB HX hb2 c0 c1 c2 c3 c4 c5 c6 c7 c8 c9 c10 c11
              have KP : ∀ W, Below w2.heap.size w2 W → (Below w2.heap.size w2 W ∧ W.cell? ⟨w.heap.size, 0, none⟩ = some (.int .u64 (uv hh)) ∧ W.cell? ⟨w.heap.size, 1, none⟩ = some (.int .u64 (uv hl)) ∧ W.cell? ⟨b, off + k * 12, none⟩ = some (.int .i64 r.pri) ∧ W.cell? ⟨b, off + z * 12, none⟩ = some (.int .i64 p.pri)) := fun W hb => ⟨hb, (HX2.out.on hb).cell 0, (HX2.out.on hb).cell 1, (((HPC.out k r HR.out).on HB2.out).on hb).out.1, (((HPC.out z p HP.out).on HB2.out).on hb).out.1⟩
              have HKP := Lib.hid KP
              clear KP
              go_upto_region 6 with (fail)
              refine wp_region_held_drew (S := fun w' => Below w2.heap.size w2 w' ∧ w'.cell? ⟨w.heap.size, 0, none⟩ = some (.int .u64 (uv hh)) ∧ w'.cell? ⟨w.heap.size, 1, none⟩ = some (.int .u64 (uv hl)) ∧ w'.cell? ⟨b, off + k * 12, none⟩ = some (.int .i64 r.pri) ∧ w'.cell? ⟨b, off + z * 12, none⟩ = some (.int .i64 p.pri)) (by kernel_rfl) (HKP.out _ (Below.refl _ w2).drew) (fun hHeld => ?_)
              refine wpAnyH_take (i := 0) (oi := ⟨some 25, _, _, _, _, _⟩) (v := ?vd0) rfl (by kernel_rfl) (by kernel_rfl) (by kernel_rfl) (fun _ _ _ h => h) (Or.inl ⟨by rfl, ?yd0⟩) hHeld ?rd0
              case yd0 => (intro w' hSw; (try dsimp only at hSw); go_simp; try (with_reducible rfl))
              simp only [Act.put, List.setIfInBounds_toArray, List.set_cons_zero, List.set_cons_succ]
              refine wpAnyH_take (i := 1) (oi := ⟨some 26, _, _, _, _, _⟩) (v := ?vd1) rfl (by kernel_rfl) (by kernel_rfl) (by kernel_rfl) (fun _ _ _ h => h) (Or.inl ⟨by rfl, ?yd1⟩) hHeld ?rd1
              case yd1 => (intro w' hSw; (try dsimp only at hSw); go_simp; try (with_reducible rfl))
              simp only [Act.put, List.setIfInBounds_toArray, List.set_cons_zero, List.set_cons_succ]
              refine wpAnyH_take (i := 2) (oi := ⟨some 27, _, _, _, _, _⟩) (v := ?vd2) rfl (by kernel_rfl) (by kernel_rfl) (by kernel_rfl) (fun _ _ _ h => h) (Or.inl ⟨by rfl, ?yd2⟩) hHeld ?rd2
              case yd2 => (intro w' hSw; (try dsimp only at hSw); go_simp; try (with_reducible rfl))
              simp only [Act.put, List.setIfInBounds_toArray, List.set_cons_zero, List.set_cons_succ]
              refine wpAnyH_take (i := 3) (oi := ⟨some 28, _, _, _, _, _⟩) (v := ?vd3) rfl (by kernel_rfl) (by kernel_rfl) (by kernel_rfl) (fun _ _ _ h => h) (Or.inl ⟨by rfl, ?yd3⟩) hHeld ?rd3
              case yd3 => (intro w' hSw; (try dsimp only at hSw); go_simp; try (with_reducible rfl))
              simp only [Act.put, List.setIfInBounds_toArray, List.set_cons_zero, List.set_cons_succ]
              refine wpAnyH_ready (rs := [4]) (by kernel_rfl) (by simp) ?_
              refine AllReadyH.cons (o := ⟨some 29, _, _, _, _, _⟩) rfl (fun K hK => ?_) AllReadyH.nil
              go_simp
              (with_reducible refine (rhas_is true s r.m hh hl _ hs HT.out hq).mono ?_)
              rintro e w5 ⟨rfl, hb⟩
              (try dsimp only)
              refine hK.out _ _ (HKP.out _ (hHeld.1.trans (hb.mono hHeld.1.size))) (fun hNext => ?_)
              clear hK K hHeld
              have hHeld := hNext
              clear hNext
              try simp only [Act.put, List.setIfInBounds_toArray, List.set_cons_zero, List.set_cons_succ]
              refine wpAnyH_take (i := 5) (oi := ⟨some 30, _, _, _, _, _⟩) (v := ?vd5) rfl (by kernel_rfl) (by kernel_rfl) (by kernel_rfl) (fun _ _ _ h => h) (Or.inl ⟨by rfl, ?yd5⟩) hHeld ?rd5
              case yd5 => (intro w' hSw; (try dsimp only at hSw); go_simp; try (with_reducible rfl))
              simp only [Act.put, List.setIfInBounds_toArray, List.set_cons_zero, List.set_cons_succ]
              refine wpAnyH_take (i := 6) (oi := ⟨some 31, _, _, _, _, _⟩) (v := ?vd6) rfl (by kernel_rfl) (by kernel_rfl) (by kernel_rfl) (fun _ _ _ h => h) (Or.inl ⟨by rfl, ?yd6⟩) hHeld ?rd6
              case yd6 => (intro w' hSw; (try dsimp only at hSw); go_simp; try (with_reducible rfl))
              simp only [Act.put, List.setIfInBounds_toArray, List.set_cons_zero, List.set_cons_succ]
              refine wpAnyH_take (i := 7) (oi := ⟨some 32, _, _, _, _, _⟩) (v := ?vd7) rfl (by kernel_rfl) (by kernel_rfl) (by kernel_rfl) (fun _ _ _ h => h) (Or.inl ⟨by rfl, ?yd7⟩) hHeld ?rd7
              case yd7 => (intro w' hSw; (try dsimp only at hSw); go_simp; try (with_reducible rfl))
              simp only [Act.put, List.setIfInBounds_toArray, List.set_cons_zero, List.set_cons_succ]
              refine wpAnyH_take (i := 8) (oi := ⟨some 33, _, _, _, _, _⟩) (v := ?vd8) rfl (by kernel_rfl) (by kernel_rfl) (by kernel_rfl) (fun _ _ _ h => h) (Or.inl ⟨by rfl, ?yd8⟩) hHeld ?rd8
              case yd8 => (intro w' hSw; (try dsimp only at hSw); go_simp; try (with_reducible rfl))
              simp only [Act.put, List.setIfInBounds_toArray, List.set_cons_zero, List.set_cons_succ]
              refine wpAnyH_take (i := 9) (oi := ⟨some 34, _, _, _, _, _⟩) (v := ?vd9) rfl (by kernel_rfl) (by kernel_rfl) (by kernel_rfl) (fun _ _ _ h => h) (Or.inl ⟨by rfl, ?yd9⟩) hHeld ?rd9
              case yd9 => (intro w' hSw; (try dsimp only at hSw); go_simp; try (with_reducible rfl))
              simp only [Act.put, List.setIfInBounds_toArray, List.set_cons_zero, List.set_cons_succ]
              refine wpAnyH_take (i := 10) (oi := ⟨some 35, _, _, _, _, _⟩) (v := ?vd10) rfl (by kernel_rfl) (by kernel_rfl) (by kernel_rfl) (fun _ _ _ h => h) (Or.inl ⟨by rfl, ?yd10⟩) hHeld ?rd10
              case yd10 => (intro w' hSw; (try dsimp only at hSw); go_simp; try (with_reducible rfl))
              simp only [Act.put, List.setIfInBounds_toArray, List.set_cons_zero, List.set_cons_succ]
              refine wpAnyH_take (i := 11) (oi := ⟨some 36, _, _, _, _, _⟩) (v := ?vd11) rfl (by kernel_rfl) (by kernel_rfl) (by kernel_rfl) (fun _ _ _ h => h) (Or.inl ⟨by rfl, ?yd11⟩) hHeld ?rd11
              case yd11 => (intro w' hSw; (try dsimp only at hSw); go_simp; try (with_reducible rfl))
              simp only [Act.put, List.setIfInBounds_toArray, List.set_cons_zero, List.set_cons_succ]
              refine wpAnyH_take (i := 12) (oi := ⟨some 37, _, _, _, _, _⟩) (v := ?vd12) rfl (by kernel_rfl) (by kernel_rfl) (by kernel_rfl) (fun _ _ _ h => h) (Or.inl ⟨by rfl, ?yd12⟩) hHeld ?rd12
              case yd12 => (intro w' hSw; (try dsimp only at hSw); go_simp; try (with_reducible rfl))
              simp only [Act.put, List.setIfInBounds_toArray, List.set_cons_zero, List.set_cons_succ]
              refine wpAnyH_take (i := 13) (oi := ⟨some 38, _, _, _, _, _⟩) (v := ?vd13) rfl (by kernel_rfl) (by kernel_rfl) (by kernel_rfl) (fun _ _ _ h => h) (Or.inl ⟨by rfl, ?yd13⟩) hHeld ?rd13
              case yd13 => (intro w' hSw; (try dsimp only at hSw); go_simp; try (with_reducible rfl))
              simp only [Act.put, List.setIfInBounds_toArray, List.set_cons_zero, List.set_cons_succ]
              refine wpAnyH_take (i := 14) (oi := ⟨some 39, _, _, _, _, _⟩) (v := ?vd14) rfl (by kernel_rfl) (by kernel_rfl) (by kernel_rfl) (fun _ _ _ h => h) (Or.inl ⟨by rfl, ?yd14⟩) hHeld ?rd14
              case yd14 => (intro w' hSw; (try dsimp only at hSw); go_simp; try (with_reducible rfl))
              simp only [Act.put, List.setIfInBounds_toArray, List.set_cons_zero, List.set_cons_succ]
              refine wpAnyH_take (i := 15) (oi := ⟨some 40, _, _, _, _, _⟩) (v := ?vd15) rfl (by kernel_rfl) (by kernel_rfl) (by kernel_rfl) (fun _ _ _ h => h) (Or.inl ⟨by rfl, ?yd15⟩) hHeld ?rd15
              case yd15 => (intro w' hSw; (try dsimp only at hSw); go_simp; try (with_reducible rfl))
              simp only [Act.put, List.setIfInBounds_toArray, List.set_cons_zero, List.set_cons_succ]
              refine wpAnyH_take (i := 16) (oi := ⟨some 41, _, _, _, _, _⟩) (v := ?vd16) rfl (by kernel_rfl) (by kernel_rfl) (by kernel_rfl) (fun _ _ _ h => h) (Or.inl ⟨by rfl, ?yd16⟩) hHeld ?rd16
              case yd16 => (intro w' hSw; (try dsimp only at hSw); go_simp; try (with_reducible rfl))
              simp only [Act.put, List.setIfInBounds_toArray, List.set_cons_zero, List.set_cons_succ]
              refine wpAnyH_take (i := 17) (oi := ⟨some 42, _, _, _, _, _⟩) (v := ?vd17) rfl (by kernel_rfl) (by kernel_rfl) (by kernel_rfl) (fun _ _ _ h => h) (Or.inl ⟨by rfl, ?yd17⟩) hHeld ?rd17
              case yd17 => (intro w' hSw; (try dsimp only at hSw); go_simp; try (with_reducible rfl))
              simp only [Act.put, List.setIfInBounds_toArray, List.set_cons_zero, List.set_cons_succ]
              refine wpAnyH_take (i := 18) (oi := ⟨some 43, _, _, _, _, _⟩) (v := ?vd18) rfl (by kernel_rfl) (by kernel_rfl) (by kernel_rfl) (fun _ _ _ h => h) (Or.inl ⟨by rfl, ?yd18⟩) hHeld ?rd18
              case yd18 => (intro w' hSw; (try dsimp only at hSw); go_simp; try (with_reducible rfl))
              simp only [Act.put, List.setIfInBounds_toArray, List.set_cons_zero, List.set_cons_succ]
              refine wpAnyH_take (i := 19) (oi := ⟨some 44, _, _, _, _, _⟩) (v := ?vd19) rfl (by kernel_rfl) (by kernel_rfl) (by kernel_rfl) (fun _ _ _ h => h) (Or.inl ⟨by rfl, ?yd19⟩) hHeld ?rd19
              case yd19 => (intro w' hSw; (try dsimp only at hSw); go_simp; try (with_reducible rfl))
              simp only [Act.put, List.setIfInBounds_toArray, List.set_cons_zero, List.set_cons_succ]
              refine wpAnyH_take (i := 20) (oi := ⟨some 45, _, _, _, _, _⟩) (v := ?vd20) rfl (by kernel_rfl) (by kernel_rfl) (by kernel_rfl) (fun _ _ _ h => h) (Or.inl ⟨by rfl, ?yd20⟩) hHeld ?rd20
              case yd20 => (intro w' hSw; (try dsimp only at hSw); go_simp; try (with_reducible rfl))
              simp only [Act.put, List.setIfInBounds_toArray, List.set_cons_zero, List.set_cons_succ]
              refine wpAnyH_take (i := 21) (oi := ⟨some 46, _, _, _, _, _⟩) (v := ?vd21) rfl (by kernel_rfl) (by kernel_rfl) (by kernel_rfl) (fun _ _ _ h => h) (Or.inl ⟨by rfl, ?yd21⟩) hHeld ?rd21
              case yd21 => (intro w' hSw; (try dsimp only at hSw); go_simp; try (with_reducible rfl))
              simp only [Act.put, List.setIfInBounds_toArray, List.set_cons_zero, List.set_cons_succ]
              refine wpAnyH_take (i := 22) (oi := ⟨some 47, _, _, _, _, _⟩) (v := ?vd22) rfl (by kernel_rfl) (by kernel_rfl) (by kernel_rfl) (fun _ _ _ h => h) (Or.inl ⟨by rfl, ?yd22⟩) hHeld ?rd22
              case yd22 => (intro w' hSw; (try dsimp only at hSw); go_simp; try (with_reducible rfl))
              simp only [Act.put, List.setIfInBounds_toArray, List.set_cons_zero, List.set_cons_succ]
              refine wpAnyH_done (by kernel_rfl) ?_ _
              have HB3 := Lib.hid (HB2.out.trans (hHeld.1.mono HB2.out.size))
              have HX3 := Lib.hid (HX2.out.on hHeld.1)
              clear hHeld HKP HB2 HX2
              go_wp2
              go_roundg (L.length - (k + 1))
              case measure => omega
              case rel => exact ⟨k + 1, some k, by omega, rfl, by go_num, rfl, HF.out.more (by rw [HI.out, hq]) HG.out, HB3, HX3⟩
            · have hdd : decide (p.pri < r.pri) = false := decide_eq_false hd
              have HG : Hid (leI L z k = true) := leI_of_ge hz (by rw [at_pos HP.out, at_pos HR.out]; exact hd)
              go_wp2_with fail
              (with_reducible refine (text_s s r.m _ hs HT.out).mono ?_)
              rintro e w2 ⟨rfl, hb2⟩
              have HB2 := Lib.hid (HB.out.trans (hb2.mono HB.out.size))
              have HX2 := Lib.hid (HX.out.on hb2)
              clear HB HX hb2 c0 c1 c2 c3 c4 c5 c6 c7 c8 c9 c10 c11
              have KP : ∀ W, Below w2.heap.size w2 W → (Below w2.heap.size w2 W ∧ W.cell? ⟨w.heap.size, 0, none⟩ = some (.int .u64 (uv hh)) ∧ W.cell? ⟨w.heap.size, 1, none⟩ = some (.int .u64 (uv hl)) ∧ W.cell? ⟨b, off + k * 12, none⟩ = some (.int .i64 r.pri) ∧ W.cell? ⟨b, off + z * 12, none⟩ = some (.int .i64 p.pri)) := fun W hb => ⟨hb, (HX2.out.on hb).cell 0, (HX2.out.on hb).cell 1, (((HPC.out k r HR.out).on HB2.out).on hb).out.1, (((HPC.out z p HP.out).on HB2.out).on hb).out.1⟩
              have HKP := Lib.hid KP
              clear KP
              go_upto_region 6 with (fail)
              refine wp_region_held_drew (S := fun w' => Below w2.heap.size w2 w' ∧ w'.cell? ⟨w.heap.size, 0, none⟩ = some (.int .u64 (uv hh)) ∧ w'.cell? ⟨w.heap.size, 1, none⟩ = some (.int .u64 (uv hl)) ∧ w'.cell? ⟨b, off + k * 12, none⟩ = some (.int .i64 r.pri) ∧ w'.cell? ⟨b, off + z * 12, none⟩ = some (.int .i64 p.pri)) (by kernel_rfl) (HKP.out _ (Below.refl _ w2).drew) (fun hHeld => ?_)
              refine wpAnyH_take (i := 0) (oi := ⟨some 25, _, _, _, _, _⟩) (v := ?ve0) rfl (by kernel_rfl) (by kernel_rfl) (by kernel_rfl) (fun _ _ _ h => h) (Or.inl ⟨by rfl, ?ye0⟩) hHeld ?re0
              case ye0 => (intro w' hSw; (try dsimp only at hSw); go_simp; try (with_reducible rfl))
              simp only [Act.put, List.setIfInBounds_toArray, List.set_cons_zero, List.set_cons_succ]
              refine wpAnyH_take (i := 1) (oi := ⟨some 26, _, _, _, _, _⟩) (v := ?ve1) rfl (by kernel_rfl) (by kernel_rfl) (by kernel_rfl) (fun _ _ _ h => h) (Or.inl ⟨by rfl, ?ye1⟩) hHeld ?re1
              case ye1 => (intro w' hSw; (try dsimp only at hSw); go_simp; try (with_reducible rfl))
              simp only [Act.put, List.setIfInBounds_toArray, List.set_cons_zero, List.set_cons_succ]
              refine wpAnyH_take (i := 2) (oi := ⟨some 27, _, _, _, _, _⟩) (v := ?ve2) rfl (by kernel_rfl) (by kernel_rfl) (by kernel_rfl) (fun _ _ _ h => h) (Or.inl ⟨by rfl, ?ye2⟩) hHeld ?re2
              case ye2 => (intro w' hSw; (try dsimp only at hSw); go_simp; try (with_reducible rfl))
              simp only [Act.put, List.setIfInBounds_toArray, List.set_cons_zero, List.set_cons_succ]
              refine wpAnyH_take (i := 3) (oi := ⟨some 28, _, _, _, _, _⟩) (v := ?ve3) rfl (by kernel_rfl) (by kernel_rfl) (by kernel_rfl) (fun _ _ _ h => h) (Or.inl ⟨by rfl, ?ye3⟩) hHeld ?re3
              case ye3 => (intro w' hSw; (try dsimp only at hSw); go_simp; try (with_reducible rfl))
              simp only [Act.put, List.setIfInBounds_toArray, List.set_cons_zero, List.set_cons_succ]
              refine wpAnyH_ready (rs := [4]) (by kernel_rfl) (by simp) ?_
              refine AllReadyH.cons (o := ⟨some 29, _, _, _, _, _⟩) rfl (fun K hK => ?_) AllReadyH.nil
              go_simp
              (with_reducible refine (rhas_is true s r.m hh hl _ hs HT.out hq).mono ?_)
              rintro e w5 ⟨rfl, hb⟩
              (try dsimp only)
              refine hK.out _ _ (HKP.out _ (hHeld.1.trans (hb.mono hHeld.1.size))) (fun hNext => ?_)
              clear hK K hHeld
              have hHeld := hNext
              clear hNext
              try simp only [Act.put, List.setIfInBounds_toArray, List.set_cons_zero, List.set_cons_succ]
              refine wpAnyH_take (i := 5) (oi := ⟨some 30, _, _, _, _, _⟩) (v := ?ve5) rfl (by kernel_rfl) (by kernel_rfl) (by kernel_rfl) (fun _ _ _ h => h) (Or.inl ⟨by rfl, ?ye5⟩) hHeld ?re5
              case ye5 => (intro w' hSw; (try dsimp only at hSw); go_simp; try (with_reducible rfl))
              simp only [Act.put, List.setIfInBounds_toArray, List.set_cons_zero, List.set_cons_succ]
              refine wpAnyH_take (i := 6) (oi := ⟨some 31, _, _, _, _, _⟩) (v := ?ve6) rfl (by kernel_rfl) (by kernel_rfl) (by kernel_rfl) (fun _ _ _ h => h) (Or.inl ⟨by rfl, ?ye6⟩) hHeld ?re6
              case ye6 => (intro w' hSw; (try dsimp only at hSw); go_simp; try (with_reducible rfl))
              simp only [Act.put, List.setIfInBounds_toArray, List.set_cons_zero, List.set_cons_succ]
              refine wpAnyH_take (i := 7) (oi := ⟨some 32, _, _, _, _, _⟩) (v := ?ve7) rfl (by kernel_rfl) (by kernel_rfl) (by kernel_rfl) (fun _ _ _ h => h) (Or.inl ⟨by rfl, ?ye7⟩) hHeld ?re7
              case ye7 => (intro w' hSw; (try dsimp only at hSw); go_simp; try (with_reducible rfl))
              simp only [Act.put, List.setIfInBounds_toArray, List.set_cons_zero, List.set_cons_succ]
              refine wpAnyH_take (i := 8) (oi := ⟨some 33, _, _, _, _, _⟩) (v := ?ve8) rfl (by kernel_rfl) (by kernel_rfl) (by kernel_rfl) (fun _ _ _ h => h) (Or.inl ⟨by rfl, ?ye8⟩) hHeld ?re8
              case ye8 => (intro w' hSw; (try dsimp only at hSw); go_simp; try (with_reducible rfl))
              simp only [Act.put, List.setIfInBounds_toArray, List.set_cons_zero, List.set_cons_succ]
              refine wpAnyH_take (i := 9) (oi := ⟨some 34, _, _, _, _, _⟩) (v := ?ve9) rfl (by kernel_rfl) (by kernel_rfl) (by kernel_rfl) (fun _ _ _ h => h) (Or.inl ⟨by rfl, ?ye9⟩) hHeld ?re9
              case ye9 => (intro w' hSw; (try dsimp only at hSw); go_simp; try (with_reducible rfl))
              simp only [Act.put, List.setIfInBounds_toArray, List.set_cons_zero, List.set_cons_succ]
              refine wpAnyH_take (i := 10) (oi := ⟨some 35, _, _, _, _, _⟩) (v := ?ve10) rfl (by kernel_rfl) (by kernel_rfl) (by kernel_rfl) (fun _ _ _ h => h) (Or.inl ⟨by rfl, ?ye10⟩) hHeld ?re10
              case ye10 => (intro w' hSw; (try dsimp only at hSw); go_simp; try (with_reducible rfl))
              simp only [Act.put, List.setIfInBounds_toArray, List.set_cons_zero, List.set_cons_succ]
              refine wpAnyH_take (i := 11) (oi := ⟨some 36, _, _, _, _, _⟩) (v := ?ve11) rfl (by kernel_rfl) (by kernel_rfl) (by kernel_rfl) (fun _ _ _ h => h) (Or.inl ⟨by rfl, ?ye11⟩) hHeld ?re11
              case ye11 => (intro w' hSw; (try dsimp only at hSw); go_simp; try (with_reducible rfl))
              simp only [Act.put, List.setIfInBounds_toArray, List.set_cons_zero, List.set_cons_succ]
              refine wpAnyH_take (i := 12) (oi := ⟨some 37, _, _, _, _, _⟩) (v := ?ve12) rfl (by kernel_rfl) (by kernel_rfl) (by kernel_rfl) (fun _ _ _ h => h) (Or.inl ⟨by rfl, ?ye12⟩) hHeld ?re12
              case ye12 => (intro w' hSw; (try dsimp only at hSw); go_simp; try (with_reducible rfl))
              simp only [Act.put, List.setIfInBounds_toArray, List.set_cons_zero, List.set_cons_succ]
              refine wpAnyH_take (i := 13) (oi := ⟨some 38, _, _, _, _, _⟩) (v := ?ve13) rfl (by kernel_rfl) (by kernel_rfl) (by kernel_rfl) (fun _ _ _ h => h) (Or.inl ⟨by rfl, ?ye13⟩) hHeld ?re13
              case ye13 => (intro w' hSw; (try dsimp only at hSw); go_simp; try (with_reducible rfl))
              simp only [Act.put, List.setIfInBounds_toArray, List.set_cons_zero, List.set_cons_succ]
              refine wpAnyH_take (i := 14) (oi := ⟨some 39, _, _, _, _, _⟩) (v := ?ve14) rfl (by kernel_rfl) (by kernel_rfl) (by kernel_rfl) (fun _ _ _ h => h) (Or.inl ⟨by rfl, ?ye14⟩) hHeld ?re14
              case ye14 => (intro w' hSw; (try dsimp only at hSw); go_simp; try (with_reducible rfl))
              simp only [Act.put, List.setIfInBounds_toArray, List.set_cons_zero, List.set_cons_succ]
              refine wpAnyH_take (i := 15) (oi := ⟨some 40, _, _, _, _, _⟩) (v := ?ve15) rfl (by kernel_rfl) (by kernel_rfl) (by kernel_rfl) (fun _ _ _ h => h) (Or.inl ⟨by rfl, ?ye15⟩) hHeld ?re15
              case ye15 => (intro w' hSw; (try dsimp only at hSw); go_simp; try (with_reducible rfl))
              simp only [Act.put, List.setIfInBounds_toArray, List.set_cons_zero, List.set_cons_succ]
              refine wpAnyH_take (i := 16) (oi := ⟨some 41, _, _, _, _, _⟩) (v := ?ve16) rfl (by kernel_rfl) (by kernel_rfl) (by kernel_rfl) (fun _ _ _ h => h) (Or.inl ⟨by rfl, ?ye16⟩) hHeld ?re16
              case ye16 => (intro w' hSw; (try dsimp only at hSw); go_simp; try (with_reducible rfl))
              simp only [Act.put, List.setIfInBounds_toArray, List.set_cons_zero, List.set_cons_succ]
              refine wpAnyH_take (i := 17) (oi := ⟨some 42, _, _, _, _, _⟩) (v := ?ve17) rfl (by kernel_rfl) (by kernel_rfl) (by kernel_rfl) (fun _ _ _ h => h) (Or.inl ⟨by rfl, ?ye17⟩) hHeld ?re17
              case ye17 => (intro w' hSw; (try dsimp only at hSw); go_simp; try (with_reducible rfl))
              simp only [Act.put, List.setIfInBounds_toArray, List.set_cons_zero, List.set_cons_succ]
              refine wpAnyH_take (i := 18) (oi := ⟨some 43, _, _, _, _, _⟩) (v := ?ve18) rfl (by kernel_rfl) (by kernel_rfl) (by kernel_rfl) (fun _ _ _ h => h) (Or.inl ⟨by rfl, ?ye18⟩) hHeld ?re18
              case ye18 => (intro w' hSw; (try dsimp only at hSw); go_simp; try (with_reducible rfl))
              simp only [Act.put, List.setIfInBounds_toArray, List.set_cons_zero, List.set_cons_succ]
              refine wpAnyH_take (i := 19) (oi := ⟨some 44, _, _, _, _, _⟩) (v := ?ve19) rfl (by kernel_rfl) (by kernel_rfl) (by kernel_rfl) (fun _ _ _ h => h) (Or.inl ⟨by rfl, ?ye19⟩) hHeld ?re19
              case ye19 => (intro w' hSw; (try dsimp only at hSw); go_simp; try (with_reducible rfl))
              simp only [Act.put, List.setIfInBounds_toArray, List.set_cons_zero, List.set_cons_succ]
              refine wpAnyH_take (i := 20) (oi := ⟨some 45, _, _, _, _, _⟩) (v := ?ve20) rfl (by kernel_rfl) (by kernel_rfl) (by kernel_rfl) (fun _ _ _ h => h) (Or.inl ⟨by rfl, ?ye20⟩) hHeld ?re20
              case ye20 => (intro w' hSw; (try dsimp only at hSw); go_simp; try (with_reducible rfl))
              simp only [Act.put, List.setIfInBounds_toArray, List.set_cons_zero, List.set_cons_succ]
              refine wpAnyH_take (i := 21) (oi := ⟨some 46, _, _, _, _, _⟩) (v := ?ve21) rfl (by kernel_rfl) (by kernel_rfl) (by kernel_rfl) (fun _ _ _ h => h) (Or.inl ⟨by rfl, ?ye21⟩) hHeld ?re21
              case ye21 => (intro w' hSw; (try dsimp only at hSw); go_simp; try (with_reducible rfl))
              simp only [Act.put, List.setIfInBounds_toArray, List.set_cons_zero, List.set_cons_succ]
              refine wpAnyH_take (i := 22) (oi := ⟨some 47, _, _, _, _, _⟩) (v := ?ve22) rfl (by kernel_rfl) (by kernel_rfl) (by kernel_rfl) (fun _ _ _ h => h) (Or.inl ⟨by rfl, ?ye22⟩) hHeld ?re22
              case ye22 => (intro w' hSw; (try dsimp only at hSw); go_simp; try (with_reducible rfl))
              simp only [Act.put, List.setIfInBounds_toArray, List.set_cons_zero, List.set_cons_succ]
              refine wpAnyH_done (by kernel_rfl) ?_ _
              have HB3 := Lib.hid (HB2.out.trans (hHeld.1.mono HB2.out.size))
              have HX3 := Lib.hid (HX2.out.on hHeld.1)
              clear hHeld HKP HB2 HX2
              go_wp2
              go_roundg (L.length - (k + 1))
              case measure => omega
              case rel => exact ⟨k + 1, some z, by omega, rfl, by go_num, rfl, HF.out.keep HG.out, HB3, HX3⟩
    · have hltz : ¬ (k : Int) < (L.length : Int) := by omega
      obtain rfl : k = L.length := by omega
      have HE : Hid (fndI L hh hl = z) := HF.out.last
      have hz := fun b (e : z = some b) => (show FstIs L hh hl L.length (some b) from e ▸ HF.out).lt
      clear HF HA HX
      cases z with
      | none =>
        have hfr : fr none = -1 := rfl
        rw [hfr]
        go_wp2
        go_ret2
        exact ⟨by rw [HE.out]; rfl, HB.out⟩
      | some z =>
        have hfr : fr (some z) = (z : Int) := rfl
        rw [hfr]
        have hz0 : ¬ (z : Int) < 0 := by omega
        clear hz
        go_wp2
        go_ret2
        exact ⟨by rw [HE.out]; rfl, HB.out⟩
end Go.Proofs

namespace Go.Proofs
open Go.RowKit Go.Proofs.Hd Go.Lib
attribute [local go_sem] uv_nonneg
attribute [local go_sem high] run_eq2
theorem oneis_no {L : List Rl} {hh hl : BitVec 64} (h : fndI L hh hl = none) : OneIs L hh hl 0 0#64 0#64 false := Or.inl ⟨h, rfl, rfl, rfl, rfl⟩
theorem oneis_yes {L : List Rl} {hh hl : BitVec 64} {k : Nat} {r : Rl} (h : fndI L hh hl = some k) (hr : L[k]? = some r) : OneIs L hh hl (k : Int) (stH r hh) (stL r hl) true := Or.inr ⟨k, r, h, hr, rfl, rfl, rfl, rfl⟩
theorem rset_st (r : Rl) (hh hl : BitVec 64) (w : World) : Calls Try.prog 11 #[.agg #[.int .u64 (uv hh), .int .u64 (uv hl)], .agg #[.int .u64 (uv r.s.vh), .int .u64 (uv r.s.vl), .int .u64 (uv r.s.ch), .int .u64 (uv r.s.cl)]] w fun e w' => e = .returned (.agg #[.int .u64 (uv (stH r hh)), .int .u64 (uv (stL r hl))]) ∧ Below w.heap.size w w' := rset_c hh hl r.s.vh r.s.vl r.s.ch r.s.cl w
set_option maxRecDepth 100000 in
set_option maxHeartbeats 8000000 in
theorem wones_c (v : Value) (X : List (List Rl)) (n : Int) (hh hl : BitVec 64) (w : World) (hX : RuT w v X) (hsz : ∀ R ∈ X, R.length ≤ 1466015503658) : Calls Try.prog 3 #[v, .int .i64 n, .agg #[.int .u64 (uv hh), .int .u64 (uv hl)]] w fun e w' => e = .returned (.bool true) ∧ Below w.heap.size w w' := by
  have HX := Lib.hid hX
  have HSZ := Lib.hid hsz
  clear hX hsz
  by_cases hin : 0 ≤ n ∧ n < (X.length : Int)
  · obtain ⟨t, rfl⟩ : ∃ t : Nat, n = (t : Int) := ⟨n.toNat, by omega⟩
    have htl : t < X.length := by omega
    have htz : (t : Int) < (X.length : Int) := by omega
    obtain ⟨R, hR⟩ : ∃ R, X[t]? = some R := ⟨_, List.getElem?_eq_getElem htl⟩
    have hRl := HSZ.out R (List.mem_of_getElem? hR)
    obtain ⟨A, cap, rfl, -, -, hf⟩ := HX.out
    obtain ⟨b, o, rfl, -, hk⟩ := hf (by rintro rfl; simp at htl)
    obtain ⟨s, hs, hru⟩ := hk t R hR
    have HRU := Lib.hid hru
    obtain ⟨RA, Rc, rfl, hRf⟩ := hru.form
    have HS := Lib.hid hs
    have HTR := Lib.hid hR
    have HRF := Lib.hid hRf
    clear hf hk hru hs hR hRf hin htl
    cases hz : fndI R hh hl with
    | none =>
      have HFND : Hid (∀ u : World, Below w.heap.size w u → Calls Try.prog 9 #[.slice RA R.length Rc, .agg #[.int .u64 (uv hh), .int .u64 (uv hl)]] u fun e w' => e = .returned (.tuple #[.int .i64 0, .bool false]) ∧ Below u.heap.size u w') := fun u hu => by
        have h := rfind_c _ R hh hl u (by omega) (HRU.out.on hu)
        rw [hz] at h
        exact h
      have HZ := Lib.hid hz
      clear hz
      have HB0 := Lib.hid (below1 w (.cells #[.int .u64 (uv hh), .int .u64 (uv hl)] 25))
      have K0 : Hid (Blk (w.alloc (.cells #[.int .u64 (uv hh), .int .u64 (uv hl)] 25)) w.heap.size 25 #[.int .u64 (uv hh), .int .u64 (uv hl)]) := Blk.new w _ _
      go_enter Try.func3, Try.ntmps3
      go_upto_region 1 with (fail)
      generalize (w.alloc (.cells #[.int .u64 (uv hh), .int .u64 (uv hl)] 25)) = w1 at HB0 K0 ⊢
      obtain ⟨h0, h1⟩ := K0.out.both
      go_wp2_with fail
      (with_reducible refine (one_c (by omega) (HX.out.on HB0.out) HTR.out (oneis_no HZ.out)).mono ?_)
      rintro e w2 ⟨rfl, hb⟩
      have bx := below1 w2 (.cells #[.int .u64 (uv 0#64), .int .u64 (uv 0#64)] 25)
      have G2 := Lib.hid (Blk.new w2 25 #[.int .u64 (uv 0#64), .int .u64 (uv 0#64)])
      have hw := hb.trans (bx.mono hb.size)
      have HB2 := Lib.hid (HB0.out.trans (hw.mono HB0.out.size))
      have K2 := Lib.hid (K0.out.on hw)
      clear hb bx hw HB0 K0 h0 h1
      go_upto_region 2 with (fail)
      generalize hgen : w2.alloc (.cells #[.int .u64 (uv 0#64), .int .u64 (uv 0#64)] 25) = w3 at G2 HB2 K2 ⊢
      clear hgen
      generalize hgen : w2.heap.size = bg at G2 ⊢
      clear hgen
      go_upto_region 4 with (fail)
      have HKP : Hid (∀ W, Below w3.heap.size w3 W → (Below w3.heap.size w3 W ∧ W.cell? ⟨b, o + t, none⟩ = some (.slice RA R.length Rc) ∧ W.cell? ⟨w.heap.size, 0, none⟩ = some (.int .u64 (uv hh)) ∧ W.cell? ⟨w.heap.size, 1, none⟩ = some (.int .u64 (uv hl)))) := fun W hb => ⟨hb, on_some (HB2.out.trans (hb.mono HB2.out.size)) HS.out, (K2.out.on hb).both⟩
      refine wp_region_held_drew (S := fun w' => Below w3.heap.size w3 w' ∧ w'.cell? ⟨b, o + t, none⟩ = some (.slice RA R.length Rc) ∧ w'.cell? ⟨w.heap.size, 0, none⟩ = some (.int .u64 (uv hh)) ∧ w'.cell? ⟨w.heap.size, 1, none⟩ = some (.int .u64 (uv hl))) (by kernel_rfl) (HKP.out _ (Below.refl _ w3).drew) (fun hHeld => ?_)
      have hB := (Below.refl w3.heap.size w3).drew
      generalize w3.drew = u0 at hHeld hB ⊢
      refine wpAnyH_take (i := 0) (oi := ⟨some 29, _, _, _, _, _⟩) (v := ?voa0_1) rfl (by kernel_rfl) (by kernel_rfl) (by kernel_rfl) (fun _ _ _ h => h) (Or.inl ⟨by rfl, ?yoa0_1⟩) hHeld ?roa0_1
      case yoa0_1 => (intro w' hSw; (try dsimp only at hSw); go_simp; try (with_reducible rfl))
      simp only [Act.put, List.setIfInBounds_toArray, List.set_cons_zero, List.set_cons_succ]
      refine wpAnyH_take (i := 1) (oi := ⟨some 30, _, _, _, _, _⟩) (v := ?voa1_2) rfl (by kernel_rfl) (by kernel_rfl) (by kernel_rfl) (fun _ _ _ h => h) (Or.inl ⟨by rfl, ?yoa1_2⟩) hHeld ?roa1_2
      case yoa1_2 => (intro w' hSw; (try dsimp only at hSw); go_simp; try (with_reducible rfl))
      simp only [Act.put, List.setIfInBounds_toArray, List.set_cons_zero, List.set_cons_succ]
      refine wpAnyH_take (i := 2) (oi := ⟨some 31, _, _, _, _, _⟩) (v := ?voa2_3) rfl (by kernel_rfl) (by kernel_rfl) (by kernel_rfl) (fun _ _ _ h => h) (Or.inl ⟨by rfl, ?yoa2_3⟩) hHeld ?roa2_3
      case yoa2_3 => (intro w' hSw; (try dsimp only at hSw); go_simp; try (with_reducible rfl))
      simp only [Act.put, List.setIfInBounds_toArray, List.set_cons_zero, List.set_cons_succ]
      refine wpAnyH_take (i := 3) (oi := ⟨some 32, _, _, _, _, _⟩) (v := ?voa3_4) rfl (by kernel_rfl) (by kernel_rfl) (by kernel_rfl) (fun _ _ _ h => h) (Or.inl ⟨by rfl, ?yoa3_4⟩) hHeld ?roa3_4
      case yoa3_4 => (intro w' hSw; (try dsimp only at hSw); go_simp; try (with_reducible rfl))
      simp only [Act.put, List.setIfInBounds_toArray, List.set_cons_zero, List.set_cons_succ]
      refine wpAnyH_take (i := 4) (oi := ⟨some 33, _, _, _, _, _⟩) (v := ?voa4_5) rfl (by kernel_rfl) (by kernel_rfl) (by kernel_rfl) (fun _ _ _ h => h) (Or.inl ⟨by rfl, ?yoa4_5⟩) hHeld ?roa4_5
      case yoa4_5 => (intro w' hSw; (try dsimp only at hSw); go_simp; try (with_reducible rfl))
      simp only [Act.put, List.setIfInBounds_toArray, List.set_cons_zero, List.set_cons_succ]
      refine wpAnyH_ready (rs := [5]) (by kernel_rfl) (by simp) ?_
      refine AllReadyH.cons (o := ⟨some 34, _, _, _, _, _⟩) rfl (fun K hK => ?_) AllReadyH.nil
      go_simp
      (with_reducible refine (HFND.out u0 (HB2.out.trans (hB.mono HB2.out.size))).mono ?_)
      rintro e u1 ⟨rfl, hb⟩
      (try dsimp only)
      have hB2 := hB.trans (hb.mono hB.size)
      refine hK.out _ _ (HKP.out _ hB2) (fun hNext => ?_)
      clear hK K hHeld
      have hHeld := hNext
      clear hNext
      clear hB
      have hB := hB2
      clear hB2
      clear hb
      try simp only [Act.put, List.setIfInBounds_toArray, List.set_cons_zero, List.set_cons_succ]
      refine wpAnyH_take (i := 6) (oi := ⟨some 28, _, _, _, _, _⟩) (v := ?voa6_6) rfl (by kernel_rfl) (by kernel_rfl) (by kernel_rfl) (fun _ _ _ h => h) (Or.inl ⟨by rfl, ?yoa6_6⟩) hHeld ?roa6_6
      case yoa6_6 => (intro w' hSw; (try dsimp only at hSw); go_simp; try (with_reducible rfl))
      simp only [Act.put, List.setIfInBounds_toArray, List.set_cons_zero, List.set_cons_succ]
      refine wpAnyH_take (i := 7) (oi := ⟨some 35, _, _, _, _, _⟩) (v := ?voa7_7) rfl (by kernel_rfl) (by kernel_rfl) (by kernel_rfl) (fun _ _ _ h => h) (Or.inl ⟨by rfl, ?yoa7_7⟩) hHeld ?roa7_7
      case yoa7_7 => (intro w' hSw; (try dsimp only at hSw); go_simp; try (with_reducible rfl))
      simp only [Act.put, List.setIfInBounds_toArray, List.set_cons_zero, List.set_cons_succ]
      refine wpAnyH_take (i := 8) (oi := ⟨some 36, _, _, _, _, _⟩) (v := ?voa8_8) rfl (by kernel_rfl) (by kernel_rfl) (by kernel_rfl) (fun _ _ _ h => h) (Or.inl ⟨by rfl, ?yoa8_8⟩) hHeld ?roa8_8
      case yoa8_8 => (intro w' hSw; (try dsimp only at hSw); go_simp; try (with_reducible rfl))
      simp only [Act.put, List.setIfInBounds_toArray, List.set_cons_zero, List.set_cons_succ]
      refine wpAnyH_take (i := 9) (oi := ⟨some 11, _, _, _, _, _⟩) (v := ?voa9_9) rfl (by kernel_rfl) (by kernel_rfl) (by kernel_rfl) (fun _ _ _ h => h) (Or.inl ⟨by rfl, ?yoa9_9⟩) hHeld ?roa9_9
      case yoa9_9 => (intro w' hSw; (try dsimp only at hSw); go_simp; try (with_reducible rfl))
      simp only [Act.put, List.setIfInBounds_toArray, List.set_cons_zero, List.set_cons_succ]
      refine wpAnyH_take (i := 10) (oi := ⟨some 10, _, _, _, _, _⟩) (v := ?voa10_10) rfl (by kernel_rfl) (by kernel_rfl) (by kernel_rfl) (fun _ _ _ h => h) (Or.inl ⟨by rfl, ?yoa10_10⟩) hHeld ?roa10_10
      case yoa10_10 => (intro w' hSw; (try dsimp only at hSw); go_simp; try (with_reducible rfl))
      simp only [Act.put, List.setIfInBounds_toArray, List.set_cons_zero, List.set_cons_succ]
      refine wpAnyH_done (by kernel_rfl) ?_ _
      have HB4 := Lib.hid (HB2.out.trans (hB.mono HB2.out.size))
      have K4 := Lib.hid (K2.out.on hB)
      have G4 := Lib.hid (G2.out.on hB)
      clear hHeld hB HKP HB2 K2 G2 HFND
      generalize u1 = w4 at HB4 K4 G4 ⊢
      have e0 : uv 0#64 = 0 := rfl
      rw [e0] at G4
      clear e0
      go_wp2_with fail
      (with_reducible refine (awake9_c _).mono ?_)
      rintro e w5 ⟨rfl, hb⟩
      obtain ⟨g0, g1⟩ := (G4.out.on hb).both
      have HBE := Lib.hid (HB4.out.trans (hb.mono HB4.out.size))
      clear hb G4 HB4 K4
      have hq0 := eq2_self 0 0
      go_wp2
      go_ret
      exact ⟨rfl, HBE.out⟩
    | some j =>
      have HFND : Hid (∀ u : World, Below w.heap.size w u → Calls Try.prog 9 #[.slice RA R.length Rc, .agg #[.int .u64 (uv hh), .int .u64 (uv hl)]] u fun e w' => e = .returned (.tuple #[.int .i64 (j : Int), .bool true]) ∧ Below u.heap.size u w') := fun u hu => by
        have h := rfind_c _ R hh hl u (by omega) (HRU.out.on hu)
        rw [hz] at h
        exact h
      have hjl := fnd_at hz
      have hjz : (j : Int) < (R.length : Int) := by omega
      obtain ⟨r, hr⟩ : ∃ r, R[j]? = some r := ⟨_, List.getElem?_eq_getElem hjl⟩
      obtain ⟨br, orr, rfl, -, hat⟩ := HRF.out (by rintro rfl; simp at hjl)
      have HAT := Lib.hid (hat j r hr)
      have HZ := Lib.hid hz
      have HRI := Lib.hid hr
      clear hz hr hat hjl HRF
      have HB0 := Lib.hid (below1 w (.cells #[.int .u64 (uv hh), .int .u64 (uv hl)] 25))
      have K0 : Hid (Blk (w.alloc (.cells #[.int .u64 (uv hh), .int .u64 (uv hl)] 25)) w.heap.size 25 #[.int .u64 (uv hh), .int .u64 (uv hl)]) := Blk.new w _ _
      go_enter Try.func3, Try.ntmps3
      go_upto_region 1 with (fail)
      generalize (w.alloc (.cells #[.int .u64 (uv hh), .int .u64 (uv hl)] 25)) = w1 at HB0 K0 ⊢
      obtain ⟨h0, h1⟩ := K0.out.both
      go_wp2_with fail
      (with_reducible refine (one_c (by omega) (HX.out.on HB0.out) HTR.out (oneis_yes HZ.out HRI.out)).mono ?_)
      rintro e w2 ⟨rfl, hb⟩
      have bx := below1 w2 (.cells #[.int .u64 (uv (stH r hh)), .int .u64 (uv (stL r hl))] 25)
      have G2 := Lib.hid (Blk.new w2 25 #[.int .u64 (uv (stH r hh)), .int .u64 (uv (stL r hl))])
      have hw := hb.trans (bx.mono hb.size)
      have HB2 := Lib.hid (HB0.out.trans (hw.mono HB0.out.size))
      have K2 := Lib.hid (K0.out.on hw)
      clear hb bx hw HB0 K0 h0 h1
      go_upto_region 2 with (fail)
      generalize hgen : w2.alloc (.cells #[.int .u64 (uv (stH r hh)), .int .u64 (uv (stL r hl))] 25) = w3 at G2 HB2 K2 ⊢
      clear hgen
      generalize hgen : w2.heap.size = bg at G2 ⊢
      clear hgen
      go_upto_region 4 with (fail)
      have HKP : Hid (∀ W, Below w3.heap.size w3 W → (Below w3.heap.size w3 W ∧ W.cell? ⟨b, o + t, none⟩ = some (.slice (some ⟨br, orr, none⟩) R.length Rc) ∧ W.cell? ⟨w.heap.size, 0, none⟩ = some (.int .u64 (uv hh)) ∧ W.cell? ⟨w.heap.size, 1, none⟩ = some (.int .u64 (uv hl)))) := fun W hb => ⟨hb, on_some (HB2.out.trans (hb.mono HB2.out.size)) HS.out, (K2.out.on hb).both⟩
      refine wp_region_held_drew (S := fun w' => Below w3.heap.size w3 w' ∧ w'.cell? ⟨b, o + t, none⟩ = some (.slice (some ⟨br, orr, none⟩) R.length Rc) ∧ w'.cell? ⟨w.heap.size, 0, none⟩ = some (.int .u64 (uv hh)) ∧ w'.cell? ⟨w.heap.size, 1, none⟩ = some (.int .u64 (uv hl))) (by kernel_rfl) (HKP.out _ (Below.refl _ w3).drew) (fun hHeld => ?_)
      have hB := (Below.refl w3.heap.size w3).drew
      generalize w3.drew = u0 at hHeld hB ⊢
      refine wpAnyH_take (i := 0) (oi := ⟨some 29, _, _, _, _, _⟩) (v := ?vob0_1) rfl (by kernel_rfl) (by kernel_rfl) (by kernel_rfl) (fun _ _ _ h => h) (Or.inl ⟨by rfl, ?yob0_1⟩) hHeld ?rob0_1
      case yob0_1 => (intro w' hSw; (try dsimp only at hSw); go_simp; try (with_reducible rfl))
      simp only [Act.put, List.setIfInBounds_toArray, List.set_cons_zero, List.set_cons_succ]
      refine wpAnyH_take (i := 1) (oi := ⟨some 30, _, _, _, _, _⟩) (v := ?vob1_2) rfl (by kernel_rfl) (by kernel_rfl) (by kernel_rfl) (fun _ _ _ h => h) (Or.inl ⟨by rfl, ?yob1_2⟩) hHeld ?rob1_2
      case yob1_2 => (intro w' hSw; (try dsimp only at hSw); go_simp; try (with_reducible rfl))
      simp only [Act.put, List.setIfInBounds_toArray, List.set_cons_zero, List.set_cons_succ]
      refine wpAnyH_take (i := 2) (oi := ⟨some 31, _, _, _, _, _⟩) (v := ?vob2_3) rfl (by kernel_rfl) (by kernel_rfl) (by kernel_rfl) (fun _ _ _ h => h) (Or.inl ⟨by rfl, ?yob2_3⟩) hHeld ?rob2_3
      case yob2_3 => (intro w' hSw; (try dsimp only at hSw); go_simp; try (with_reducible rfl))
      simp only [Act.put, List.setIfInBounds_toArray, List.set_cons_zero, List.set_cons_succ]
      refine wpAnyH_take (i := 3) (oi := ⟨some 32, _, _, _, _, _⟩) (v := ?vob3_4) rfl (by kernel_rfl) (by kernel_rfl) (by kernel_rfl) (fun _ _ _ h => h) (Or.inl ⟨by rfl, ?yob3_4⟩) hHeld ?rob3_4
      case yob3_4 => (intro w' hSw; (try dsimp only at hSw); go_simp; try (with_reducible rfl))
      simp only [Act.put, List.setIfInBounds_toArray, List.set_cons_zero, List.set_cons_succ]
      refine wpAnyH_take (i := 4) (oi := ⟨some 33, _, _, _, _, _⟩) (v := ?vob4_5) rfl (by kernel_rfl) (by kernel_rfl) (by kernel_rfl) (fun _ _ _ h => h) (Or.inl ⟨by rfl, ?yob4_5⟩) hHeld ?rob4_5
      case yob4_5 => (intro w' hSw; (try dsimp only at hSw); go_simp; try (with_reducible rfl))
      simp only [Act.put, List.setIfInBounds_toArray, List.set_cons_zero, List.set_cons_succ]
      refine wpAnyH_ready (rs := [5]) (by kernel_rfl) (by simp) ?_
      refine AllReadyH.cons (o := ⟨some 34, _, _, _, _, _⟩) rfl (fun K hK => ?_) AllReadyH.nil
      go_simp
      (with_reducible refine (HFND.out u0 (HB2.out.trans (hB.mono HB2.out.size))).mono ?_)
      rintro e u1 ⟨rfl, hb⟩
      (try dsimp only)
      have hB2 := hB.trans (hb.mono hB.size)
      refine hK.out _ _ (HKP.out _ hB2) (fun hNext => ?_)
      clear hK K hHeld
      have hHeld := hNext
      clear hNext
      clear hB
      have hB := hB2
      clear hB2
      clear hb
      try simp only [Act.put, List.setIfInBounds_toArray, List.set_cons_zero, List.set_cons_succ]
      refine wpAnyH_take (i := 6) (oi := ⟨some 28, _, _, _, _, _⟩) (v := ?vob6_6) rfl (by kernel_rfl) (by kernel_rfl) (by kernel_rfl) (fun _ _ _ h => h) (Or.inl ⟨by rfl, ?yob6_6⟩) hHeld ?rob6_6
      case yob6_6 => (intro w' hSw; (try dsimp only at hSw); go_simp; try (with_reducible rfl))
      simp only [Act.put, List.setIfInBounds_toArray, List.set_cons_zero, List.set_cons_succ]
      refine wpAnyH_take (i := 7) (oi := ⟨some 35, _, _, _, _, _⟩) (v := ?vob7_7) rfl (by kernel_rfl) (by kernel_rfl) (by kernel_rfl) (fun _ _ _ h => h) (Or.inl ⟨by rfl, ?yob7_7⟩) hHeld ?rob7_7
      case yob7_7 => (intro w' hSw; (try dsimp only at hSw); go_simp; try (with_reducible rfl))
      simp only [Act.put, List.setIfInBounds_toArray, List.set_cons_zero, List.set_cons_succ]
      refine wpAnyH_take (i := 8) (oi := ⟨some 36, _, _, _, _, _⟩) (v := ?vob8_8) rfl (by kernel_rfl) (by kernel_rfl) (by kernel_rfl) (fun _ _ _ h => h) (Or.inl ⟨by rfl, ?yob8_8⟩) hHeld ?rob8_8
      case yob8_8 => (intro w' hSw; (try dsimp only at hSw); go_simp; try (with_reducible rfl))
      simp only [Act.put, List.setIfInBounds_toArray, List.set_cons_zero, List.set_cons_succ]
      refine wpAnyH_take (i := 9) (oi := ⟨some 11, _, _, _, _, _⟩) (v := ?vob9_9) rfl (by kernel_rfl) (by kernel_rfl) (by kernel_rfl) (fun _ _ _ h => h) (Or.inl ⟨by rfl, ?yob9_9⟩) hHeld ?rob9_9
      case yob9_9 => (intro w' hSw; (try dsimp only at hSw); go_simp; try (with_reducible rfl))
      simp only [Act.put, List.setIfInBounds_toArray, List.set_cons_zero, List.set_cons_succ]
      refine wpAnyH_take (i := 10) (oi := ⟨some 10, _, _, _, _, _⟩) (v := ?vob10_10) rfl (by kernel_rfl) (by kernel_rfl) (by kernel_rfl) (fun _ _ _ h => h) (Or.inl ⟨by rfl, ?yob10_10⟩) hHeld ?rob10_10
      case yob10_10 => (intro w' hSw; (try dsimp only at hSw); go_simp; try (with_reducible rfl))
      simp only [Act.put, List.setIfInBounds_toArray, List.set_cons_zero, List.set_cons_succ]
      refine wpAnyH_done (by kernel_rfl) ?_ _
      have HB4 := Lib.hid (HB2.out.trans (hB.mono HB2.out.size))
      have K4 := Lib.hid (K2.out.on hB)
      have G4 := Lib.hid (G2.out.on hB)
      clear hHeld hB HKP HB2 K2 G2 HFND
      generalize u1 = w4 at HB4 K4 G4 ⊢
      go_upto_region 7 with (fail)
      have hq := eq2_self (uv (stH r hh)) (uv (stL r hl))
      have HKP : Hid (∀ W, Below w4.heap.size w4 W → (Below w4.heap.size w4 W ∧ W.cell? ⟨b, o + t, none⟩ = some (.slice (some ⟨br, orr, none⟩) R.length Rc) ∧ W.cell? ⟨w.heap.size, 0, none⟩ = some (.int .u64 (uv hh)) ∧ W.cell? ⟨w.heap.size, 1, none⟩ = some (.int .u64 (uv hl)) ∧ W.cell? ⟨bg, 0, none⟩ = some (.int .u64 (uv (stH r hh))) ∧ W.cell? ⟨bg, 1, none⟩ = some (.int .u64 (uv (stL r hl))) ∧ W.cell? ⟨br, orr + j * 12 + 8, none⟩ = some (.int .u64 (uv r.s.vh)) ∧ W.cell? ⟨br, orr + j * 12 + 9, none⟩ = some (.int .u64 (uv r.s.vl)) ∧ W.cell? ⟨br, orr + j * 12 + 10, none⟩ = some (.int .u64 (uv r.s.ch)) ∧ W.cell? ⟨br, orr + j * 12 + 11, none⟩ = some (.int .u64 (uv r.s.cl)))) := fun W hb => by
        have hw := HB4.out.trans (hb.mono HB4.out.size)
        obtain ⟨k0, k1⟩ := (K4.out.on hb).both
        obtain ⟨g0, g1⟩ := (G4.out.on hb).both
        obtain ⟨-, -, -, -, -, -, -, -, c8, c9, c10, c11⟩ := (HAT.out.on hw).out
        exact ⟨hb, on_some hw HS.out, k0, k1, g0, g1, c8, c9, c10, c11⟩
      refine wp_region_held_drew (S := fun w' => Below w4.heap.size w4 w' ∧ w'.cell? ⟨b, o + t, none⟩ = some (.slice (some ⟨br, orr, none⟩) R.length Rc) ∧ w'.cell? ⟨w.heap.size, 0, none⟩ = some (.int .u64 (uv hh)) ∧ w'.cell? ⟨w.heap.size, 1, none⟩ = some (.int .u64 (uv hl)) ∧ w'.cell? ⟨bg, 0, none⟩ = some (.int .u64 (uv (stH r hh))) ∧ w'.cell? ⟨bg, 1, none⟩ = some (.int .u64 (uv (stL r hl))) ∧ w'.cell? ⟨br, orr + j * 12 + 8, none⟩ = some (.int .u64 (uv r.s.vh)) ∧ w'.cell? ⟨br, orr + j * 12 + 9, none⟩ = some (.int .u64 (uv r.s.vl)) ∧ w'.cell? ⟨br, orr + j * 12 + 10, none⟩ = some (.int .u64 (uv r.s.ch)) ∧ w'.cell? ⟨br, orr + j * 12 + 11, none⟩ = some (.int .u64 (uv r.s.cl))) (by kernel_rfl) (HKP.out _ (Below.refl _ w4).drew) (fun hHeld => ?_)
      have hB := (Below.refl w4.heap.size w4).drew
      generalize w4.drew = u0 at hHeld hB ⊢
      refine wpAnyH_ready (rs := [0]) (by kernel_rfl) (by simp) ?_
      refine AllReadyH.cons (o := ⟨some 53, _, _, _, _, _⟩) rfl (fun K hK => ?_) AllReadyH.nil
      go_simp
      (with_reducible refine (awake9_c u0).mono ?_)
      rintro e u1 ⟨rfl, hb⟩
      (try dsimp only)
      have hB2 := hB.trans (hb.mono hB.size)
      refine hK.out _ _ (HKP.out _ hB2) (fun hNext => ?_)
      clear hK K hHeld
      have hHeld := hNext
      clear hNext
      clear hB
      have hB := hB2
      clear hB2
      clear hb
      try simp only [Act.put, List.setIfInBounds_toArray, List.set_cons_zero, List.set_cons_succ]
      refine wpAnyH_take (i := 1) (oi := ⟨some 54, _, _, _, _, _⟩) (v := ?voc1_1) rfl (by kernel_rfl) (by kernel_rfl) (by kernel_rfl) (fun _ _ _ h => h) (Or.inl ⟨by rfl, ?yoc1_1⟩) hHeld ?roc1_1
      case yoc1_1 => (intro w' hSw; (try dsimp only at hSw); go_simp; try (with_reducible rfl))
      simp only [Act.put, List.setIfInBounds_toArray, List.set_cons_zero, List.set_cons_succ]
      refine wpAnyH_take (i := 2) (oi := ⟨some 55, _, _, _, _, _⟩) (v := ?voc2_2) rfl (by kernel_rfl) (by kernel_rfl) (by kernel_rfl) (fun _ _ _ h => h) (Or.inl ⟨by rfl, ?yoc2_2⟩) hHeld ?roc2_2
      case yoc2_2 => (intro w' hSw; (try dsimp only at hSw); go_simp; try (with_reducible rfl))
      simp only [Act.put, List.setIfInBounds_toArray, List.set_cons_zero, List.set_cons_succ]
      refine wpAnyH_take (i := 3) (oi := ⟨some 56, _, _, _, _, _⟩) (v := ?voc3_3) rfl (by kernel_rfl) (by kernel_rfl) (by kernel_rfl) (fun _ _ _ h => h) (Or.inl ⟨by rfl, ?yoc3_3⟩) hHeld ?roc3_3
      case yoc3_3 => (intro w' hSw; (try dsimp only at hSw); go_simp; try (with_reducible rfl))
      simp only [Act.put, List.setIfInBounds_toArray, List.set_cons_zero, List.set_cons_succ]
      refine wpAnyH_take (i := 4) (oi := ⟨some 57, _, _, _, _, _⟩) (v := ?voc4_4) rfl (by kernel_rfl) (by kernel_rfl) (by kernel_rfl) (fun _ _ _ h => h) (Or.inl ⟨by rfl, ?yoc4_4⟩) hHeld ?roc4_4
      case yoc4_4 => (intro w' hSw; (try dsimp only at hSw); go_simp; try (with_reducible rfl))
      simp only [Act.put, List.setIfInBounds_toArray, List.set_cons_zero, List.set_cons_succ]
      refine wpAnyH_take (i := 5) (oi := ⟨some 58, _, _, _, _, _⟩) (v := ?voc5_5) rfl (by kernel_rfl) (by kernel_rfl) (by kernel_rfl) (fun _ _ _ h => h) (Or.inl ⟨by rfl, ?yoc5_5⟩) hHeld ?roc5_5
      case yoc5_5 => (intro w' hSw; (try dsimp only at hSw); go_simp; try (with_reducible rfl))
      simp only [Act.put, List.setIfInBounds_toArray, List.set_cons_zero, List.set_cons_succ]
      refine wpAnyH_take (i := 6) (oi := ⟨some 59, _, _, _, _, _⟩) (v := ?voc6_6) rfl (by kernel_rfl) (by kernel_rfl) (by kernel_rfl) (fun _ _ _ h => h) (Or.inl ⟨by rfl, ?yoc6_6⟩) hHeld ?roc6_6
      case yoc6_6 => (intro w' hSw; (try dsimp only at hSw); go_simp; try (with_reducible rfl))
      simp only [Act.put, List.setIfInBounds_toArray, List.set_cons_zero, List.set_cons_succ]
      refine wpAnyH_take (i := 7) (oi := ⟨some 60, _, _, _, _, _⟩) (v := ?voc7_7) rfl (by kernel_rfl) (by kernel_rfl) (by kernel_rfl) (fun _ _ _ h => h) (Or.inl ⟨by rfl, ?yoc7_7⟩) hHeld ?roc7_7
      case yoc7_7 => (intro w' hSw; (try dsimp only at hSw); go_simp; try (with_reducible rfl))
      simp only [Act.put, List.setIfInBounds_toArray, List.set_cons_zero, List.set_cons_succ]
      refine wpAnyH_take (i := 8) (oi := ⟨some 61, _, _, _, _, _⟩) (v := ?voc8_8) rfl (by kernel_rfl) (by kernel_rfl) (by kernel_rfl) (fun _ _ _ h => h) (Or.inl ⟨by rfl, ?yoc8_8⟩) hHeld ?roc8_8
      case yoc8_8 => (intro w' hSw; (try dsimp only at hSw); go_simp; try (with_reducible rfl))
      simp only [Act.put, List.setIfInBounds_toArray, List.set_cons_zero, List.set_cons_succ]
      refine wpAnyH_take (i := 9) (oi := ⟨some 62, _, _, _, _, _⟩) (v := ?voc9_9) rfl (by kernel_rfl) (by kernel_rfl) (by kernel_rfl) (fun _ _ _ h => h) (Or.inl ⟨by rfl, ?yoc9_9⟩) hHeld ?roc9_9
      case yoc9_9 => (intro w' hSw; (try dsimp only at hSw); go_simp; try (with_reducible rfl))
      simp only [Act.put, List.setIfInBounds_toArray, List.set_cons_zero, List.set_cons_succ]
      refine wpAnyH_take (i := 10) (oi := ⟨some 63, _, _, _, _, _⟩) (v := ?voc10_10) rfl (by kernel_rfl) (by kernel_rfl) (by kernel_rfl) (fun _ _ _ h => h) (Or.inl ⟨by rfl, ?yoc10_10⟩) hHeld ?roc10_10
      case yoc10_10 => (intro w' hSw; (try dsimp only at hSw); go_simp; try (with_reducible rfl))
      simp only [Act.put, List.setIfInBounds_toArray, List.set_cons_zero, List.set_cons_succ]
      refine wpAnyH_take (i := 11) (oi := ⟨some 64, _, _, _, _, _⟩) (v := ?voc11_11) rfl (by kernel_rfl) (by kernel_rfl) (by kernel_rfl) (fun _ _ _ h => h) (Or.inl ⟨by rfl, ?yoc11_11⟩) hHeld ?roc11_11
      case yoc11_11 => (intro w' hSw; (try dsimp only at hSw); go_simp; try (with_reducible rfl))
      simp only [Act.put, List.setIfInBounds_toArray, List.set_cons_zero, List.set_cons_succ]
      refine wpAnyH_take (i := 12) (oi := ⟨some 65, _, _, _, _, _⟩) (v := ?voc12_12) rfl (by kernel_rfl) (by kernel_rfl) (by kernel_rfl) (fun _ _ _ h => h) (Or.inl ⟨by rfl, ?yoc12_12⟩) hHeld ?roc12_12
      case yoc12_12 => (intro w' hSw; (try dsimp only at hSw); go_simp; try (with_reducible rfl))
      simp only [Act.put, List.setIfInBounds_toArray, List.set_cons_zero, List.set_cons_succ]
      refine wpAnyH_take (i := 13) (oi := ⟨some 66, _, _, _, _, _⟩) (v := ?voc13_13) rfl (by kernel_rfl) (by kernel_rfl) (by kernel_rfl) (fun _ _ _ h => h) (Or.inl ⟨by rfl, ?yoc13_13⟩) hHeld ?roc13_13
      case yoc13_13 => (intro w' hSw; (try dsimp only at hSw); go_simp; try (with_reducible rfl))
      simp only [Act.put, List.setIfInBounds_toArray, List.set_cons_zero, List.set_cons_succ]
      refine wpAnyH_take (i := 14) (oi := ⟨some 67, _, _, _, _, _⟩) (v := ?voc14_14) rfl (by kernel_rfl) (by kernel_rfl) (by kernel_rfl) (fun _ _ _ h => h) (Or.inl ⟨by rfl, ?yoc14_14⟩) hHeld ?roc14_14
      case yoc14_14 => (intro w' hSw; (try dsimp only at hSw); go_simp; try (with_reducible rfl))
      simp only [Act.put, List.setIfInBounds_toArray, List.set_cons_zero, List.set_cons_succ]
      refine wpAnyH_take (i := 15) (oi := ⟨some 68, _, _, _, _, _⟩) (v := ?voc15_15) rfl (by kernel_rfl) (by kernel_rfl) (by kernel_rfl) (fun _ _ _ h => h) (Or.inl ⟨by rfl, ?yoc15_15⟩) hHeld ?roc15_15
      case yoc15_15 => (intro w' hSw; (try dsimp only at hSw); go_simp; try (with_reducible rfl))
      simp only [Act.put, List.setIfInBounds_toArray, List.set_cons_zero, List.set_cons_succ]
      refine wpAnyH_take (i := 16) (oi := ⟨some 69, _, _, _, _, _⟩) (v := ?voc16_16) rfl (by kernel_rfl) (by kernel_rfl) (by kernel_rfl) (fun _ _ _ h => h) (Or.inl ⟨by rfl, ?yoc16_16⟩) hHeld ?roc16_16
      case yoc16_16 => (intro w' hSw; (try dsimp only at hSw); go_simp; try (with_reducible rfl))
      simp only [Act.put, List.setIfInBounds_toArray, List.set_cons_zero, List.set_cons_succ]
      refine wpAnyH_take (i := 17) (oi := ⟨some 70, _, _, _, _, _⟩) (v := ?voc17_17) rfl (by kernel_rfl) (by kernel_rfl) (by kernel_rfl) (fun _ _ _ h => h) (Or.inl ⟨by rfl, ?yoc17_17⟩) hHeld ?roc17_17
      case yoc17_17 => (intro w' hSw; (try dsimp only at hSw); go_simp; try (with_reducible rfl))
      simp only [Act.put, List.setIfInBounds_toArray, List.set_cons_zero, List.set_cons_succ]
      refine wpAnyH_take (i := 18) (oi := ⟨some 71, _, _, _, _, _⟩) (v := ?voc18_18) rfl (by kernel_rfl) (by kernel_rfl) (by kernel_rfl) (fun _ _ _ h => h) (Or.inl ⟨by rfl, ?yoc18_18⟩) hHeld ?roc18_18
      case yoc18_18 => (intro w' hSw; (try dsimp only at hSw); go_simp; try (with_reducible rfl))
      simp only [Act.put, List.setIfInBounds_toArray, List.set_cons_zero, List.set_cons_succ]
      refine wpAnyH_take (i := 19) (oi := ⟨some 72, _, _, _, _, _⟩) (v := ?voc19_19) rfl (by kernel_rfl) (by kernel_rfl) (by kernel_rfl) (fun _ _ _ h => h) (Or.inl ⟨by rfl, ?yoc19_19⟩) hHeld ?roc19_19
      case yoc19_19 => (intro w' hSw; (try dsimp only at hSw); go_simp; try (with_reducible rfl))
      simp only [Act.put, List.setIfInBounds_toArray, List.set_cons_zero, List.set_cons_succ]
      refine wpAnyH_take (i := 20) (oi := ⟨some 73, _, _, _, _, _⟩) (v := ?voc20_20) rfl (by kernel_rfl) (by kernel_rfl) (by kernel_rfl) (fun _ _ _ h => h) (Or.inl ⟨by rfl, ?yoc20_20⟩) hHeld ?roc20_20
      case yoc20_20 => (intro w' hSw; (try dsimp only at hSw); go_simp; try (with_reducible rfl))
      simp only [Act.put, List.setIfInBounds_toArray, List.set_cons_zero, List.set_cons_succ]
      refine wpAnyH_ready (rs := [21]) (by kernel_rfl) (by simp) ?_
      refine AllReadyH.cons (o := ⟨some 74, _, _, _, _, _⟩) rfl (fun K hK => ?_) AllReadyH.nil
      go_simp
      (with_reducible refine (rset_st r hh hl u1).mono ?_)
      rintro e u2 ⟨rfl, hb⟩
      (try dsimp only)
      have hB2 := hB.trans (hb.mono hB.size)
      refine hK.out _ _ (HKP.out _ hB2) (fun hNext => ?_)
      clear hK K hHeld
      have hHeld := hNext
      clear hNext
      clear hB
      have hB := hB2
      clear hB2
      clear hb
      try simp only [Act.put, List.setIfInBounds_toArray, List.set_cons_zero, List.set_cons_succ]
      refine wpAnyH_take (i := 22) (oi := ⟨some 75, _, _, _, _, _⟩) (v := ?voc22_21) rfl (by kernel_rfl) (by kernel_rfl) (by kernel_rfl) (fun _ _ _ h => h) (Or.inl ⟨by rfl, ?yoc22_21⟩) hHeld ?roc22_21
      case yoc22_21 => (intro w' hSw; (try dsimp only at hSw); go_simp; try (with_reducible rfl))
      simp only [Act.put, List.setIfInBounds_toArray, List.set_cons_zero, List.set_cons_succ]
      refine wpAnyH_take (i := 23) (oi := ⟨some 76, _, _, _, _, _⟩) (v := ?voc23_22) rfl (by kernel_rfl) (by kernel_rfl) (by kernel_rfl) (fun _ _ _ h => h) (Or.inl ⟨by rfl, ?yoc23_22⟩) hHeld ?roc23_22
      case yoc23_22 => (intro w' hSw; (try dsimp only at hSw); go_simp; try (with_reducible rfl))
      simp only [Act.put, List.setIfInBounds_toArray, List.set_cons_zero, List.set_cons_succ]
      refine wpAnyH_take (i := 24) (oi := ⟨some 6, _, _, _, _, _⟩) (v := ?voc24_23) rfl (by kernel_rfl) (by kernel_rfl) (by kernel_rfl) (fun _ _ _ h => h) (Or.inl ⟨by rfl, ?yoc24_23⟩) hHeld ?roc24_23
      case yoc24_23 => (intro w' hSw; (try dsimp only at hSw); go_simp; try (with_reducible rfl))
      simp only [Act.put, List.setIfInBounds_toArray, List.set_cons_zero, List.set_cons_succ]
      refine wpAnyH_done (by kernel_rfl) ?_ _
      have HBE := Lib.hid (HB4.out.trans (hB.mono HB4.out.size))
      clear hHeld hB HKP HB4 K4 G4
      go_wp2
      go_ret
      exact ⟨rfl, HBE.out⟩
  · have HIN := Lib.hid hin
    obtain ⟨A, cap, rfl, -, -, -⟩ := HX.out
    have HB0 := Lib.hid (below1 w (.cells #[.int .u64 (uv hh), .int .u64 (uv hl)] 25))
    have K0 : Hid (Blk (w.alloc (.cells #[.int .u64 (uv hh), .int .u64 (uv hl)] 25)) w.heap.size 25 #[.int .u64 (uv hh), .int .u64 (uv hl)]) := Blk.new w _ _
    go_enter Try.func3, Try.ntmps3
    go_upto_region 1 with (fail)
    generalize (w.alloc (.cells #[.int .u64 (uv hh), .int .u64 (uv hl)] 25)) = w1 at HB0 K0 ⊢
    obtain ⟨h0, h1⟩ := K0.out.both
    go_wp2_with fail
    (with_reducible refine (one_out (HX.out.on HB0.out) HIN.out).mono ?_)
    rintro e w2 ⟨rfl, hb⟩
    have bx := below1 w2 (.cells #[.int .u64 0, .int .u64 0] 25)
    have G2 := Lib.hid (Blk.new w2 25 #[.int .u64 0, .int .u64 0])
    have hw := hb.trans (bx.mono hb.size)
    have HB2 := Lib.hid (HB0.out.trans (hw.mono HB0.out.size))
    have K2 := Lib.hid (K0.out.on hw)
    clear hb bx hw HB0 K0 h0 h1
    go_upto_region 2 with (fail)
    generalize hgen : w2.alloc (.cells #[.int .u64 0, .int .u64 0] 25) = w3 at G2 HB2 K2 ⊢
    clear hgen
    generalize hgen : w2.heap.size = bg at G2 ⊢
    clear hgen
    by_cases h1 : n < 0
    · have hge : ¬ 0 ≤ n := by omega
      clear hin
      go_wp2_with fail
      (with_reducible refine (awake9_c _).mono ?_)
      rintro e w5 ⟨rfl, hb⟩
      obtain ⟨g0, g1⟩ := (G2.out.on hb).both
      have HBE := Lib.hid (HB2.out.trans (hb.mono HB2.out.size))
      clear hb G2 HB2 K2
      have hq0 := eq2_self 0 0
      go_wp2
      go_ret
      exact ⟨rfl, HBE.out⟩
    · have hge : 0 ≤ n := by omega
      have hlt : ¬ n < (X.length : Int) := by omega
      clear hin
      go_wp2_with fail
      (with_reducible refine (awake9_c _).mono ?_)
      rintro e w5 ⟨rfl, hb⟩
      obtain ⟨g0, g1⟩ := (G2.out.on hb).both
      have HBE := Lib.hid (HB2.out.trans (hb.mono HB2.out.size))
      clear hb G2 HB2 K2
      have hq0 := eq2_self 0 0
      go_wp2
      go_ret
      exact ⟨rfl, HBE.out⟩
end Go.Proofs

namespace Go.Proofs.Ytgoenjpllepdjaa
open Go.ChangeShapes Go.WideShapes Go.ChangeAt Go.RowKit Go.Joins Go.Proofs.Hd

theorem laidOut_wones : laidOutB Try.prog = true := by kernel_rfl
set_option maxRecDepth 100000 in
theorem wones_lifted (os : Os) (started : os.Started) (H : Type) (enc : TypeId × Value → H) :
    ReturnsInHanded {} Try.checked os 3 .any (Rows.walkOnesSpec.pre6 enc Try.prog Try.f3 Rows.walkOnesRow.domain false) (Rows.walkOnesSpec.post enc Try.prog Try.f3 false true false false) := by
  refine returnsInHanded_of_change_sized (C := Try.checked) own started (by kernel_rfl) Try.func3
    (ChangeSpec.witness6 (enc := enc) (C := Try.checked) false ⟨#[], #[.slice none 0 0, .int .i64 0, .agg #[.int .u64 0, .int .u64 0]], []⟩ 8 (by kernel_rfl) (by kernel_rfl) (by kernel_rfl) (by kernel_rfl)) ?_
  intro W base args ds gs before hval0 hW hcnd hsz _
  have hval : ∀ (j : Nat) t v, Try.f3.params[j]? = some t → args[j]? = some v → Value.okWide Try.prog W .any base t v := hval0
  have hW' := hW
  obtain ⟨p, q, hA0, hV, rfl, hfz, hnd⟩ := hW
  have hA : DataW.TrodAll enc Try.prog W 0 (fun _ => true) true Try.f3.params.toList args.toList ds p := hA0
  rw [Try.params3] at hA hval
  obtain ⟨v0, vs0, d0, ds0, p0, q0, hargs, rfl, rfl, h0, r0⟩ := trodAll_cons hA
  obtain ⟨v1, vs1, d1, ds1, p1, q1, rfl, rfl, rfl, h1, r1⟩ := trodAll_cons r0
  obtain ⟨v2, vs2, d2, ds2, p2, q2, rfl, rfl, rfl, h2, r2⟩ := trodAll_cons r1
  obtain ⟨rfl, rfl, rfl⟩ := trodAll_nil r2
  obtain rfl : args = #[v0, v1, v2] := by cases args; simp_all
  obtain ⟨rfl, rfl⟩ := trodVars_none hV
  have k0 := h0
  have lt0 : ∀ x ∈ p0, x.block < W.heap.size := by obtain ⟨m, hm⟩ := k0; exact DataW.trod_lt m _ _ _ hm
  obtain ⟨lT, pl, lz⟩ := open_tabz (hval 0 22 v0 rfl rfl) h0
  have ls := lz fun m hm => by simpa using List.all_eq_true.1 hsz m (DataW.weights_mem_each (j := 0) (t := 22) (by rw [Try.params3]; rfl) rfl m hm)
  obtain ⟨n, rfl, rfl, rfl, wf1⟩ := open_int Try.underlying3 (hval 1 3 v1 rfl rfl) h1
  obtain ⟨hh, hl, rfl, rfl, rfl, s2⟩ := open_head (hval 2 25 v2 rfl rfl) h2
  clear hA0 hval0
  obtain ⟨bn1, bn2⟩ := bounds_i64 wf1
  refine (wones_c _ lT n hh hl W pl (fun R hR => ls.2 R hR)).mono fun e W' ⟨he, hg⟩ => ?_
  subst he
  exact ⟨_, rfl, _, _, _, [], _, [], hW', trodAll_mk1 (shut_bool Try.underlying4 _), (trodAll_cons_mk (Below.trod laidOut_wones (by kernel_rfl) (of_decide_eq_true (by kernel_rfl)) k0 hg lt0) (trodAll_cons_mk (shut_int Try.underlying3 wf1) (trodAll_cons_mk (s2 _ _) trodAll_mk0))), rfl, hg.frame _, (fun h => by cases h)⟩

theorem wones_holds : Rows.WalkOnesSaid :=
  OpenClaim.holds_of_wide 3 Try.f3 rfl rfl rfl rfl rfl rfl rfl ⟨rfl, rfl, rfl, rfl, rfl⟩ rfl rfl rfl rfl rfl (by kernel_rfl) Try.func3 (by kernel_rfl)
    (of_decide_eq_true (by kernel_rfl)) (by unfold Func.isWrapper; first | (rw [if_pos (by decide +kernel)]; kernel_rfl) | (rw [if_neg (by decide +kernel)]; exact ⟨rfl, rfl⟩))
    (fun os started H enc _ => wones_lifted os started H enc)
#print axioms wones_holds
end Go.Proofs.Ytgoenjpllepdjaa
