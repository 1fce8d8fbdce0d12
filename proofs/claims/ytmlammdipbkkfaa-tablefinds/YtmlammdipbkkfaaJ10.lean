/-
  Contracts of the reference's Find, Without and Seen of layer 6. Conditions as each theorem lists them.
  Contracts of the reference's Without and Seen of layer 6. Conditions as each theorem lists them.
  Contracts of customhouselaw06.few, same and awake. Conditions as each theorem lists them.
-/
import Derived.Test.YtmlammdipbkkfaaJ9
import Derived.OrdersHeld
namespace Go.Proofs.Hd
open Go.RowKit
/-- A found place as the reference's loop holds it. -/
def fr : Option Nat → Int | some b => (b : Int) | none => -1
theorem leI_of_gt {L : List Rl} {i b : Nat} (h : L[b]!.pri < L[i]!.pri) : leI L i b = true := by unfold leI; rw [decide_eq_true_eq]; omega
theorem leI_of_ge {L : List Rl} {i b : Nat} (hb : b < i) (h : ¬ L[b]!.pri < L[i]!.pri) : leI L b i = true := by unfold leI; rw [decide_eq_true_eq]; omega
end Go.Proofs.Hd
namespace Go.Proofs
open Go.RowKit Go.Proofs.Hd Go.Sort Go.Shelf Go.Lib
attribute [local go_sem] uv_nonneg
set_option maxHeartbeats 8000000 in
set_option maxRecDepth 100000 in
theorem rfind_c (v : Value) (L : List Rl) (hh hl : BitVec 64) (w : World) (hn : L.length ≤ 4611686018427387904) (hv : Ru w v L) :
    Calls Try.prog 10 #[v, .agg #[.int .u64 (uv hh), .int .u64 (uv hl)]] w fun e w' => e = .returned (.tuple #[.int .i64 (fz (fndI L hh hl)), .bool (fndI L hh hl).isSome]) ∧ Below w.heap.size w w' := by
  obtain ⟨A, cap, rfl, hA⟩ := hv.form
  have hlz : (L.length : Int) ≤ 4611686018427387904 := by omega
  have HA := Lib.hid hA
  have B0 := below1 w (.cells #[.int .u64 (uv hh), .int .u64 (uv hl)] 25)
  have X0 : Blk (w.alloc (.cells #[.int .u64 (uv hh), .int .u64 (uv hl)] 25)) w.heap.size 25 #[.int .u64 (uv hh), .int .u64 (uv hl)] := Blk.new w _ _
  have HB := Lib.hid B0
  have HX := Lib.hid X0
  clear hv hA B0 X0
  go_enter Try.func10, Try.ntmps10
  go_wp2
  go_loopg [6, 7, 8, 9] L.length (fun gk s6 s7 _ _ wr => ∃ (k : Nat) (z : Option Nat), k ≤ L.length ∧ gk = L.length - k ∧ s7 = .int .i64 k ∧ s6 = .int .i64 (fr z) ∧ Hid (FstIs L hh hl k z) ∧ Hid (Below w.heap.size w wr) ∧ Hid (Blk wr w.heap.size 25 #[.int .u64 (uv hh), .int .u64 (uv hl)]))
  case atStart => exact ⟨0, none, Nat.zero_le _, rfl, rfl, rfl, FstIs.zero L hh hl, HB, HX⟩
  case round =>
    clear HB HX
    obtain ⟨k, z, hk, rfl, rfl, rfl, HF, HB, HX⟩ := hrel
    by_cases hlt : k < L.length
    · have hltz : (k : Int) < (L.length : Int) := by omega
      obtain ⟨r, hr⟩ : ∃ r, L[k]? = some r := ⟨_, List.getElem?_eq_getElem hlt⟩
      obtain ⟨b, off, rfl, hb0, hpc⟩ := HA.out (by intro h; rw [h] at hlt; simp at hlt)
      obtain ⟨c0, c1, c2, c3, c4, c5, c6, c7, c8, c9, c10, c11⟩ := ((hpc k r hr).on HB.out).out
      have HR := Lib.hid hr
      have HPC := Lib.hid hpc
      have HI := Lib.hid (hasI_at hr hh hl)
      clear hr hpc
      cases hs : r.m.snd with
      | false =>
        have hq := has_none hh hl hs
        go_wp2_with fail
        (with_reducible refine (text_no r.m _ hs).mono ?_)
        rintro e w2 ⟨rfl, hb2⟩
        have HB2 := Lib.hid (HB.out.trans (hb2.mono HB.out.size))
        have HX2 := Lib.hid (HX.out.on hb2)
        clear HB HX hb2 c0 c1 c2 c3 c4 c5 c6 c7 c8 c9 c10 c11
        have KP : ∀ W, Below w2.heap.size w2 W → (Below w2.heap.size w2 W ∧ W.cell? ⟨w.heap.size, 0, none⟩ = some (.int .u64 (uv hh)) ∧ W.cell? ⟨w.heap.size, 1, none⟩ = some (.int .u64 (uv hl)) ∧ W.cell? ⟨b, off + k * 12, none⟩ = some (.int .i64 r.pri)) := fun W hb => ⟨hb, (HX2.out.on hb).cell 0, (HX2.out.on hb).cell 1, (((HPC.out k r HR.out).on HB2.out).on hb).out.1⟩
        have HKP := Lib.hid KP
        clear KP
        go_upto_region 6 with (fail)
        refine wp_region_held_drew (S := fun w' => Below w2.heap.size w2 w' ∧ w'.cell? ⟨w.heap.size, 0, none⟩ = some (.int .u64 (uv hh)) ∧ w'.cell? ⟨w.heap.size, 1, none⟩ = some (.int .u64 (uv hl)) ∧ w'.cell? ⟨b, off + k * 12, none⟩ = some (.int .i64 r.pri)) (by kernel_rfl) (HKP.out _ (Below.refl _ w2).drew) (fun hHeld => ?_)
        refine wpAnyH_take (i := 0) (oi := ⟨some 25, _, _, _, _, _⟩) (v := ?va0) rfl (by kernel_rfl) (by kernel_rfl) (by kernel_rfl) (fun _ _ _ h => h) (Or.inl ⟨by rfl, ?ya0⟩) hHeld ?ra0
        case ya0 => (intro w' hSw; (try dsimp only at hSw); go_simp; try (with_reducible rfl))
        simp only [Act.put, List.setIfInBounds_toArray, List.set_cons_zero, List.set_cons_succ]
        refine wpAnyH_take (i := 1) (oi := ⟨some 26, _, _, _, _, _⟩) (v := ?va1) rfl (by kernel_rfl) (by kernel_rfl) (by kernel_rfl) (fun _ _ _ h => h) (Or.inl ⟨by rfl, ?ya1⟩) hHeld ?ra1
        case ya1 => (intro w' hSw; (try dsimp only at hSw); go_simp; try (with_reducible rfl))
        simp only [Act.put, List.setIfInBounds_toArray, List.set_cons_zero, List.set_cons_succ]
        refine wpAnyH_take (i := 2) (oi := ⟨some 27, _, _, _, _, _⟩) (v := undef) rfl (by kernel_rfl) (by kernel_rfl) (by kernel_rfl) (fun _ _ _ h => h) (Or.inr ⟨by rfl, rfl⟩) hHeld ?_
        simp only [Act.put, List.setIfInBounds_toArray, List.set_cons_zero, List.set_cons_succ]
        refine wpAnyH_take (i := 3) (oi := ⟨some 28, _, _, _, _, _⟩) (v := undef) rfl (by kernel_rfl) (by kernel_rfl) (by kernel_rfl) (fun _ _ _ h => h) (Or.inr ⟨by rfl, rfl⟩) hHeld ?_
        simp only [Act.put, List.setIfInBounds_toArray, List.set_cons_zero, List.set_cons_succ]
        refine wpAnyH_ready (rs := [4]) (by kernel_rfl) (by simp) ?_
        refine AllReadyH.cons (o := ⟨some 29, _, _, _, _, _⟩) rfl (fun K hK => ?_) AllReadyH.nil
        go_simp
        refine hK.out _ _ hHeld (fun hNext => ?_)
        clear hK K hHeld
        have hHeld := hNext
        clear hNext
        try simp only [Act.put, List.setIfInBounds_toArray, List.set_cons_zero, List.set_cons_succ]
        refine wpAnyH_take (i := 5) (oi := ⟨some 30, _, _, _, _, _⟩) (v := ?va5) rfl (by kernel_rfl) (by kernel_rfl) (by kernel_rfl) (fun _ _ _ h => h) (Or.inl ⟨by rfl, ?ya5⟩) hHeld ?ra5
        case ya5 => (intro w' hSw; (try dsimp only at hSw); go_simp; try (with_reducible rfl))
        simp only [Act.put, List.setIfInBounds_toArray, List.set_cons_zero, List.set_cons_succ]
        refine wpAnyH_take (i := 6) (oi := ⟨some 31, _, _, _, _, _⟩) (v := ?va6) rfl (by kernel_rfl) (by kernel_rfl) (by kernel_rfl) (fun _ _ _ h => h) (Or.inl ⟨by rfl, ?ya6⟩) hHeld ?ra6
        case ya6 => (intro w' hSw; (try dsimp only at hSw); go_simp; try (with_reducible rfl))
        simp only [Act.put, List.setIfInBounds_toArray, List.set_cons_zero, List.set_cons_succ]
        refine wpAnyH_take (i := 7) (oi := ⟨some 32, _, _, _, _, _⟩) (v := undef) rfl (by kernel_rfl) (by kernel_rfl) (by kernel_rfl) (fun _ _ _ h => h) (Or.inr ⟨by rfl, rfl⟩) hHeld ?_
        simp only [Act.put, List.setIfInBounds_toArray, List.set_cons_zero, List.set_cons_succ]
        refine wpAnyH_take (i := 8) (oi := ⟨some 33, _, _, _, _, _⟩) (v := undef) rfl (by kernel_rfl) (by kernel_rfl) (by kernel_rfl) (fun _ _ _ h => h) (Or.inr ⟨by rfl, rfl⟩) hHeld ?_
        simp only [Act.put, List.setIfInBounds_toArray, List.set_cons_zero, List.set_cons_succ]
        refine wpAnyH_take (i := 9) (oi := ⟨some 34, _, _, _, _, _⟩) (v := undef) rfl (by kernel_rfl) (by kernel_rfl) (by kernel_rfl) (fun _ _ _ h => h) (Or.inr ⟨by rfl, rfl⟩) hHeld ?_
        simp only [Act.put, List.setIfInBounds_toArray, List.set_cons_zero, List.set_cons_succ]
        refine wpAnyH_take (i := 10) (oi := ⟨some 35, _, _, _, _, _⟩) (v := undef) rfl (by kernel_rfl) (by kernel_rfl) (by kernel_rfl) (fun _ _ _ h => h) (Or.inr ⟨by rfl, rfl⟩) hHeld ?_
        simp only [Act.put, List.setIfInBounds_toArray, List.set_cons_zero, List.set_cons_succ]
        refine wpAnyH_take (i := 11) (oi := ⟨some 36, _, _, _, _, _⟩) (v := undef) rfl (by kernel_rfl) (by kernel_rfl) (by kernel_rfl) (fun _ _ _ h => h) (Or.inr ⟨by rfl, rfl⟩) hHeld ?_
        simp only [Act.put, List.setIfInBounds_toArray, List.set_cons_zero, List.set_cons_succ]
        refine wpAnyH_take (i := 12) (oi := ⟨some 37, _, _, _, _, _⟩) (v := undef) rfl (by kernel_rfl) (by kernel_rfl) (by kernel_rfl) (fun _ _ _ h => h) (Or.inr ⟨by rfl, rfl⟩) hHeld ?_
        simp only [Act.put, List.setIfInBounds_toArray, List.set_cons_zero, List.set_cons_succ]
        refine wpAnyH_take (i := 13) (oi := ⟨some 38, _, _, _, _, _⟩) (v := undef) rfl (by kernel_rfl) (by kernel_rfl) (by kernel_rfl) (fun _ _ _ h => h) (Or.inr ⟨by rfl, rfl⟩) hHeld ?_
        simp only [Act.put, List.setIfInBounds_toArray, List.set_cons_zero, List.set_cons_succ]
        refine wpAnyH_take (i := 14) (oi := ⟨some 39, _, _, _, _, _⟩) (v := undef) rfl (by kernel_rfl) (by kernel_rfl) (by kernel_rfl) (fun _ _ _ h => h) (Or.inr ⟨by rfl, rfl⟩) hHeld ?_
        simp only [Act.put, List.setIfInBounds_toArray, List.set_cons_zero, List.set_cons_succ]
        refine wpAnyH_take (i := 15) (oi := ⟨some 40, _, _, _, _, _⟩) (v := undef) rfl (by kernel_rfl) (by kernel_rfl) (by kernel_rfl) (fun _ _ _ h => h) (Or.inr ⟨by rfl, rfl⟩) hHeld ?_
        simp only [Act.put, List.setIfInBounds_toArray, List.set_cons_zero, List.set_cons_succ]
        refine wpAnyH_take (i := 16) (oi := ⟨some 41, _, _, _, _, _⟩) (v := undef) rfl (by kernel_rfl) (by kernel_rfl) (by kernel_rfl) (fun _ _ _ h => h) (Or.inr ⟨by rfl, rfl⟩) hHeld ?_
        simp only [Act.put, List.setIfInBounds_toArray, List.set_cons_zero, List.set_cons_succ]
        refine wpAnyH_take (i := 17) (oi := ⟨some 42, _, _, _, _, _⟩) (v := undef) rfl (by kernel_rfl) (by kernel_rfl) (by kernel_rfl) (fun _ _ _ h => h) (Or.inr ⟨by rfl, rfl⟩) hHeld ?_
        simp only [Act.put, List.setIfInBounds_toArray, List.set_cons_zero, List.set_cons_succ]
        refine wpAnyH_take (i := 18) (oi := ⟨some 43, _, _, _, _, _⟩) (v := undef) rfl (by kernel_rfl) (by kernel_rfl) (by kernel_rfl) (fun _ _ _ h => h) (Or.inr ⟨by rfl, rfl⟩) hHeld ?_
        simp only [Act.put, List.setIfInBounds_toArray, List.set_cons_zero, List.set_cons_succ]
        refine wpAnyH_take (i := 19) (oi := ⟨some 44, _, _, _, _, _⟩) (v := undef) rfl (by kernel_rfl) (by kernel_rfl) (by kernel_rfl) (fun _ _ _ h => h) (Or.inr ⟨by rfl, rfl⟩) hHeld ?_
        simp only [Act.put, List.setIfInBounds_toArray, List.set_cons_zero, List.set_cons_succ]
        refine wpAnyH_take (i := 20) (oi := ⟨some 45, _, _, _, _, _⟩) (v := undef) rfl (by kernel_rfl) (by kernel_rfl) (by kernel_rfl) (fun _ _ _ h => h) (Or.inr ⟨by rfl, rfl⟩) hHeld ?_
        simp only [Act.put, List.setIfInBounds_toArray, List.set_cons_zero, List.set_cons_succ]
        refine wpAnyH_take (i := 21) (oi := ⟨some 46, _, _, _, _, _⟩) (v := undef) rfl (by kernel_rfl) (by kernel_rfl) (by kernel_rfl) (fun _ _ _ h => h) (Or.inr ⟨by rfl, rfl⟩) hHeld ?_
        simp only [Act.put, List.setIfInBounds_toArray, List.set_cons_zero, List.set_cons_succ]
        refine wpAnyH_take (i := 22) (oi := ⟨some 47, _, _, _, _, _⟩) (v := ?va22) rfl (by kernel_rfl) (by kernel_rfl) (by kernel_rfl) (fun _ _ _ h => h) (Or.inl ⟨by rfl, ?ya22⟩) hHeld ?ra22
        case ya22 => (intro w' hSw; (try dsimp only at hSw); go_simp; try (with_reducible rfl))
        simp only [Act.put, List.setIfInBounds_toArray, List.set_cons_zero, List.set_cons_succ]
        refine wpAnyH_done (by kernel_rfl) ?_ _
        have HB3 := Lib.hid (HB2.out.trans (hHeld.1.mono HB2.out.size))
        have HX3 := Lib.hid (HX2.out.on hHeld.1)
        clear hHeld HKP HB2 HX2
        go_wp2
        go_roundg (L.length - (k + 1))
        case measure => omega
        case rel => exact ⟨k + 1, z, by omega, rfl, by go_num, rfl, HF.out.no (by rw [HI.out, hq]), HB3, HX3⟩
      | true =>
        obtain ⟨s, HT⟩ : ∃ s, Hid (txt r.m = s) := ⟨_, rfl⟩
        cases hq : r.m.has hh hl with
        | false =>
          go_wp2_with fail
          (with_reducible refine (text_s s r.m _ hs HT.out).mono ?_)
          rintro e w2 ⟨rfl, hb2⟩
          have HB2 := Lib.hid (HB.out.trans (hb2.mono HB.out.size))
          have HX2 := Lib.hid (HX.out.on hb2)
          clear HB HX hb2 c0 c1 c2 c3 c4 c5 c6 c7 c8 c9 c10 c11
          have KP : ∀ W, Below w2.heap.size w2 W → (Below w2.heap.size w2 W ∧ W.cell? ⟨w.heap.size, 0, none⟩ = some (.int .u64 (uv hh)) ∧ W.cell? ⟨w.heap.size, 1, none⟩ = some (.int .u64 (uv hl)) ∧ W.cell? ⟨b, off + k * 12, none⟩ = some (.int .i64 r.pri)) := fun W hb => ⟨hb, (HX2.out.on hb).cell 0, (HX2.out.on hb).cell 1, (((HPC.out k r HR.out).on HB2.out).on hb).out.1⟩
          have HKP := Lib.hid KP
          clear KP
          go_upto_region 6 with (fail)
          refine wp_region_held_drew (S := fun w' => Below w2.heap.size w2 w' ∧ w'.cell? ⟨w.heap.size, 0, none⟩ = some (.int .u64 (uv hh)) ∧ w'.cell? ⟨w.heap.size, 1, none⟩ = some (.int .u64 (uv hl)) ∧ w'.cell? ⟨b, off + k * 12, none⟩ = some (.int .i64 r.pri)) (by kernel_rfl) (HKP.out _ (Below.refl _ w2).drew) (fun hHeld => ?_)
          refine wpAnyH_take (i := 0) (oi := ⟨some 25, _, _, _, _, _⟩) (v := ?vb0) rfl (by kernel_rfl) (by kernel_rfl) (by kernel_rfl) (fun _ _ _ h => h) (Or.inl ⟨by rfl, ?yb0⟩) hHeld ?rb0
          case yb0 => (intro w' hSw; (try dsimp only at hSw); go_simp; try (with_reducible rfl))
          simp only [Act.put, List.setIfInBounds_toArray, List.set_cons_zero, List.set_cons_succ]
          refine wpAnyH_take (i := 1) (oi := ⟨some 26, _, _, _, _, _⟩) (v := ?vb1) rfl (by kernel_rfl) (by kernel_rfl) (by kernel_rfl) (fun _ _ _ h => h) (Or.inl ⟨by rfl, ?yb1⟩) hHeld ?rb1
          case yb1 => (intro w' hSw; (try dsimp only at hSw); go_simp; try (with_reducible rfl))
          simp only [Act.put, List.setIfInBounds_toArray, List.set_cons_zero, List.set_cons_succ]
          refine wpAnyH_take (i := 2) (oi := ⟨some 27, _, _, _, _, _⟩) (v := ?vb2) rfl (by kernel_rfl) (by kernel_rfl) (by kernel_rfl) (fun _ _ _ h => h) (Or.inl ⟨by rfl, ?yb2⟩) hHeld ?rb2
          case yb2 => (intro w' hSw; (try dsimp only at hSw); go_simp; try (with_reducible rfl))
          simp only [Act.put, List.setIfInBounds_toArray, List.set_cons_zero, List.set_cons_succ]
          refine wpAnyH_take (i := 3) (oi := ⟨some 28, _, _, _, _, _⟩) (v := ?vb3) rfl (by kernel_rfl) (by kernel_rfl) (by kernel_rfl) (fun _ _ _ h => h) (Or.inl ⟨by rfl, ?yb3⟩) hHeld ?rb3
          case yb3 => (intro w' hSw; (try dsimp only at hSw); go_simp; try (with_reducible rfl))
          simp only [Act.put, List.setIfInBounds_toArray, List.set_cons_zero, List.set_cons_succ]
          refine wpAnyH_ready (rs := [4]) (by kernel_rfl) (by simp) ?_
          refine AllReadyH.cons (o := ⟨some 29, _, _, _, _, _⟩) rfl (fun K hK => ?_) AllReadyH.nil
          go_simp
          (with_reducible refine (rhas_is false s r.m hh hl _ hs HT.out hq).mono ?_)
          rintro e w5 ⟨rfl, hb⟩
          (try dsimp only)
          refine hK.out _ _ (HKP.out _ (hHeld.1.trans (hb.mono hHeld.1.size))) (fun hNext => ?_)
          clear hK K hHeld
          have hHeld := hNext
          clear hNext
          try simp only [Act.put, List.setIfInBounds_toArray, List.set_cons_zero, List.set_cons_succ]
          refine wpAnyH_take (i := 5) (oi := ⟨some 30, _, _, _, _, _⟩) (v := ?vb5) rfl (by kernel_rfl) (by kernel_rfl) (by kernel_rfl) (fun _ _ _ h => h) (Or.inl ⟨by rfl, ?yb5⟩) hHeld ?rb5
          case yb5 => (intro w' hSw; (try dsimp only at hSw); go_simp; try (with_reducible rfl))
          simp only [Act.put, List.setIfInBounds_toArray, List.set_cons_zero, List.set_cons_succ]
          refine wpAnyH_take (i := 6) (oi := ⟨some 31, _, _, _, _, _⟩) (v := ?vb6) rfl (by kernel_rfl) (by kernel_rfl) (by kernel_rfl) (fun _ _ _ h => h) (Or.inl ⟨by rfl, ?yb6⟩) hHeld ?rb6
          case yb6 => (intro w' hSw; (try dsimp only at hSw); go_simp; try (with_reducible rfl))
          simp only [Act.put, List.setIfInBounds_toArray, List.set_cons_zero, List.set_cons_succ]
          refine wpAnyH_take (i := 7) (oi := ⟨some 32, _, _, _, _, _⟩) (v := undef) rfl (by kernel_rfl) (by kernel_rfl) (by kernel_rfl) (fun _ _ _ h => h) (Or.inr ⟨by rfl, rfl⟩) hHeld ?_
          simp only [Act.put, List.setIfInBounds_toArray, List.set_cons_zero, List.set_cons_succ]
          refine wpAnyH_take (i := 8) (oi := ⟨some 33, _, _, _, _, _⟩) (v := undef) rfl (by kernel_rfl) (by kernel_rfl) (by kernel_rfl) (fun _ _ _ h => h) (Or.inr ⟨by rfl, rfl⟩) hHeld ?_
          simp only [Act.put, List.setIfInBounds_toArray, List.set_cons_zero, List.set_cons_succ]
          refine wpAnyH_take (i := 9) (oi := ⟨some 34, _, _, _, _, _⟩) (v := undef) rfl (by kernel_rfl) (by kernel_rfl) (by kernel_rfl) (fun _ _ _ h => h) (Or.inr ⟨by rfl, rfl⟩) hHeld ?_
          simp only [Act.put, List.setIfInBounds_toArray, List.set_cons_zero, List.set_cons_succ]
          refine wpAnyH_take (i := 10) (oi := ⟨some 35, _, _, _, _, _⟩) (v := undef) rfl (by kernel_rfl) (by kernel_rfl) (by kernel_rfl) (fun _ _ _ h => h) (Or.inr ⟨by rfl, rfl⟩) hHeld ?_
          simp only [Act.put, List.setIfInBounds_toArray, List.set_cons_zero, List.set_cons_succ]
          refine wpAnyH_take (i := 11) (oi := ⟨some 36, _, _, _, _, _⟩) (v := undef) rfl (by kernel_rfl) (by kernel_rfl) (by kernel_rfl) (fun _ _ _ h => h) (Or.inr ⟨by rfl, rfl⟩) hHeld ?_
          simp only [Act.put, List.setIfInBounds_toArray, List.set_cons_zero, List.set_cons_succ]
          refine wpAnyH_take (i := 12) (oi := ⟨some 37, _, _, _, _, _⟩) (v := undef) rfl (by kernel_rfl) (by kernel_rfl) (by kernel_rfl) (fun _ _ _ h => h) (Or.inr ⟨by rfl, rfl⟩) hHeld ?_
          simp only [Act.put, List.setIfInBounds_toArray, List.set_cons_zero, List.set_cons_succ]
          refine wpAnyH_take (i := 13) (oi := ⟨some 38, _, _, _, _, _⟩) (v := undef) rfl (by kernel_rfl) (by kernel_rfl) (by kernel_rfl) (fun _ _ _ h => h) (Or.inr ⟨by rfl, rfl⟩) hHeld ?_
          simp only [Act.put, List.setIfInBounds_toArray, List.set_cons_zero, List.set_cons_succ]
          refine wpAnyH_take (i := 14) (oi := ⟨some 39, _, _, _, _, _⟩) (v := undef) rfl (by kernel_rfl) (by kernel_rfl) (by kernel_rfl) (fun _ _ _ h => h) (Or.inr ⟨by rfl, rfl⟩) hHeld ?_
          simp only [Act.put, List.setIfInBounds_toArray, List.set_cons_zero, List.set_cons_succ]
          refine wpAnyH_take (i := 15) (oi := ⟨some 40, _, _, _, _, _⟩) (v := undef) rfl (by kernel_rfl) (by kernel_rfl) (by kernel_rfl) (fun _ _ _ h => h) (Or.inr ⟨by rfl, rfl⟩) hHeld ?_
          simp only [Act.put, List.setIfInBounds_toArray, List.set_cons_zero, List.set_cons_succ]
          refine wpAnyH_take (i := 16) (oi := ⟨some 41, _, _, _, _, _⟩) (v := undef) rfl (by kernel_rfl) (by kernel_rfl) (by kernel_rfl) (fun _ _ _ h => h) (Or.inr ⟨by rfl, rfl⟩) hHeld ?_
          simp only [Act.put, List.setIfInBounds_toArray, List.set_cons_zero, List.set_cons_succ]
          refine wpAnyH_take (i := 17) (oi := ⟨some 42, _, _, _, _, _⟩) (v := undef) rfl (by kernel_rfl) (by kernel_rfl) (by kernel_rfl) (fun _ _ _ h => h) (Or.inr ⟨by rfl, rfl⟩) hHeld ?_
          simp only [Act.put, List.setIfInBounds_toArray, List.set_cons_zero, List.set_cons_succ]
          refine wpAnyH_take (i := 18) (oi := ⟨some 43, _, _, _, _, _⟩) (v := undef) rfl (by kernel_rfl) (by kernel_rfl) (by kernel_rfl) (fun _ _ _ h => h) (Or.inr ⟨by rfl, rfl⟩) hHeld ?_
          simp only [Act.put, List.setIfInBounds_toArray, List.set_cons_zero, List.set_cons_succ]
          refine wpAnyH_take (i := 19) (oi := ⟨some 44, _, _, _, _, _⟩) (v := undef) rfl (by kernel_rfl) (by kernel_rfl) (by kernel_rfl) (fun _ _ _ h => h) (Or.inr ⟨by rfl, rfl⟩) hHeld ?_
          simp only [Act.put, List.setIfInBounds_toArray, List.set_cons_zero, List.set_cons_succ]
          refine wpAnyH_take (i := 20) (oi := ⟨some 45, _, _, _, _, _⟩) (v := undef) rfl (by kernel_rfl) (by kernel_rfl) (by kernel_rfl) (fun _ _ _ h => h) (Or.inr ⟨by rfl, rfl⟩) hHeld ?_
          simp only [Act.put, List.setIfInBounds_toArray, List.set_cons_zero, List.set_cons_succ]
          refine wpAnyH_take (i := 21) (oi := ⟨some 46, _, _, _, _, _⟩) (v := undef) rfl (by kernel_rfl) (by kernel_rfl) (by kernel_rfl) (fun _ _ _ h => h) (Or.inr ⟨by rfl, rfl⟩) hHeld ?_
          simp only [Act.put, List.setIfInBounds_toArray, List.set_cons_zero, List.set_cons_succ]
          refine wpAnyH_take (i := 22) (oi := ⟨some 47, _, _, _, _, _⟩) (v := ?vb22) rfl (by kernel_rfl) (by kernel_rfl) (by kernel_rfl) (fun _ _ _ h => h) (Or.inl ⟨by rfl, ?yb22⟩) hHeld ?rb22
          case yb22 => (intro w' hSw; (try dsimp only at hSw); go_simp; try (with_reducible rfl))
          simp only [Act.put, List.setIfInBounds_toArray, List.set_cons_zero, List.set_cons_succ]
          refine wpAnyH_done (by kernel_rfl) ?_ _
          have HB3 := Lib.hid (HB2.out.trans (hHeld.1.mono HB2.out.size))
          have HX3 := Lib.hid (HX2.out.on hHeld.1)
          clear hHeld HKP HB2 HX2
          go_wp2
          go_roundg (L.length - (k + 1))
          case measure => omega
          case rel => exact ⟨k + 1, z, by omega, rfl, by go_num, rfl, HF.out.no (by rw [HI.out, hq]), HB3, HX3⟩
        | true =>
          cases z with
          | none =>
            have hfr : fr none = -1 := rfl
            rw [hfr]
            go_wp2_with fail
            (with_reducible refine (text_s s r.m _ hs HT.out).mono ?_)
            rintro e w2 ⟨rfl, hb2⟩
            have HB2 := Lib.hid (HB.out.trans (hb2.mono HB.out.size))
            have HX2 := Lib.hid (HX.out.on hb2)
            clear HB HX hb2 c0 c1 c2 c3 c4 c5 c6 c7 c8 c9 c10 c11
            have KP : ∀ W, Below w2.heap.size w2 W → (Below w2.heap.size w2 W ∧ W.cell? ⟨w.heap.size, 0, none⟩ = some (.int .u64 (uv hh)) ∧ W.cell? ⟨w.heap.size, 1, none⟩ = some (.int .u64 (uv hl)) ∧ W.cell? ⟨b, off + k * 12, none⟩ = some (.int .i64 r.pri)) := fun W hb => ⟨hb, (HX2.out.on hb).cell 0, (HX2.out.on hb).cell 1, (((HPC.out k r HR.out).on HB2.out).on hb).out.1⟩
            have HKP := Lib.hid KP
            clear KP
            go_upto_region 6 with (fail)
            refine wp_region_held_drew (S := fun w' => Below w2.heap.size w2 w' ∧ w'.cell? ⟨w.heap.size, 0, none⟩ = some (.int .u64 (uv hh)) ∧ w'.cell? ⟨w.heap.size, 1, none⟩ = some (.int .u64 (uv hl)) ∧ w'.cell? ⟨b, off + k * 12, none⟩ = some (.int .i64 r.pri)) (by kernel_rfl) (HKP.out _ (Below.refl _ w2).drew) (fun hHeld => ?_)
            refine wpAnyH_take (i := 0) (oi := ⟨some 25, _, _, _, _, _⟩) (v := ?vc0) rfl (by kernel_rfl) (by kernel_rfl) (by kernel_rfl) (fun _ _ _ h => h) (Or.inl ⟨by rfl, ?yc0⟩) hHeld ?rc0
            case yc0 => (intro w' hSw; (try dsimp only at hSw); go_simp; try (with_reducible rfl))
            simp only [Act.put, List.setIfInBounds_toArray, List.set_cons_zero, List.set_cons_succ]
            refine wpAnyH_take (i := 1) (oi := ⟨some 26, _, _, _, _, _⟩) (v := ?vc1) rfl (by kernel_rfl) (by kernel_rfl) (by kernel_rfl) (fun _ _ _ h => h) (Or.inl ⟨by rfl, ?yc1⟩) hHeld ?rc1
            case yc1 => (intro w' hSw; (try dsimp only at hSw); go_simp; try (with_reducible rfl))
            simp only [Act.put, List.setIfInBounds_toArray, List.set_cons_zero, List.set_cons_succ]
            refine wpAnyH_take (i := 2) (oi := ⟨some 27, _, _, _, _, _⟩) (v := ?vc2) rfl (by kernel_rfl) (by kernel_rfl) (by kernel_rfl) (fun _ _ _ h => h) (Or.inl ⟨by rfl, ?yc2⟩) hHeld ?rc2
            case yc2 => (intro w' hSw; (try dsimp only at hSw); go_simp; try (with_reducible rfl))
            simp only [Act.put, List.setIfInBounds_toArray, List.set_cons_zero, List.set_cons_succ]
            refine wpAnyH_take (i := 3) (oi := ⟨some 28, _, _, _, _, _⟩) (v := ?vc3) rfl (by kernel_rfl) (by kernel_rfl) (by kernel_rfl) (fun _ _ _ h => h) (Or.inl ⟨by rfl, ?yc3⟩) hHeld ?rc3
            case yc3 => (intro w' hSw; (try dsimp only at hSw); go_simp; try (with_reducible rfl))
            simp only [Act.put, List.setIfInBounds_toArray, List.set_cons_zero, List.set_cons_succ]
            refine wpAnyH_ready (rs := [4]) (by kernel_rfl) (by simp) ?_
            refine AllReadyH.cons (o := ⟨some 29, _, _, _, _, _⟩) rfl (fun K hK => ?_) AllReadyH.nil
            go_simp
            (with_reducible refine (rhas_is true s r.m hh hl _ hs HT.out hq).mono ?_)
            rintro e w5 ⟨rfl, hb⟩
            (try dsimp only)
            refine hK.out _ _ (HKP.out _ (hHeld.1.trans (hb.mono hHeld.1.size))) (fun hNext => ?_)
            clear hK K hHeld
            have hHeld := hNext
            clear hNext
            try simp only [Act.put, List.setIfInBounds_toArray, List.set_cons_zero, List.set_cons_succ]
            refine wpAnyH_take (i := 5) (oi := ⟨some 30, _, _, _, _, _⟩) (v := ?vc5) rfl (by kernel_rfl) (by kernel_rfl) (by kernel_rfl) (fun _ _ _ h => h) (Or.inl ⟨by rfl, ?yc5⟩) hHeld ?rc5
            case yc5 => (intro w' hSw; (try dsimp only at hSw); go_simp; try (with_reducible rfl))
            simp only [Act.put, List.setIfInBounds_toArray, List.set_cons_zero, List.set_cons_succ]
            refine wpAnyH_take (i := 6) (oi := ⟨some 31, _, _, _, _, _⟩) (v := ?vc6) rfl (by kernel_rfl) (by kernel_rfl) (by kernel_rfl) (fun _ _ _ h => h) (Or.inl ⟨by rfl, ?yc6⟩) hHeld ?rc6
            case yc6 => (intro w' hSw; (try dsimp only at hSw); go_simp; try (with_reducible rfl))
            simp only [Act.put, List.setIfInBounds_toArray, List.set_cons_zero, List.set_cons_succ]
            refine wpAnyH_take (i := 7) (oi := ⟨some 32, _, _, _, _, _⟩) (v := ?vc7) rfl (by kernel_rfl) (by kernel_rfl) (by kernel_rfl) (fun _ _ _ h => h) (Or.inl ⟨by rfl, ?yc7⟩) hHeld ?rc7
            case yc7 => (intro w' hSw; (try dsimp only at hSw); go_simp; try (with_reducible rfl))
            simp only [Act.put, List.setIfInBounds_toArray, List.set_cons_zero, List.set_cons_succ]
            refine wpAnyH_take (i := 8) (oi := ⟨some 33, _, _, _, _, _⟩) (v := ?vc8) rfl (by kernel_rfl) (by kernel_rfl) (by kernel_rfl) (fun _ _ _ h => h) (Or.inl ⟨by rfl, ?yc8⟩) hHeld ?rc8
            case yc8 => (intro w' hSw; (try dsimp only at hSw); go_simp; try (with_reducible rfl))
            simp only [Act.put, List.setIfInBounds_toArray, List.set_cons_zero, List.set_cons_succ]
            refine wpAnyH_take (i := 9) (oi := ⟨some 34, _, _, _, _, _⟩) (v := ?vc9) rfl (by kernel_rfl) (by kernel_rfl) (by kernel_rfl) (fun _ _ _ h => h) (Or.inl ⟨by rfl, ?yc9⟩) hHeld ?rc9
            case yc9 => (intro w' hSw; (try dsimp only at hSw); go_simp; try (with_reducible rfl))
            simp only [Act.put, List.setIfInBounds_toArray, List.set_cons_zero, List.set_cons_succ]
            refine wpAnyH_take (i := 10) (oi := ⟨some 35, _, _, _, _, _⟩) (v := undef) rfl (by kernel_rfl) (by kernel_rfl) (by kernel_rfl) (fun _ _ _ h => h) (Or.inr ⟨by rfl, rfl⟩) hHeld ?_
            simp only [Act.put, List.setIfInBounds_toArray, List.set_cons_zero, List.set_cons_succ]
            refine wpAnyH_take (i := 11) (oi := ⟨some 36, _, _, _, _, _⟩) (v := undef) rfl (by kernel_rfl) (by kernel_rfl) (by kernel_rfl) (fun _ _ _ h => h) (Or.inr ⟨by rfl, rfl⟩) hHeld ?_
            simp only [Act.put, List.setIfInBounds_toArray, List.set_cons_zero, List.set_cons_succ]
            refine wpAnyH_take (i := 12) (oi := ⟨some 37, _, _, _, _, _⟩) (v := undef) rfl (by kernel_rfl) (by kernel_rfl) (by kernel_rfl) (fun _ _ _ h => h) (Or.inr ⟨by rfl, rfl⟩) hHeld ?_
            simp only [Act.put, List.setIfInBounds_toArray, List.set_cons_zero, List.set_cons_succ]
            refine wpAnyH_take (i := 13) (oi := ⟨some 38, _, _, _, _, _⟩) (v := undef) rfl (by kernel_rfl) (by kernel_rfl) (by kernel_rfl) (fun _ _ _ h => h) (Or.inr ⟨by rfl, rfl⟩) hHeld ?_
            simp only [Act.put, List.setIfInBounds_toArray, List.set_cons_zero, List.set_cons_succ]
            refine wpAnyH_take (i := 14) (oi := ⟨some 39, _, _, _, _, _⟩) (v := undef) rfl (by kernel_rfl) (by kernel_rfl) (by kernel_rfl) (fun _ _ _ h => h) (Or.inr ⟨by rfl, rfl⟩) hHeld ?_
            simp only [Act.put, List.setIfInBounds_toArray, List.set_cons_zero, List.set_cons_succ]
            refine wpAnyH_take (i := 15) (oi := ⟨some 40, _, _, _, _, _⟩) (v := undef) rfl (by kernel_rfl) (by kernel_rfl) (by kernel_rfl) (fun _ _ _ h => h) (Or.inr ⟨by rfl, rfl⟩) hHeld ?_
            simp only [Act.put, List.setIfInBounds_toArray, List.set_cons_zero, List.set_cons_succ]
            refine wpAnyH_take (i := 16) (oi := ⟨some 41, _, _, _, _, _⟩) (v := undef) rfl (by kernel_rfl) (by kernel_rfl) (by kernel_rfl) (fun _ _ _ h => h) (Or.inr ⟨by rfl, rfl⟩) hHeld ?_
            simp only [Act.put, List.setIfInBounds_toArray, List.set_cons_zero, List.set_cons_succ]
            refine wpAnyH_take (i := 17) (oi := ⟨some 42, _, _, _, _, _⟩) (v := undef) rfl (by kernel_rfl) (by kernel_rfl) (by kernel_rfl) (fun _ _ _ h => h) (Or.inr ⟨by rfl, rfl⟩) hHeld ?_
            simp only [Act.put, List.setIfInBounds_toArray, List.set_cons_zero, List.set_cons_succ]
            refine wpAnyH_take (i := 18) (oi := ⟨some 43, _, _, _, _, _⟩) (v := undef) rfl (by kernel_rfl) (by kernel_rfl) (by kernel_rfl) (fun _ _ _ h => h) (Or.inr ⟨by rfl, rfl⟩) hHeld ?_
            simp only [Act.put, List.setIfInBounds_toArray, List.set_cons_zero, List.set_cons_succ]
            refine wpAnyH_take (i := 19) (oi := ⟨some 44, _, _, _, _, _⟩) (v := undef) rfl (by kernel_rfl) (by kernel_rfl) (by kernel_rfl) (fun _ _ _ h => h) (Or.inr ⟨by rfl, rfl⟩) hHeld ?_
            simp only [Act.put, List.setIfInBounds_toArray, List.set_cons_zero, List.set_cons_succ]
            refine wpAnyH_take (i := 20) (oi := ⟨some 45, _, _, _, _, _⟩) (v := undef) rfl (by kernel_rfl) (by kernel_rfl) (by kernel_rfl) (fun _ _ _ h => h) (Or.inr ⟨by rfl, rfl⟩) hHeld ?_
            simp only [Act.put, List.setIfInBounds_toArray, List.set_cons_zero, List.set_cons_succ]
            refine wpAnyH_take (i := 21) (oi := ⟨some 46, _, _, _, _, _⟩) (v := ?vc21) rfl (by kernel_rfl) (by kernel_rfl) (by kernel_rfl) (fun _ _ _ h => h) (Or.inl ⟨by rfl, ?yc21⟩) hHeld ?rc21
            case yc21 => (intro w' hSw; (try dsimp only at hSw); go_simp; try (with_reducible rfl))
            simp only [Act.put, List.setIfInBounds_toArray, List.set_cons_zero, List.set_cons_succ]
            refine wpAnyH_take (i := 22) (oi := ⟨some 47, _, _, _, _, _⟩) (v := ?vc22) rfl (by kernel_rfl) (by kernel_rfl) (by kernel_rfl) (fun _ _ _ h => h) (Or.inl ⟨by rfl, ?yc22⟩) hHeld ?rc22
            case yc22 => (intro w' hSw; (try dsimp only at hSw); go_simp; try (with_reducible rfl))
            simp only [Act.put, List.setIfInBounds_toArray, List.set_cons_zero, List.set_cons_succ]
            refine wpAnyH_done (by kernel_rfl) ?_ _
            have HB3 := Lib.hid (HB2.out.trans (hHeld.1.mono HB2.out.size))
            have HX3 := Lib.hid (HX2.out.on hHeld.1)
            clear hHeld HKP HB2 HX2
            go_wp2
            go_roundg (L.length - (k + 1))
            case measure => omega
            case rel => exact ⟨k + 1, some k, by omega, rfl, by go_num, rfl, HF.out.first (by rw [HI.out, hq]), HB3, HX3⟩
          | some z =>
            have hfr : fr (some z) = (z : Int) := rfl
            rw [hfr]
            have hz := HF.out.lt
            have hzz : (z : Int) < (L.length : Int) := by omega
            have hz0 : ¬ (z : Int) < 0 := by omega
            have hzd : decide ((z : Int) < 0) = false := decide_eq_false hz0
            obtain ⟨p, hp⟩ : ∃ p, L[z]? = some p := ⟨_, List.getElem?_eq_getElem (by omega)⟩
            have HP := Lib.hid hp
            clear hp
            by_cases hd : p.pri < r.pri
            · have hdd : decide (p.pri < r.pri) = true := decide_eq_true hd
              have HG : Hid (leI L k z = true) := leI_of_gt (by rw [at_pos HP.out, at_pos HR.out]; exact hd)
              go_wp2_with fail
              (with_reducible refine (text_s s r.m _ hs HT.out).mono ?_)
              rintro e w2 ⟨rfl, hb2⟩
              have HB2 := Lib.hid (HB.out.trans (hb2.mono HB.out.size))
              have HX2 := Lib.hid (HX.out.on hb2)
              clear HB HX hb2 c0 c1 c2 c3 c4 c5 c6 c7 c8 c9 c10 c11
              have KP : ∀ W, Below w2.heap.size w2 W → (Below w2.heap.size w2 W ∧ W.cell? ⟨w.heap.size, 0, none⟩ = some (.int .u64 (uv hh)) ∧ W.cell? ⟨w.heap.size, 1, none⟩ = some (.int .u64 (uv hl)) ∧ W.cell? ⟨b, off + k * 12, none⟩ = some (.int .i64 r.pri) ∧ W.cell? ⟨b, off + z * 12, none⟩ = some (.int .i64 p.pri)) := fun W hb => ⟨hb, (HX2.out.on hb).cell 0, (HX2.out.on hb).cell 1, (((HPC.out k r HR.out).on HB2.out).on hb).out.1, (((HPC.out z p HP.out).on HB2.out).on hb).out.1⟩
              have HKP := Lib.hid KP
              clear KP
              go_upto_region 6 with (fail)
              refine wp_region_held_drew (S := fun w' => Below w2.heap.size w2 w' ∧ w'.cell? ⟨w.heap.size, 0, none⟩ = some (.int .u64 (uv hh)) ∧ w'.cell? ⟨w.heap.size, 1, none⟩ = some (.int .u64 (uv hl)) ∧ w'.cell? ⟨b, off + k * 12, none⟩ = some (.int .i64 r.pri) ∧ w'.cell? ⟨b, off + z * 12, none⟩ = some (.int .i64 p.pri)) (by kernel_rfl) (HKP.out _ (Below.refl _ w2).drew) (fun hHeld => ?_)
              refine wpAnyH_take (i := 0) (oi := ⟨some 25, _, _, _, _, _⟩) (v := ?vd0) rfl (by kernel_rfl) (by kernel_rfl) (by kernel_rfl) (fun _ _ _ h => h) (Or.inl ⟨by rfl, ?yd0⟩) hHeld ?rd0
              case yd0 => (intro w' hSw; (try dsimp only at hSw); go_simp; try (with_reducible rfl))
              simp only [Act.put, List.setIfInBounds_toArray, List.set_cons_zero, List.set_cons_succ]
              refine wpAnyH_take (i := 1) (oi := ⟨some 26, _, _, _, _, _⟩) (v := ?vd1) rfl (by kernel_rfl) (by kernel_rfl) (by kernel_rfl) (fun _ _ _ h => h) (Or.inl ⟨by rfl, ?yd1⟩) hHeld ?rd1
              case yd1 => (intro w' hSw; (try dsimp only at hSw); go_simp; try (with_reducible rfl))
              simp only [Act.put, List.setIfInBounds_toArray, List.set_cons_zero, List.set_cons_succ]
              refine wpAnyH_take (i := 2) (oi := ⟨some 27, _, _, _, _, _⟩) (v := ?vd2) rfl (by kernel_rfl) (by kernel_rfl) (by kernel_rfl) (fun _ _ _ h => h) (Or.inl ⟨by rfl, ?yd2⟩) hHeld ?rd2
              case yd2 => (intro w' hSw; (try dsimp only at hSw); go_simp; try (with_reducible rfl))
              simp only [Act.put, List.setIfInBounds_toArray, List.set_cons_zero, List.set_cons_succ]
              refine wpAnyH_take (i := 3) (oi := ⟨some 28, _, _, _, _, _⟩) (v := ?vd3) rfl (by kernel_rfl) (by kernel_rfl) (by kernel_rfl) (fun _ _ _ h => h) (Or.inl ⟨by rfl, ?yd3⟩) hHeld ?rd3
              case yd3 => (intro w' hSw; (try dsimp only at hSw); go_simp; try (with_reducible rfl))
              simp only [Act.put, List.setIfInBounds_toArray, List.set_cons_zero, List.set_cons_succ]
              refine wpAnyH_ready (rs := [4]) (by kernel_rfl) (by simp) ?_
              refine AllReadyH.cons (o := ⟨some 29, _, _, _, _, _⟩) rfl (fun K hK => ?_) AllReadyH.nil
              go_simp
              (with_reducible refine (rhas_is true s r.m hh hl _ hs HT.out hq).mono ?_)
              rintro e w5 ⟨rfl, hb⟩
              (try dsimp only)
              refine hK.out _ _ (HKP.out _ (hHeld.1.trans (hb.mono hHeld.1.size))) (fun hNext => ?_)
              clear hK K hHeld
              have hHeld := hNext
              clear hNext
              try simp only [Act.put, List.setIfInBounds_toArray, List.set_cons_zero, List.set_cons_succ]
              refine wpAnyH_take (i := 5) (oi := ⟨some 30, _, _, _, _, _⟩) (v := ?vd5) rfl (by kernel_rfl) (by kernel_rfl) (by kernel_rfl) (fun _ _ _ h => h) (Or.inl ⟨by rfl, ?yd5⟩) hHeld ?rd5
              case yd5 => (intro w' hSw; (try dsimp only at hSw); go_simp; try (with_reducible rfl))
              simp only [Act.put, List.setIfInBounds_toArray, List.set_cons_zero, List.set_cons_succ]
              refine wpAnyH_take (i := 6) (oi := ⟨some 31, _, _, _, _, _⟩) (v := ?vd6) rfl (by kernel_rfl) (by kernel_rfl) (by kernel_rfl) (fun _ _ _ h => h) (Or.inl ⟨by rfl, ?yd6⟩) hHeld ?rd6
              case yd6 => (intro w' hSw; (try dsimp only at hSw); go_simp; try (with_reducible rfl))
              simp only [Act.put, List.setIfInBounds_toArray, List.set_cons_zero, List.set_cons_succ]
              refine wpAnyH_take (i := 7) (oi := ⟨some 32, _, _, _, _, _⟩) (v := ?vd7) rfl (by kernel_rfl) (by kernel_rfl) (by kernel_rfl) (fun _ _ _ h => h) (Or.inl ⟨by rfl, ?yd7⟩) hHeld ?rd7
              case yd7 => (intro w' hSw; (try dsimp only at hSw); go_simp; try (with_reducible rfl))
              simp only [Act.put, List.setIfInBounds_toArray, List.set_cons_zero, List.set_cons_succ]
              refine wpAnyH_take (i := 8) (oi := ⟨some 33, _, _, _, _, _⟩) (v := ?vd8) rfl (by kernel_rfl) (by kernel_rfl) (by kernel_rfl) (fun _ _ _ h => h) (Or.inl ⟨by rfl, ?yd8⟩) hHeld ?rd8
              case yd8 => (intro w' hSw; (try dsimp only at hSw); go_simp; try (with_reducible rfl))
              simp only [Act.put, List.setIfInBounds_toArray, List.set_cons_zero, List.set_cons_succ]
              refine wpAnyH_take (i := 9) (oi := ⟨some 34, _, _, _, _, _⟩) (v := ?vd9) rfl (by kernel_rfl) (by kernel_rfl) (by kernel_rfl) (fun _ _ _ h => h) (Or.inl ⟨by rfl, ?yd9⟩) hHeld ?rd9
              case yd9 => (intro w' hSw; (try dsimp only at hSw); go_simp; try (with_reducible rfl))
              simp only [Act.put, List.setIfInBounds_toArray, List.set_cons_zero, List.set_cons_succ]
              refine wpAnyH_take (i := 10) (oi := ⟨some 35, _, _, _, _, _⟩) (v := ?vd10) rfl (by kernel_rfl) (by kernel_rfl) (by kernel_rfl) (fun _ _ _ h => h) (Or.inl ⟨by rfl, ?yd10⟩) hHeld ?rd10
              case yd10 => (intro w' hSw; (try dsimp only at hSw); go_simp; try (with_reducible rfl))
              simp only [Act.put, List.setIfInBounds_toArray, List.set_cons_zero, List.set_cons_succ]
              refine wpAnyH_take (i := 11) (oi := ⟨some 36, _, _, _, _, _⟩) (v := ?vd11) rfl (by kernel_rfl) (by kernel_rfl) (by kernel_rfl) (fun _ _ _ h => h) (Or.inl ⟨by rfl, ?yd11⟩) hHeld ?rd11
              case yd11 => (intro w' hSw; (try dsimp only at hSw); go_simp; try (with_reducible rfl))
              simp only [Act.put, List.setIfInBounds_toArray, List.set_cons_zero, List.set_cons_succ]
              refine wpAnyH_take (i := 12) (oi := ⟨some 37, _, _, _, _, _⟩) (v := ?vd12) rfl (by kernel_rfl) (by kernel_rfl) (by kernel_rfl) (fun _ _ _ h => h) (Or.inl ⟨by rfl, ?yd12⟩) hHeld ?rd12
              case yd12 => (intro w' hSw; (try dsimp only at hSw); go_simp; try (with_reducible rfl))
              simp only [Act.put, List.setIfInBounds_toArray, List.set_cons_zero, List.set_cons_succ]
              refine wpAnyH_take (i := 13) (oi := ⟨some 38, _, _, _, _, _⟩) (v := ?vd13) rfl (by kernel_rfl) (by kernel_rfl) (by kernel_rfl) (fun _ _ _ h => h) (Or.inl ⟨by rfl, ?yd13⟩) hHeld ?rd13
              case yd13 => (intro w' hSw; (try dsimp only at hSw); go_simp; try (with_reducible rfl))
              simp only [Act.put, List.setIfInBounds_toArray, List.set_cons_zero, List.set_cons_succ]
              refine wpAnyH_take (i := 14) (oi := ⟨some 39, _, _, _, _, _⟩) (v := ?vd14) rfl (by kernel_rfl) (by kernel_rfl) (by kernel_rfl) (fun _ _ _ h => h) (Or.inl ⟨by rfl, ?yd14⟩) hHeld ?rd14
              case yd14 => (intro w' hSw; (try dsimp only at hSw); go_simp; try (with_reducible rfl))
              simp only [Act.put, List.setIfInBounds_toArray, List.set_cons_zero, List.set_cons_succ]
              refine wpAnyH_take (i := 15) (oi := ⟨some 40, _, _, _, _, _⟩) (v := ?vd15) rfl (by kernel_rfl) (by kernel_rfl) (by kernel_rfl) (fun _ _ _ h => h) (Or.inl ⟨by rfl, ?yd15⟩) hHeld ?rd15
              case yd15 => (intro w' hSw; (try dsimp only at hSw); go_simp; try (with_reducible rfl))
              simp only [Act.put, List.setIfInBounds_toArray, List.set_cons_zero, List.set_cons_succ]
              refine wpAnyH_take (i := 16) (oi := ⟨some 41, _, _, _, _, _⟩) (v := ?vd16) rfl (by kernel_rfl) (by kernel_rfl) (by kernel_rfl) (fun _ _ _ h => h) (Or.inl ⟨by rfl, ?yd16⟩) hHeld ?rd16
              case yd16 => (intro w' hSw; (try dsimp only at hSw); go_simp; try (with_reducible rfl))
              simp only [Act.put, List.setIfInBounds_toArray, List.set_cons_zero, List.set_cons_succ]
              refine wpAnyH_take (i := 17) (oi := ⟨some 42, _, _, _, _, _⟩) (v := ?vd17) rfl (by kernel_rfl) (by kernel_rfl) (by kernel_rfl) (fun _ _ _ h => h) (Or.inl ⟨by rfl, ?yd17⟩) hHeld ?rd17
              case yd17 => (intro w' hSw; (try dsimp only at hSw); go_simp; try (with_reducible rfl))
              simp only [Act.put, List.setIfInBounds_toArray, List.set_cons_zero, List.set_cons_succ]
              refine wpAnyH_take (i := 18) (oi := ⟨some 43, _, _, _, _, _⟩) (v := ?vd18) rfl (by kernel_rfl) (by kernel_rfl) (by kernel_rfl) (fun _ _ _ h => h) (Or.inl ⟨by rfl, ?yd18⟩) hHeld ?rd18
              case yd18 => (intro w' hSw; (try dsimp only at hSw); go_simp; try (with_reducible rfl))
              simp only [Act.put, List.setIfInBounds_toArray, List.set_cons_zero, List.set_cons_succ]
              refine wpAnyH_take (i := 19) (oi := ⟨some 44, _, _, _, _, _⟩) (v := ?vd19) rfl (by kernel_rfl) (by kernel_rfl) (by kernel_rfl) (fun _ _ _ h => h) (Or.inl ⟨by rfl, ?yd19⟩) hHeld ?rd19
              case yd19 => (intro w' hSw; (try dsimp only at hSw); go_simp; try (with_reducible rfl))
              simp only [Act.put, List.setIfInBounds_toArray, List.set_cons_zero, List.set_cons_succ]
              refine wpAnyH_take (i := 20) (oi := ⟨some 45, _, _, _, _, _⟩) (v := ?vd20) rfl (by kernel_rfl) (by kernel_rfl) (by kernel_rfl) (fun _ _ _ h => h) (Or.inl ⟨by rfl, ?yd20⟩) hHeld ?rd20
              case yd20 => (intro w' hSw; (try dsimp only at hSw); go_simp; try (with_reducible rfl))
              simp only [Act.put, List.setIfInBounds_toArray, List.set_cons_zero, List.set_cons_succ]
              refine wpAnyH_take (i := 21) (oi := ⟨some 46, _, _, _, _, _⟩) (v := ?vd21) rfl (by kernel_rfl) (by kernel_rfl) (by kernel_rfl) (fun _ _ _ h => h) (Or.inl ⟨by rfl, ?yd21⟩) hHeld ?rd21
              case yd21 => (intro w' hSw; (try dsimp only at hSw); go_simp; try (with_reducible rfl))
              simp only [Act.put, List.setIfInBounds_toArray, List.set_cons_zero, List.set_cons_succ]
              refine wpAnyH_take (i := 22) (oi := ⟨some 47, _, _, _, _, _⟩) (v := ?vd22) rfl (by kernel_rfl) (by kernel_rfl) (by kernel_rfl) (fun _ _ _ h => h) (Or.inl ⟨by rfl, ?yd22⟩) hHeld ?rd22
              case yd22 => (intro w' hSw; (try dsimp only at hSw); go_simp; try (with_reducible rfl))
              simp only [Act.put, List.setIfInBounds_toArray, List.set_cons_zero, List.set_cons_succ]
              refine wpAnyH_done (by kernel_rfl) ?_ _
              have HB3 := Lib.hid (HB2.out.trans (hHeld.1.mono HB2.out.size))
              have HX3 := Lib.hid (HX2.out.on hHeld.1)
              clear hHeld HKP HB2 HX2
              go_wp2
              go_roundg (L.length - (k + 1))
              case measure => omega
              case rel => exact ⟨k + 1, some k, by omega, rfl, by go_num, rfl, HF.out.more (by rw [HI.out, hq]) HG.out, HB3, HX3⟩
            · have hdd : decide (p.pri < r.pri) = false := decide_eq_false hd
              have HG : Hid (leI L z k = true) := leI_of_ge hz (by rw [at_pos HP.out, at_pos HR.out]; exact hd)
              go_wp2_with fail
              (with_reducible refine (text_s s r.m _ hs HT.out).mono ?_)
              rintro e w2 ⟨rfl, hb2⟩
              have HB2 := Lib.hid (HB.out.trans (hb2.mono HB.out.size))
              have HX2 := Lib.hid (HX.out.on hb2)
              clear HB HX hb2 c0 c1 c2 c3 c4 c5 c6 c7 c8 c9 c10 c11
              have KP : ∀ W, Below w2.heap.size w2 W → (Below w2.heap.size w2 W ∧ W.cell? ⟨w.heap.size, 0, none⟩ = some (.int .u64 (uv hh)) ∧ W.cell? ⟨w.heap.size, 1, none⟩ = some (.int .u64 (uv hl)) ∧ W.cell? ⟨b, off + k * 12, none⟩ = some (.int .i64 r.pri) ∧ W.cell? ⟨b, off + z * 12, none⟩ = some (.int .i64 p.pri)) := fun W hb => ⟨hb, (HX2.out.on hb).cell 0, (HX2.out.on hb).cell 1, (((HPC.out k r HR.out).on HB2.out).on hb).out.1, (((HPC.out z p HP.out).on HB2.out).on hb).out.1⟩
              have HKP := Lib.hid KP
              clear KP
              go_upto_region 6 with (fail)
              refine wp_region_held_drew (S := fun w' => Below w2.heap.size w2 w' ∧ w'.cell? ⟨w.heap.size, 0, none⟩ = some (.int .u64 (uv hh)) ∧ w'.cell? ⟨w.heap.size, 1, none⟩ = some (.int .u64 (uv hl)) ∧ w'.cell? ⟨b, off + k * 12, none⟩ = some (.int .i64 r.pri) ∧ w'.cell? ⟨b, off + z * 12, none⟩ = some (.int .i64 p.pri)) (by kernel_rfl) (HKP.out _ (Below.refl _ w2).drew) (fun hHeld => ?_)
              refine wpAnyH_take (i := 0) (oi := ⟨some 25, _, _, _, _, _⟩) (v := ?ve0) rfl (by kernel_rfl) (by kernel_rfl) (by kernel_rfl) (fun _ _ _ h => h) (Or.inl ⟨by rfl, ?ye0⟩) hHeld ?re0
              case ye0 => (intro w' hSw; (try dsimp only at hSw); go_simp; try (with_reducible rfl))
              simp only [Act.put, List.setIfInBounds_toArray, List.set_cons_zero, List.set_cons_succ]
              refine wpAnyH_take (i := 1) (oi := ⟨some 26, _, _, _, _, _⟩) (v := ?ve1) rfl (by kernel_rfl) (by kernel_rfl) (by kernel_rfl) (fun _ _ _ h => h) (Or.inl ⟨by rfl, ?ye1⟩) hHeld ?re1
              case ye1 => (intro w' hSw; (try dsimp only at hSw); go_simp; try (with_reducible rfl))
              simp only [Act.put, List.setIfInBounds_toArray, List.set_cons_zero, List.set_cons_succ]
              refine wpAnyH_take (i := 2) (oi := ⟨some 27, _, _, _, _, _⟩) (v := ?ve2) rfl (by kernel_rfl) (by kernel_rfl) (by kernel_rfl) (fun _ _ _ h => h) (Or.inl ⟨by rfl, ?ye2⟩) hHeld ?re2
              case ye2 => (intro w' hSw; (try dsimp only at hSw); go_simp; try (with_reducible rfl))
              simp only [Act.put, List.setIfInBounds_toArray, List.set_cons_zero, List.set_cons_succ]
              refine wpAnyH_take (i := 3) (oi := ⟨some 28, _, _, _, _, _⟩) (v := ?ve3) rfl (by kernel_rfl) (by kernel_rfl) (by kernel_rfl) (fun _ _ _ h => h) (Or.inl ⟨by rfl, ?ye3⟩) hHeld ?re3
              case ye3 => (intro w' hSw; (try dsimp only at hSw); go_simp; try (with_reducible rfl))
              simp only [Act.put, List.setIfInBounds_toArray, List.set_cons_zero, List.set_cons_succ]
              refine wpAnyH_ready (rs := [4]) (by kernel_rfl) (by simp) ?_
              refine AllReadyH.cons (o := ⟨some 29, _, _, _, _, _⟩) rfl (fun K hK => ?_) AllReadyH.nil
              go_simp
              (with_reducible refine (rhas_is true s r.m hh hl _ hs HT.out hq).mono ?_)
              rintro e w5 ⟨rfl, hb⟩
              (try dsimp only)
              refine hK.out _ _ (HKP.out _ (hHeld.1.trans (hb.mono hHeld.1.size))) (fun hNext => ?_)
              clear hK K hHeld
              have hHeld := hNext
              clear hNext
              try simp only [Act.put, List.setIfInBounds_toArray, List.set_cons_zero, List.set_cons_succ]
              refine wpAnyH_take (i := 5) (oi := ⟨some 30, _, _, _, _, _⟩) (v := ?ve5) rfl (by kernel_rfl) (by kernel_rfl) (by kernel_rfl) (fun _ _ _ h => h) (Or.inl ⟨by rfl, ?ye5⟩) hHeld ?re5
              case ye5 => (intro w' hSw; (try dsimp only at hSw); go_simp; try (with_reducible rfl))
              simp only [Act.put, List.setIfInBounds_toArray, List.set_cons_zero, List.set_cons_succ]
              refine wpAnyH_take (i := 6) (oi := ⟨some 31, _, _, _, _, _⟩) (v := ?ve6) rfl (by kernel_rfl) (by kernel_rfl) (by kernel_rfl) (fun _ _ _ h => h) (Or.inl ⟨by rfl, ?ye6⟩) hHeld ?re6
              case ye6 => (intro w' hSw; (try dsimp only at hSw); go_simp; try (with_reducible rfl))
              simp only [Act.put, List.setIfInBounds_toArray, List.set_cons_zero, List.set_cons_succ]
              refine wpAnyH_take (i := 7) (oi := ⟨some 32, _, _, _, _, _⟩) (v := ?ve7) rfl (by kernel_rfl) (by kernel_rfl) (by kernel_rfl) (fun _ _ _ h => h) (Or.inl ⟨by rfl, ?ye7⟩) hHeld ?re7
              case ye7 => (intro w' hSw; (try dsimp only at hSw); go_simp; try (with_reducible rfl))
              simp only [Act.put, List.setIfInBounds_toArray, List.set_cons_zero, List.set_cons_succ]
              refine wpAnyH_take (i := 8) (oi := ⟨some 33, _, _, _, _, _⟩) (v := ?ve8) rfl (by kernel_rfl) (by kernel_rfl) (by kernel_rfl) (fun _ _ _ h => h) (Or.inl ⟨by rfl, ?ye8⟩) hHeld ?re8
              case ye8 => (intro w' hSw; (try dsimp only at hSw); go_simp; try (with_reducible rfl))
              simp only [Act.put, List.setIfInBounds_toArray, List.set_cons_zero, List.set_cons_succ]
              refine wpAnyH_take (i := 9) (oi := ⟨some 34, _, _, _, _, _⟩) (v := ?ve9) rfl (by kernel_rfl) (by kernel_rfl) (by kernel_rfl) (fun _ _ _ h => h) (Or.inl ⟨by rfl, ?ye9⟩) hHeld ?re9
              case ye9 => (intro w' hSw; (try dsimp only at hSw); go_simp; try (with_reducible rfl))
              simp only [Act.put, List.setIfInBounds_toArray, List.set_cons_zero, List.set_cons_succ]
              refine wpAnyH_take (i := 10) (oi := ⟨some 35, _, _, _, _, _⟩) (v := ?ve10) rfl (by kernel_rfl) (by kernel_rfl) (by kernel_rfl) (fun _ _ _ h => h) (Or.inl ⟨by rfl, ?ye10⟩) hHeld ?re10
              case ye10 => (intro w' hSw; (try dsimp only at hSw); go_simp; try (with_reducible rfl))
              simp only [Act.put, List.setIfInBounds_toArray, List.set_cons_zero, List.set_cons_succ]
              refine wpAnyH_take (i := 11) (oi := ⟨some 36, _, _, _, _, _⟩) (v := ?ve11) rfl (by kernel_rfl) (by kernel_rfl) (by kernel_rfl) (fun _ _ _ h => h) (Or.inl ⟨by rfl, ?ye11⟩) hHeld ?re11
              case ye11 => (intro w' hSw; (try dsimp only at hSw); go_simp; try (with_reducible rfl))
              simp only [Act.put, List.setIfInBounds_toArray, List.set_cons_zero, List.set_cons_succ]
              refine wpAnyH_take (i := 12) (oi := ⟨some 37, _, _, _, _, _⟩) (v := ?ve12) rfl (by kernel_rfl) (by kernel_rfl) (by kernel_rfl) (fun _ _ _ h => h) (Or.inl ⟨by rfl, ?ye12⟩) hHeld ?re12
              case ye12 => (intro w' hSw; (try dsimp only at hSw); go_simp; try (with_reducible rfl))
              simp only [Act.put, List.setIfInBounds_toArray, List.set_cons_zero, List.set_cons_succ]
              refine wpAnyH_take (i := 13) (oi := ⟨some 38, _, _, _, _, _⟩) (v := ?ve13) rfl (by kernel_rfl) (by kernel_rfl) (by kernel_rfl) (fun _ _ _ h => h) (Or.inl ⟨by rfl, ?ye13⟩) hHeld ?re13
              case ye13 => (intro w' hSw; (try dsimp only at hSw); go_simp; try (with_reducible rfl))
              simp only [Act.put, List.setIfInBounds_toArray, List.set_cons_zero, List.set_cons_succ]
              refine wpAnyH_take (i := 14) (oi := ⟨some 39, _, _, _, _, _⟩) (v := ?ve14) rfl (by kernel_rfl) (by kernel_rfl) (by kernel_rfl) (fun _ _ _ h => h) (Or.inl ⟨by rfl, ?ye14⟩) hHeld ?re14
              case ye14 => (intro w' hSw; (try dsimp only at hSw); go_simp; try (with_reducible rfl))
              simp only [Act.put, List.setIfInBounds_toArray, List.set_cons_zero, List.set_cons_succ]
              refine wpAnyH_take (i := 15) (oi := ⟨some 40, _, _, _, _, _⟩) (v := ?ve15) rfl (by kernel_rfl) (by kernel_rfl) (by kernel_rfl) (fun _ _ _ h => h) (Or.inl ⟨by rfl, ?ye15⟩) hHeld ?re15
              case ye15 => (intro w' hSw; (try dsimp only at hSw); go_simp; try (with_reducible rfl))
              simp only [Act.put, List.setIfInBounds_toArray, List.set_cons_zero, List.set_cons_succ]
              refine wpAnyH_take (i := 16) (oi := ⟨some 41, _, _, _, _, _⟩) (v := ?ve16) rfl (by kernel_rfl) (by kernel_rfl) (by kernel_rfl) (fun _ _ _ h => h) (Or.inl ⟨by rfl, ?ye16⟩) hHeld ?re16
              case ye16 => (intro w' hSw; (try dsimp only at hSw); go_simp; try (with_reducible rfl))
              simp only [Act.put, List.setIfInBounds_toArray, List.set_cons_zero, List.set_cons_succ]
              refine wpAnyH_take (i := 17) (oi := ⟨some 42, _, _, _, _, _⟩) (v := ?ve17) rfl (by kernel_rfl) (by kernel_rfl) (by kernel_rfl) (fun _ _ _ h => h) (Or.inl ⟨by rfl, ?ye17⟩) hHeld ?re17
              case ye17 => (intro w' hSw; (try dsimp only at hSw); go_simp; try (with_reducible rfl))
              simp only [Act.put, List.setIfInBounds_toArray, List.set_cons_zero, List.set_cons_succ]
              refine wpAnyH_take (i := 18) (oi := ⟨some 43, _, _, _, _, _⟩) (v := ?ve18) rfl (by kernel_rfl) (by kernel_rfl) (by kernel_rfl) (fun _ _ _ h => h) (Or.inl ⟨by rfl, ?ye18⟩) hHeld ?re18
              case ye18 => (intro w' hSw; (try dsimp only at hSw); go_simp; try (with_reducible rfl))
              simp only [Act.put, List.setIfInBounds_toArray, List.set_cons_zero, List.set_cons_succ]
              refine wpAnyH_take (i := 19) (oi := ⟨some 44, _, _, _, _, _⟩) (v := ?ve19) rfl (by kernel_rfl) (by kernel_rfl) (by kernel_rfl) (fun _ _ _ h => h) (Or.inl ⟨by rfl, ?ye19⟩) hHeld ?re19
              case ye19 => (intro w' hSw; (try dsimp only at hSw); go_simp; try (with_reducible rfl))
              simp only [Act.put, List.setIfInBounds_toArray, List.set_cons_zero, List.set_cons_succ]
              refine wpAnyH_take (i := 20) (oi := ⟨some 45, _, _, _, _, _⟩) (v := ?ve20) rfl (by kernel_rfl) (by kernel_rfl) (by kernel_rfl) (fun _ _ _ h => h) (Or.inl ⟨by rfl, ?ye20⟩) hHeld ?re20
              case ye20 => (intro w' hSw; (try dsimp only at hSw); go_simp; try (with_reducible rfl))
              simp only [Act.put, List.setIfInBounds_toArray, List.set_cons_zero, List.set_cons_succ]
              refine wpAnyH_take (i := 21) (oi := ⟨some 46, _, _, _, _, _⟩) (v := ?ve21) rfl (by kernel_rfl) (by kernel_rfl) (by kernel_rfl) (fun _ _ _ h => h) (Or.inl ⟨by rfl, ?ye21⟩) hHeld ?re21
              case ye21 => (intro w' hSw; (try dsimp only at hSw); go_simp; try (with_reducible rfl))
              simp only [Act.put, List.setIfInBounds_toArray, List.set_cons_zero, List.set_cons_succ]
              refine wpAnyH_take (i := 22) (oi := ⟨some 47, _, _, _, _, _⟩) (v := ?ve22) rfl (by kernel_rfl) (by kernel_rfl) (by kernel_rfl) (fun _ _ _ h => h) (Or.inl ⟨by rfl, ?ye22⟩) hHeld ?re22
              case ye22 => (intro w' hSw; (try dsimp only at hSw); go_simp; try (with_reducible rfl))
              simp only [Act.put, List.setIfInBounds_toArray, List.set_cons_zero, List.set_cons_succ]
              refine wpAnyH_done (by kernel_rfl) ?_ _
              have HB3 := Lib.hid (HB2.out.trans (hHeld.1.mono HB2.out.size))
              have HX3 := Lib.hid (HX2.out.on hHeld.1)
              clear hHeld HKP HB2 HX2
              go_wp2
              go_roundg (L.length - (k + 1))
              case measure => omega
              case rel => exact ⟨k + 1, some z, by omega, rfl, by go_num, rfl, HF.out.keep HG.out, HB3, HX3⟩
    · have hltz : ¬ (k : Int) < (L.length : Int) := by omega
      obtain rfl : k = L.length := by omega
      have HE : Hid (fndI L hh hl = z) := HF.out.last
      have hz := fun b (e : z = some b) => (show FstIs L hh hl L.length (some b) from e ▸ HF.out).lt
      clear HF HA HX
      cases z with
      | none =>
        have hfr : fr none = -1 := rfl
        rw [hfr]
        go_wp2
        go_ret2
        exact ⟨by rw [HE.out]; rfl, HB.out⟩
      | some z =>
        have hfr : fr (some z) = (z : Int) := rfl
        rw [hfr]
        have hz0 : ¬ (z : Int) < 0 := by omega
        clear hz
        go_wp2
        go_ret2
        exact ⟨by rw [HE.out]; rfl, HB.out⟩
end Go.Proofs

namespace Go.Proofs.Hd
open Go.RowKit
/-- Texts were returned, and OK; or nothing, and ErrCubes. -/
def OptS2 (w : World) (o : Option (List Cb)) (e : Ending) (w' : World) : Prop := (∀ R, o = some R → ∃ v, e = .returned (.tuple #[v, .int .i64 0]) ∧ PlT w' v R ∧ Below w.heap.size w w') ∧ (o = none → e = .returned (.tuple #[.slice none 0 0, .int .i64 10]) ∧ Below w.heap.size w w')
theorem own_PlK {w : World} {base : Nat} {t : TypeId} {v : Value} {ks : List Nat} (h : w.ownsRow base t 1 v ks.length (ints ks)) : PlK w v ks := by
  rcases h.2 with ⟨rfl, hn⟩ | ⟨g, cap, cur, rfl, hb, hg, h1, h2, _⟩
  · exact ⟨none, 0, by rw [hn], by omega, Nat.zero_le _, fun hne => absurd (List.eq_nil_of_length_eq_zero hn) hne⟩
  · refine ⟨_, cap, rfl, h1, h2, fun _ => ⟨g, rfl, (Array.getElem?_eq_some_iff.1 hg).1, fun j k hk => ?_⟩⟩
    have hj : j < ks.length := (List.getElem?_eq_some_iff.1 hk).1
    rw [h.cellAt j (by omega)]
    unfold ints
    rw [List.getElem?_map, hk]
    rfl
theorem plT_one (w : World) (c : Cb) (s : ByteArray) (h : txt c = s) : PlT (w.alloc (.cells #[.string s] 9)) (.slice (some ⟨w.heap.size, 0, none⟩) 1 1) [c] := by
  refine .inr ⟨w.heap.size, 1, rfl, by simp, fun k d hk => ?_⟩
  have B : Blk (w.alloc (.cells #[.string s] 9)) w.heap.size 9 #[.string s] := Blk.new w _ _
  cases k with
  | zero => simp at hk; subst hk; rw [h]; exact B.cell 0
  | succ k => simp at hk
theorem sndA_take {L : List Rl} {k : Nat} {r : Rl} (hr : L[k]? = some r) (h : sndA (L.take k) = true) (hs : r.m.snd = true) : sndA (L.take (k + 1)) = true := by
  unfold sndA at *
  rw [List.take_add_one, hr, List.all_append, h]
  simp [hs]
theorem sndA_no {L : List Rl} {k : Nat} {r : Rl} (hr : L[k]? = some r) (hs : r.m.snd = false) : sndA L = false := by
  cases h : sndA L with
  | false => rfl
  | true => rw [sndA_at h hr] at hs; cases hs
end Go.Proofs.Hd
namespace Go.Proofs
open Go.RowKit Go.Proofs.Hd Go.Sort Go.Shelf Go.Lib
attribute [local go_sem] uv_nonneg
set_option maxHeartbeats 4000000 in
set_option maxRecDepth 100000 in
theorem rwith_bad (v : Value) (L : List Rl) (P : Option Addr) (pn pc : Nat) (s0 : ByteArray) (w : World) (hn : L.length ≤ 1000000) (hs : sndA L = false) (hv : Ru w v L) :
    Calls Try.prog 29 #[v, .slice P pn pc, .string s0] w fun e w' => e = .returned (.tuple #[.slice none 0 0, .int .i64 2]) ∧ Below w.heap.size w w' := by
  obtain ⟨A, cap, rfl, hA⟩ := hv.form
  have hlz : (L.length : Int) ≤ 1000000 := by omega
  have HA := Lib.hid hA
  have HS := Lib.hid hs
  have HB := Lib.hid (below1 w (.cells #[.string s0] 9))
  clear hv hA hs
  go_enter Try.func29, Try.ntmps29
  go_wp2
  go_loopg [9, 10, 11] L.length (fun gk s9 _ _ wr => ∃ k : Nat, k ≤ L.length ∧ gk = L.length - k ∧ s9 = .int .i64 k ∧ Hid (sndA (L.take k) = true) ∧ Hid (Below w.heap.size w wr))
  case atStart => exact ⟨0, Nat.zero_le _, rfl, rfl, rfl, HB⟩
  case round =>
    clear HB
    obtain ⟨k, hk, rfl, rfl, HK, HB⟩ := hrel
    by_cases hlt : k < L.length
    · have hltz : (k : Int) < (L.length : Int) := by omega
      obtain ⟨r, hr⟩ : ∃ r, L[k]? = some r := ⟨_, List.getElem?_eq_getElem hlt⟩
      obtain ⟨b, off, rfl, hb0, hpc⟩ := HA.out (by intro h; rw [h] at hlt; simp at hlt)
      obtain ⟨_, c1, c2, c3, c4, _⟩ := ((hpc k r hr).on HB.out).out
      have HR := Lib.hid hr
      clear hr hpc
      cases hq : r.m.snd with
      | false =>
        go_wp2_with fail
        (with_reducible refine (text_any false r.m _ hq).mono ?_)
        rintro e w2 ⟨s, rfl, hb2⟩
        have B2 := HB.out.trans (hb2.mono HB.out.size)
        clear HB hb2 c1 c2 c3 c4
        go_wp2
        go_ret2
        exact ⟨rfl, B2⟩
      | true =>
        have HK2 := Lib.hid (sndA_take HR.out HK.out hq)
        go_wp2_with fail
        (with_reducible refine (text_any true r.m _ hq).mono ?_)
        rintro e w2 ⟨s, rfl, hb2⟩
        have B2 := Lib.hid (HB.out.trans (hb2.mono HB.out.size))
        clear HB hb2 c1 c2 c3 c4
        go_wp2
        go_roundg (L.length - (k + 1))
        case measure => omega
        case rel => exact ⟨k + 1, by omega, rfl, by go_num, HK2, B2⟩
    · exfalso
      have e := HK.out
      rw [List.take_of_length_le (by omega), HS.out] at e
      cases e
set_option maxHeartbeats 4000000 in
set_option maxRecDepth 100000 in
theorem rwith_any (v pv : Value) (L : List Rl) (ks : List Nat) (c : Cb) (s0 : ByteArray) (w : World) (hn : L.length ≤ 1000000) (hkl : ks.length ≤ 1000000) (hk : ∀ k ∈ ks, k < L.length) (hs : sndA L = true) (hc : c.snd = true) (hs0 : txt c = s0) (hv : Ru w v L) (hp : PlK w pv ks) :
    Calls Try.prog 29 #[v, pv, .string s0] w (OptS2 w (pastL L ks [c])) := by
  obtain ⟨A, cap, rfl, hA⟩ := hv.form
  obtain ⟨P, cp, rfl, hp1, hp2, hP⟩ := hp
  have hlz : (L.length : Int) ≤ 1000000 := by omega
  have hkz : (ks.length : Int) ≤ 1000000 := by omega
  have HA := Lib.hid hA
  have HP := Lib.hid hP
  have HM := Lib.hid hk
  have HS := Lib.hid hs
  have HB := Lib.hid (below1 w (.cells #[.string s0] 9))
  have HT := Lib.hid (plT_one w c s0 hs0)
  have hsc := Lib.hid (snd_one hc)
  clear hv hA hs hP hk hc hs0
  go_enter Try.func29, Try.ntmps29
  go_wp2
  go_loopg [9, 10, 11] L.length (fun gk s9 _ _ wr => ∃ k : Nat, k ≤ L.length ∧ gk = L.length - k ∧ s9 = .int .i64 k ∧ Hid (Below w.heap.size w wr) ∧ Hid (PlT wr (.slice (some ⟨w.heap.size, 0, none⟩) 1 1) [c]))
  case atStart => exact ⟨0, Nat.zero_le _, rfl, rfl, HB, HT⟩
  case round =>
    clear HB HT
    obtain ⟨k, hk, rfl, rfl, HB, HT⟩ := hrel
    by_cases hlt : k < L.length
    · have hltz : (k : Int) < (L.length : Int) := by omega
      obtain ⟨r, hr⟩ : ∃ r, L[k]? = some r := ⟨_, List.getElem?_eq_getElem hlt⟩
      obtain ⟨b, off, rfl, hb0, hpc⟩ := HA.out (by intro h; rw [h] at hlt; simp at hlt)
      obtain ⟨_, c1, c2, c3, c4, _⟩ := ((hpc k r hr).on HB.out).out
      have hq := sndA_at HS.out hr
      clear hr hpc
      go_wp2_with fail
      (with_reducible refine (text_any true r.m _ hq).mono ?_)
      rintro e w2 ⟨s, rfl, hb2⟩
      have B2 := Lib.hid (HB.out.trans (hb2.mono HB.out.size))
      have T2 := Lib.hid (HT.out.on hb2)
      clear HB HT hb2 c1 c2 c3 c4
      go_wp2
      go_roundg (L.length - (k + 1))
      case measure => omega
      case rel => exact ⟨k + 1, by omega, rfl, by go_num, B2, T2⟩
    · have hltz : ¬ (k : Int) < (L.length : Int) := by omega
      go_wp2
      go_loopg [8, 12, 13, 14, 15, 16] ks.length (fun gj s8 s12 _ _ _ _ wj => ∃ (j : Nat) (cur : List Cb), j ≤ ks.length ∧ gj = ks.length - j ∧ s12 = .int .i64 j ∧ Hid (sndL cur = true) ∧ Hid (pastL L ks [c] = pastL L (ks.drop j) cur) ∧ Hid (Below w.heap.size w wj) ∧ Hid (PlT wj s8 cur))
      case atStart => exact ⟨0, [c], Nat.zero_le _, rfl, rfl, hsc, rfl, HB, HT⟩
      case round =>
        clear hsc HB HT
        obtain ⟨j, cur, hj, rfl, rfl, HC, HE, HB, HT⟩ := hrel
        by_cases hjt : j < ks.length
        · have hjz : (j : Int) < (ks.length : Int) := by omega
          obtain ⟨q, hq⟩ : ∃ q, ks[j]? = some q := ⟨_, List.getElem?_eq_getElem hjt⟩
          have hqn : q < L.length := HM.out q (List.mem_of_getElem? hq)
          have hqz : (q : Int) < (L.length : Int) := by omega
          obtain ⟨r, hr⟩ : ∃ r, L[q]? = some r := ⟨_, List.getElem?_eq_getElem hqn⟩
          obtain ⟨b, o, rfl, hb0, hpc⟩ := HA.out (by intro h; rw [h] at hqn; simp at hqn)
          obtain ⟨g, rfl, hg, hpg⟩ := HP.out (by intro h; rw [h] at hjt; simp at hjt)
          obtain ⟨_, c1, c2, c3, c4, _⟩ := ((hpc q r hr).on HB.out).out
          have hcell := on_some HB.out (hpg j q hq)
          have hsr := sndA_at HS.out hr
          have HN : Hid (pastL L ks [c] = (lessL cur [r.m]).bind (pastL L (ks.drop (j + 1)))) := by show _ = _; rw [HE.out, pastL_drop hq, at_pos hr]
          obtain ⟨s, hst⟩ : ∃ s, txt r.m = s := ⟨_, rfl⟩
          have HST := Lib.hid hst
          clear hq hr hpc hpg HE hst
          go_wp2_with fail
          (with_reducible refine (text_s s r.m _ hsr HST.out).mono ?_)
          rintro e w2 ⟨rfl, hb2⟩
          have B2 := HB.out.trans (hb2.mono HB.out.size)
          have hb3 := below1 w2 (.cells #[.string s] 9)
          have HB3 := Lib.hid (B2.trans (hb3.mono B2.size))
          have hcon := rless3_c _ (.slice (some ⟨w2.heap.size, 0, none⟩) 1 1) cur [r.m] (w2.alloc (.cells #[.string s] 9)) (sndL_len HC.out) (by simp) (sndL_all HC.out) (by intro d hd; simp at hd; subst hd; exact hsr) ((HT.out.on hb2).on hb3) (plT_one w2 r.m s HST.out)
          clear HB HT hb2 B2 hb3 c1 c2 c3 c4 hcell HST
          cases hls : lessL cur [r.m] with
          | some R =>
            have hcon1 := hcon.mono fun e w' h => h.1 R hls
            have HC2 := Lib.hid (less_one hls)
            have HE2 : Hid (pastL L ks [c] = pastL L (ks.drop (j + 1)) R) := by show _ = _; rw [HN.out, hls]; rfl
            clear hcon hls HN HC
            go_wp2_with fail
            (with_reducible refine hcon1.mono ?_)
            rintro e w4 ⟨v4, rfl, T4, hb4⟩
            have HT4 := Lib.hid T4
            have HB4 := Lib.hid (HB3.out.trans (hb4.mono HB3.out.size))
            clear HB3 hb4 T4 hcon1
            go_wp2
            go_roundg (ks.length - (j + 1))
            case measure => omega
            case rel => exact ⟨j + 1, R, by omega, rfl, by go_num, HC2, HE2, HB4, HT4⟩
          | none =>
            have hcon1 := hcon.mono fun e w' h => h.2 hls
            have HE2 : Hid (pastL L ks [c] = none) := by show _ = _; rw [HN.out, hls]; rfl
            clear hcon hls HN HC
            go_wp2_with fail
            (with_reducible refine hcon1.mono ?_)
            rintro e w4 ⟨rfl, hb4⟩
            have HB4 := HB3.out.trans (hb4.mono HB3.out.size)
            clear HB3 hb4 hcon1
            go_wp2
            go_ret2
            exact ⟨fun R hR => (by rw [HE2.out] at hR; cases hR), fun _ => ⟨rfl, HB4⟩⟩
        · have hjz : ¬ (j : Int) < (ks.length : Int) := by omega
          have HN : Hid (pastL L ks [c] = some cur) := by
            show _ = _
            rw [HE.out, List.drop_eq_nil_of_le (by omega), pastL]
          clear HE HC HA HP
          go_wp2
          go_ret2
          exact ⟨fun R hR => (by rw [HN.out] at hR; injection hR with hR; subst hR; exact ⟨_, rfl, HT.out, HB.out⟩), fun hn => (by rw [HN.out] at hn; cases hn)⟩
set_option maxHeartbeats 4000000 in
set_option maxRecDepth 100000 in
theorem rseen_some (v : Value) (L : List Rl) (n : Nat) (r : Rl) (w : World) (hl : L.length ≤ 1000) (hr : L[n]? = some r) (hs : sndA L = true) (R : List Cb) (hR : seenL L n = some R) (hv : Ru w v L) : Calls Try.prog 16 #[v, .int .i64 n] w fun e w' => ∃ v', e = .returned (.tuple #[v', .int .i64 0]) ∧ PlT w' v' R ∧ Below w.heap.size w w' := by
  have hcon1 := order_r v L w (by omega) hv
  have hnl : n < L.length := (List.getElem?_eq_some_iff.1 hr).1
  obtain ⟨A, cap, rfl, hA⟩ := hv.form
  obtain ⟨b, o, rfl, hb0, hc⟩ := hA (by intro e; rw [e] at hnl; simp at hnl)
  obtain ⟨kk, hk, hnb, hks⟩ := seen_at hnl
  have hkl : kk < L.length := by have := (List.getElem?_eq_some_iff.1 hk).1; rw [ordI_len] at this; exact this
  have hlz : (L.length : Int) ≤ 1000 := by omega
  have hnz : (n : Int) < (L.length : Int) := by omega
  have hq := sndA_at hs hr
  have HR := Lib.hid hR
  have HV := Lib.hid hv
  have HS := Lib.hid hs
  have Hr := Lib.hid hr
  have HC := Lib.hid (hc n r hr)
  have HK := Lib.hid hk
  have HNB := Lib.hid hnb
  have HKS := Lib.hid hks
  obtain ⟨s, hst⟩ : ∃ s, txt r.m = s := ⟨_, rfl⟩
  have HST := Lib.hid hst
  clear hv hc hk hnb hks hA hs hr hst hR
  go_enter Try.func16, Try.ntmps16
  go_wp2_with fail
  (with_reducible refine hcon1.mono ?_)
  rintro e w1 ⟨v1, rfl, O1, B1⟩
  have HPK := Lib.hid (own_PlK O1)
  have HB1 := Lib.hid B1
  obtain ⟨A1, cp, rfl, hcp, hcm, hf⟩ := own_PlK O1
  obtain ⟨g, rfl, hg, hcells⟩ := hf (by intro e; have := ordI_len L; rw [e] at this; simp at this; omega)
  rw [ordI_len] at hcp HPK
  rw [ordI_len]
  have HG := Lib.hid hcells
  have hkc : (kk : Int) ≤ (cp : Int) := by omega
  clear hf hcells O1 B1 hcon1
  go_wp2
  go_loopg [7] kk (fun gk s7 wr => ∃ j : Nat, j ≤ kk ∧ gk = kk - j ∧ s7 = .int .i64 j ∧ wr = w1)
  case atStart => exact ⟨0, Nat.zero_le _, rfl, rfl, rfl⟩
  case round =>
    obtain ⟨j, hj, rfl, rfl, rfl⟩ := hrel
    have hjz : (j : Int) < (L.length : Int) := by omega
    obtain ⟨m, hm⟩ : ∃ m, (ordI L)[j]? = some m := ⟨_, List.getElem?_eq_getElem (by rw [ordI_len]; omega)⟩
    have hcell := HG.out j m hm
    rcases Nat.lt_or_ge j kk with h1 | h1
    · have hne := HNB.out j m h1 hm
      have hnz2 : ¬ (m : Int) = (n : Int) := by omega
      clear hm
      go_wp2
      go_roundg (kk - (j + 1))
      case measure => omega
      case rel => exact ⟨j + 1, by omega, rfl, by go_num, rfl⟩
    · obtain rfl : j = kk := by omega
      have e := HK.out
      rw [hm] at e
      injection e with e
      subst e
      clear hm
      obtain ⟨_, c1, c2, c3, c4, _⟩ := (HC.out.on HB1.out).out
      have HPT := Lib.hid (HPK.out.take (k := j) (by rw [ordI_len]; omega))
      go_wp2_with fail
      (with_reducible refine (text_s s r.m _ hq HST.out).mono ?_)
      rintro e w3 ⟨rfl, hb3⟩
      have B3 := Lib.hid (HB1.out.trans (hb3.mono HB1.out.size))
      have hcon3 := (rwith_any _ _ L ((ordI L).take j) r.m s w3 (by omega) (by rw [List.length_take, ordI_len]; omega) (fun k hk => ordI_lt (List.mem_of_mem_take hk)) HS.out hq HST.out (HV.out.on B3.out) (HPT.out.on hb3)).mono fun e w' h => h.1 R (by rw [HKS.out]; have := HR.out; unfold seenL at this; rw [at_pos Hr.out] at this; exact this)
      clear HPT hb3 HB1 c1 c2 c3 c4 hcell
      go_wp2_with fail
      (with_reducible refine hcon3.mono ?_)
      rintro e w4 ⟨v4, rfl, T4, hb4⟩
      have B4 := B3.out.trans (hb4.mono B3.out.size)
      clear hcon3 B3 hb4
      go_wp2
      go_ret2
      exact ⟨_, rfl, T4, B4⟩
set_option maxHeartbeats 4000000 in
set_option maxRecDepth 100000 in
theorem rseen_none (v : Value) (L : List Rl) (n : Nat) (r : Rl) (w : World) (hl : L.length ≤ 1000) (hr : L[n]? = some r) (hs : sndA L = true) (hR : seenL L n = none) (hv : Ru w v L) : Calls Try.prog 16 #[v, .int .i64 n] w fun e w' => e = .returned (.tuple #[.slice none 0 0, .int .i64 10]) ∧ Below w.heap.size w w' := by
  have hcon1 := order_r v L w (by omega) hv
  have hnl : n < L.length := (List.getElem?_eq_some_iff.1 hr).1
  obtain ⟨A, cap, rfl, hA⟩ := hv.form
  obtain ⟨b, o, rfl, hb0, hc⟩ := hA (by intro e; rw [e] at hnl; simp at hnl)
  obtain ⟨kk, hk, hnb, hks⟩ := seen_at hnl
  have hkl : kk < L.length := by have := (List.getElem?_eq_some_iff.1 hk).1; rw [ordI_len] at this; exact this
  have hlz : (L.length : Int) ≤ 1000 := by omega
  have hnz : (n : Int) < (L.length : Int) := by omega
  have hq := sndA_at hs hr
  have HR := Lib.hid hR
  have HV := Lib.hid hv
  have HS := Lib.hid hs
  have Hr := Lib.hid hr
  have HC := Lib.hid (hc n r hr)
  have HK := Lib.hid hk
  have HNB := Lib.hid hnb
  have HKS := Lib.hid hks
  obtain ⟨s, hst⟩ : ∃ s, txt r.m = s := ⟨_, rfl⟩
  have HST := Lib.hid hst
  clear hv hc hk hnb hks hA hs hr hst hR
  go_enter Try.func16, Try.ntmps16
  go_wp2_with fail
  (with_reducible refine hcon1.mono ?_)
  rintro e w1 ⟨v1, rfl, O1, B1⟩
  have HPK := Lib.hid (own_PlK O1)
  have HB1 := Lib.hid B1
  obtain ⟨A1, cp, rfl, hcp, hcm, hf⟩ := own_PlK O1
  obtain ⟨g, rfl, hg, hcells⟩ := hf (by intro e; have := ordI_len L; rw [e] at this; simp at this; omega)
  rw [ordI_len] at hcp HPK
  rw [ordI_len]
  have HG := Lib.hid hcells
  have hkc : (kk : Int) ≤ (cp : Int) := by omega
  clear hf hcells O1 B1 hcon1
  go_wp2
  go_loopg [7] kk (fun gk s7 wr => ∃ j : Nat, j ≤ kk ∧ gk = kk - j ∧ s7 = .int .i64 j ∧ wr = w1)
  case atStart => exact ⟨0, Nat.zero_le _, rfl, rfl, rfl⟩
  case round =>
    obtain ⟨j, hj, rfl, rfl, rfl⟩ := hrel
    have hjz : (j : Int) < (L.length : Int) := by omega
    obtain ⟨m, hm⟩ : ∃ m, (ordI L)[j]? = some m := ⟨_, List.getElem?_eq_getElem (by rw [ordI_len]; omega)⟩
    have hcell := HG.out j m hm
    rcases Nat.lt_or_ge j kk with h1 | h1
    · have hne := HNB.out j m h1 hm
      have hnz2 : ¬ (m : Int) = (n : Int) := by omega
      clear hm
      go_wp2
      go_roundg (kk - (j + 1))
      case measure => omega
      case rel => exact ⟨j + 1, by omega, rfl, by go_num, rfl⟩
    · obtain rfl : j = kk := by omega
      have e := HK.out
      rw [hm] at e
      injection e with e
      subst e
      clear hm
      obtain ⟨_, c1, c2, c3, c4, _⟩ := (HC.out.on HB1.out).out
      have HPT := Lib.hid (HPK.out.take (k := j) (by rw [ordI_len]; omega))
      go_wp2_with fail
      (with_reducible refine (text_s s r.m _ hq HST.out).mono ?_)
      rintro e w3 ⟨rfl, hb3⟩
      have B3 := Lib.hid (HB1.out.trans (hb3.mono HB1.out.size))
      have hcon3 := (rwith_any _ _ L ((ordI L).take j) r.m s w3 (by omega) (by rw [List.length_take, ordI_len]; omega) (fun k hk => ordI_lt (List.mem_of_mem_take hk)) HS.out hq HST.out (HV.out.on B3.out) (HPT.out.on hb3)).mono fun e w' h => h.2 (by rw [HKS.out]; have := HR.out; unfold seenL at this; rw [at_pos Hr.out] at this; exact this)
      clear HPT hb3 HB1 c1 c2 c3 c4 hcell
      go_wp2_with fail
      (with_reducible refine hcon3.mono ?_)
      rintro e w4 ⟨rfl, hb4⟩
      have B4 := B3.out.trans (hb4.mono B3.out.size)
      clear hcon3 B3 hb4
      go_wp2
      go_ret2
      exact ⟨rfl, B4⟩
set_option maxHeartbeats 4000000 in
set_option maxRecDepth 100000 in
theorem rseen_bad (v : Value) (L : List Rl) (n : Nat) (r : Rl) (w : World) (hl : L.length ≤ 1000) (hr : L[n]? = some r) (hs : sndA L = false) (hq : r.m.snd = true) (hv : Ru w v L) : Calls Try.prog 16 #[v, .int .i64 n] w fun e w' => e = .returned (.tuple #[.slice none 0 0, .int .i64 2]) ∧ Below w.heap.size w w' := by
  have hcon1 := order_r v L w (by omega) hv
  have hnl : n < L.length := (List.getElem?_eq_some_iff.1 hr).1
  obtain ⟨A, cap, rfl, hA⟩ := hv.form
  obtain ⟨b, o, rfl, hb0, hc⟩ := hA (by intro e; rw [e] at hnl; simp at hnl)
  obtain ⟨kk, hk, hnb, hks⟩ := seen_at hnl
  have hkl : kk < L.length := by have := (List.getElem?_eq_some_iff.1 hk).1; rw [ordI_len] at this; exact this
  have hlz : (L.length : Int) ≤ 1000 := by omega
  have hnz : (n : Int) < (L.length : Int) := by omega
  have HV := Lib.hid hv
  have HS := Lib.hid hs
  have Hr := Lib.hid hr
  have HC := Lib.hid (hc n r hr)
  have HK := Lib.hid hk
  have HNB := Lib.hid hnb
  have HKS := Lib.hid hks
  obtain ⟨s, hst⟩ : ∃ s, txt r.m = s := ⟨_, rfl⟩
  have HST := Lib.hid hst
  clear hv hc hk hnb hks hA hs hr hst
  go_enter Try.func16, Try.ntmps16
  go_wp2_with fail
  (with_reducible refine hcon1.mono ?_)
  rintro e w1 ⟨v1, rfl, O1, B1⟩
  have HPK := Lib.hid (own_PlK O1)
  have HB1 := Lib.hid B1
  obtain ⟨A1, cp, rfl, hcp, hcm, hf⟩ := own_PlK O1
  obtain ⟨g, rfl, hg, hcells⟩ := hf (by intro e; have := ordI_len L; rw [e] at this; simp at this; omega)
  rw [ordI_len] at hcp HPK
  rw [ordI_len]
  have HG := Lib.hid hcells
  have hkc : (kk : Int) ≤ (cp : Int) := by omega
  clear hf hcells O1 B1 hcon1
  go_wp2
  go_loopg [7] kk (fun gk s7 wr => ∃ j : Nat, j ≤ kk ∧ gk = kk - j ∧ s7 = .int .i64 j ∧ wr = w1)
  case atStart => exact ⟨0, Nat.zero_le _, rfl, rfl, rfl⟩
  case round =>
    obtain ⟨j, hj, rfl, rfl, rfl⟩ := hrel
    have hjz : (j : Int) < (L.length : Int) := by omega
    obtain ⟨m, hm⟩ : ∃ m, (ordI L)[j]? = some m := ⟨_, List.getElem?_eq_getElem (by rw [ordI_len]; omega)⟩
    have hcell := HG.out j m hm
    rcases Nat.lt_or_ge j kk with h1 | h1
    · have hne := HNB.out j m h1 hm
      have hnz2 : ¬ (m : Int) = (n : Int) := by omega
      clear hm
      go_wp2
      go_roundg (kk - (j + 1))
      case measure => omega
      case rel => exact ⟨j + 1, by omega, rfl, by go_num, rfl⟩
    · obtain rfl : j = kk := by omega
      have e := HK.out
      rw [hm] at e
      injection e with e
      subst e
      clear hm
      obtain ⟨_, c1, c2, c3, c4, _⟩ := (HC.out.on HB1.out).out
      have HPT := Lib.hid (HPK.out.take (k := j) (by rw [ordI_len]; omega))
      go_wp2_with fail
      (with_reducible refine (text_s s r.m _ hq HST.out).mono ?_)
      rintro e w3 ⟨rfl, hb3⟩
      have B3 := Lib.hid (HB1.out.trans (hb3.mono HB1.out.size))
      have hcon3 := rwith_bad _ L (some ⟨g, 0, none⟩) j cp s w3 (by omega) HS.out (HV.out.on B3.out)
      clear HPT hb3 HB1 c1 c2 c3 c4 hcell
      go_wp2_with fail
      (with_reducible refine hcon3.mono ?_)
      rintro e w4 ⟨rfl, hb4⟩
      have B4 := B3.out.trans (hb4.mono B3.out.size)
      clear hcon3 B3 hb4
      go_wp2
      go_ret2
      exact ⟨rfl, B4⟩
set_option maxHeartbeats 4000000 in
set_option maxRecDepth 100000 in
theorem rseen_bad0 (v : Value) (L : List Rl) (n : Nat) (r : Rl) (w : World) (hl : L.length ≤ 1000) (hr : L[n]? = some r) (hs : sndA L = false) (hq : r.m.snd = false) (hv : Ru w v L) : Calls Try.prog 16 #[v, .int .i64 n] w fun e w' => e = .returned (.tuple #[.slice none 0 0, .int .i64 2]) ∧ Below w.heap.size w w' := by
  have hcon1 := order_r v L w (by omega) hv
  have hnl : n < L.length := (List.getElem?_eq_some_iff.1 hr).1
  obtain ⟨A, cap, rfl, hA⟩ := hv.form
  obtain ⟨b, o, rfl, hb0, hc⟩ := hA (by intro e; rw [e] at hnl; simp at hnl)
  obtain ⟨kk, hk, hnb, hks⟩ := seen_at hnl
  have hkl : kk < L.length := by have := (List.getElem?_eq_some_iff.1 hk).1; rw [ordI_len] at this; exact this
  have hlz : (L.length : Int) ≤ 1000 := by omega
  have hnz : (n : Int) < (L.length : Int) := by omega
  have HV := Lib.hid hv
  have HS := Lib.hid hs
  have Hr := Lib.hid hr
  have HC := Lib.hid (hc n r hr)
  have HK := Lib.hid hk
  have HNB := Lib.hid hnb
  have HKS := Lib.hid hks
  obtain ⟨s, hst⟩ : ∃ s, txt r.m = s := ⟨_, rfl⟩
  have HST := Lib.hid hst
  clear hv hc hk hnb hks hA hs hr hst
  go_enter Try.func16, Try.ntmps16
  go_wp2_with fail
  (with_reducible refine hcon1.mono ?_)
  rintro e w1 ⟨v1, rfl, O1, B1⟩
  have HPK := Lib.hid (own_PlK O1)
  have HB1 := Lib.hid B1
  obtain ⟨A1, cp, rfl, hcp, hcm, hf⟩ := own_PlK O1
  obtain ⟨g, rfl, hg, hcells⟩ := hf (by intro e; have := ordI_len L; rw [e] at this; simp at this; omega)
  rw [ordI_len] at hcp HPK
  rw [ordI_len]
  have HG := Lib.hid hcells
  have hkc : (kk : Int) ≤ (cp : Int) := by omega
  clear hf hcells O1 B1 hcon1
  go_wp2
  go_loopg [7] kk (fun gk s7 wr => ∃ j : Nat, j ≤ kk ∧ gk = kk - j ∧ s7 = .int .i64 j ∧ wr = w1)
  case atStart => exact ⟨0, Nat.zero_le _, rfl, rfl, rfl⟩
  case round =>
    obtain ⟨j, hj, rfl, rfl, rfl⟩ := hrel
    have hjz : (j : Int) < (L.length : Int) := by omega
    obtain ⟨m, hm⟩ : ∃ m, (ordI L)[j]? = some m := ⟨_, List.getElem?_eq_getElem (by rw [ordI_len]; omega)⟩
    have hcell := HG.out j m hm
    rcases Nat.lt_or_ge j kk with h1 | h1
    · have hne := HNB.out j m h1 hm
      have hnz2 : ¬ (m : Int) = (n : Int) := by omega
      clear hm
      go_wp2
      go_roundg (kk - (j + 1))
      case measure => omega
      case rel => exact ⟨j + 1, by omega, rfl, by go_num, rfl⟩
    · obtain rfl : j = kk := by omega
      have e := HK.out
      rw [hm] at e
      injection e with e
      subst e
      clear hm
      obtain ⟨_, c1, c2, c3, c4, _⟩ := (HC.out.on HB1.out).out
      have HPT := Lib.hid (HPK.out.take (k := j) (by rw [ordI_len]; omega))
      go_wp2_with fail
      (with_reducible refine (text_any false r.m _ hq).mono ?_)
      rintro e w3 ⟨s3, rfl, hb3⟩
      have B4 := HB1.out.trans (hb3.mono HB1.out.size)
      clear HPT hb3 HB1 c1 c2 c3 c4 hcell
      go_wp2
      go_ret2
      exact ⟨rfl, B4⟩
theorem rseen_form (v : Value) (L : List Rl) (n : Nat) (r : Rl) (w : World) (hl : L.length ≤ 1000) (hr : L[n]? = some r) (hs : sndA L = false) (hv : Ru w v L) : Calls Try.prog 16 #[v, .int .i64 n] w fun e w' => e = .returned (.tuple #[.slice none 0 0, .int .i64 2]) ∧ Below w.heap.size w w' := by
  cases hq : r.m.snd with
  | true => exact rseen_bad v L n r w hl hr hs hq hv
  | false => exact rseen_bad0 v L n r w hl hr hs hq hv
end Go.Proofs

namespace Go.Proofs.Hd
open Go.RowKit
def awC : Cb := ⟨0#64, 1#64, 0#64, 1#64⟩
/-- The rules of awake. -/
def awL : List Rl := [⟨1, ⟨0#64, 0#64, 0#64, 0#64⟩, 1, 0, 0, ⟨0#64, 0#64, 0#64, 0#64⟩⟩, ⟨2, ⟨0#64, 1#64, 0#64, 1#64⟩, 1, 0, 0, ⟨0#64, 0#64, 0#64, 0#64⟩⟩, ⟨0, ⟨0#64, 1#64, 0#64, 1#64⟩, 1, 0, 0, ⟨0#64, 0#64, 0#64, 0#64⟩⟩]
theorem aw_ord : ordI awL = [1, 0, 2] := (ordI_unique (by decide) (by decide)).symm
theorem aw_snd : sndA awL = true := by decide
theorem aw_find3 : fndI awL 0#64 3#64 = some 1 := by unfold fndI; rw [aw_ord]; decide
theorem aw_find2 : fndI awL 0#64 2#64 = some 0 := by unfold fndI; rw [aw_ord]; decide
theorem aw_tab : sT [awL] [] = 0 := by decide
def awX : Cb := ⟨0#64, 0#64, 0#64, 1#64⟩
theorem aw_seen0 : seenL awL 0 = some [awX] := by
  unfold seenL aheadI
  rw [aw_ord]
  kernel_rfl
theorem aw_seen1 : seenL awL 1 = some [awC] := by
  unfold seenL aheadI
  rw [aw_ord]
  kernel_rfl
theorem aw_seen2 : seenL awL 2 = some [] := by
  unfold seenL aheadI
  rw [aw_ord]
  kernel_rfl
theorem aw_idle : idlU awL awL.length = some [2] := by
  show idlU awL 3 = _
  rw [idlU, idlU, idlU, idlU]
  simp only [Option.bind_some]
  rw [aw_seen0, aw_seen1, aw_seen2]
  rfl
theorem Ru.take {w : World} {A : Option Addr} {n cap : Nat} {L : List Rl} (h : Ru w (.slice A n cap) L) (k : Nat) : Ru w (.slice A (L.take k).length cap) (L.take k) := by
  rcases h with ⟨rfl, A', cap', e⟩ | ⟨b, off, cap', e, hb, hc⟩
  · exact .inl ⟨by simp, A, cap, by simp⟩
  · injection e with e1 e2 e3
    subst e1 e3
    refine .inr ⟨b, off, cap, rfl, hb, fun j r hj => hc j r ?_⟩
    rw [List.getElem?_take] at hj
    split at hj
    · exact hj
    · cases hj
theorem ruT_one {w : World} {v : Value} {L : List Rl} (h : Ru w v L) (hl : L.length ≤ maxLen) : RuT (w.alloc (.cells #[v] 22)) (.slice (some ⟨w.heap.size, 0, none⟩) 1 1) [L] := by
  refine ⟨_, 1, rfl, by unfold maxLen; simp, fun M hM => by simp at hM; subst hM; exact hl, fun _ => ⟨w.heap.size, 0, rfl, by simp, fun k M hk => ?_⟩⟩
  have B : Blk (w.alloc (.cells #[v] 22)) w.heap.size 22 #[v] := Blk.new w _ _
  cases k with
  | zero => simp at hk; subst hk; exact ⟨v, B.cell 0, h.on (below1 _ _)⟩
  | succ k => simp at hk
end Go.Proofs.Hd
namespace Go.Proofs
open Go.RowKit Go.Proofs.Hd Go.Sort Go.Shelf Go.Lib
attribute [local go_sem] uv_nonneg
theorem few_c (A : Option Addr) (cap : Nat) (L : List Rl) (w : World) (hl : L.length ≤ 4611686018427387904) (hc : L.length ≤ cap) (hv : Ru w (.slice A L.length cap) L) : Calls Try.prog 14 #[.slice A L.length cap] w fun e w' => e = .returned (.slice A (L.take 8).length cap) ∧ w' = w := by
  have hlz : (L.length : Int) ≤ 4611686018427387904 := by omega
  by_cases h8 : 8 < L.length
  · have h8z : (8 : Int) < (L.length : Int) := by omega
    have hcz : (8 : Int) ≤ (cap : Int) := by omega
    obtain ⟨A', cap', e, hA⟩ := hv.form
    injection e with e1 _ _
    subst e1
    obtain ⟨b, o, rfl, _, _⟩ := hA (by intro e; rw [e] at h8; simp at h8)
    have hk : (L.take 8).length = 8 := by rw [List.length_take]; omega
    rw [hk]
    clear hv hA hk
    go_enter Try.func14, Try.ntmps14
    go_wp2
    go_ret
    exact ⟨rfl, rfl⟩
  · have h8z : ¬ (8 : Int) < (L.length : Int) := by omega
    have hk : L.take 8 = L := List.take_of_length_le (by omega)
    rw [hk]
    clear hv hk
    go_enter Try.func14, Try.ntmps14
    go_wp2
    go_ret
    exact ⟨rfl, rfl⟩
set_option maxHeartbeats 2000000 in
theorem same6_c (v u : Value) (xs : List Nat) (w : World) (hl : xs.length ≤ 1000000) (hv : PlK w v xs) (hu : PlK w u xs) : Calls Try.prog 17 #[v, u] w fun e w' => e = .returned (.bool true) ∧ Below w.heap.size w w' := by
  obtain ⟨A, cap, rfl, _, _, hf⟩ := hv
  obtain ⟨B, cp, rfl, _, _, hg⟩ := hu
  have hlz : (xs.length : Int) ≤ 1000000 := by omega
  have HF := Lib.hid hf
  have HG := Lib.hid hg
  clear hf hg
  go_enter Try.func17, Try.ntmps17
  go_wp2
  go_loopg [5] xs.length (fun gk s5 wr => ∃ k : Nat, k ≤ xs.length ∧ gk = xs.length - k ∧ s5 = .int .i64 k ∧ Hid (Below w.heap.size w wr))
  case atStart => exact ⟨0, Nat.zero_le _, rfl, rfl, Below.refl _ _⟩
  case round =>
    obtain ⟨k, hk, rfl, rfl, HB⟩ := hrel
    by_cases hlt : k < xs.length
    · have hltz : (k : Int) < (xs.length : Int) := by omega
      obtain ⟨m, hm⟩ : ∃ m, xs[k]? = some m := ⟨_, List.getElem?_eq_getElem hlt⟩
      have hne : xs ≠ [] := by intro e; rw [e] at hlt; simp at hlt
      obtain ⟨g, rfl, _, f1⟩ := HF.out hne
      obtain ⟨g2, rfl, _, f2⟩ := HG.out hne
      have x1 := on_some HB.out (f1 k m hm)
      have x2 := on_some HB.out (f2 k m hm)
      clear f1 f2 hm hne
      go_wp2_with fail
      go_quiet (fail)
      have HW2 : Hid (Below w.heap.size w (wr.drewN nq)) := ⟨HB.out.os, HB.out.tape, HB.out.output, HB.out.size, HB.out.block⟩
      clear HB x1 x2
      generalize wr.drewN nq = wq at HW2 ⊢
      clear nq
      go_wp2
      go_roundg (xs.length - (k + 1))
      case measure => omega
      case rel => exact ⟨k + 1, by omega, rfl, by go_num, HW2⟩
    · have hltz : ¬ (k : Int) < (xs.length : Int) := by omega
      clear HF HG
      go_wp2
      go_ret
      exact ⟨rfl, HB.out⟩
theorem aw_row (w : World) : Ru ((w.alloc (.cells #[.int .u64 0, .int .u64 1, .int .u64 0, .int .u64 1] 51)).alloc (.cells #[.int .i64 1, .int .u64 0, .int .u64 0, .int .u64 0, .int .u64 0, .int .i64 1, .int .i64 0, .int .i64 0, .int .u64 0, .int .u64 0, .int .u64 0, .int .u64 0, .int .i64 2, .int .u64 0, .int .u64 1, .int .u64 0, .int .u64 1, .int .i64 1, .int .i64 0, .int .i64 0, .int .u64 0, .int .u64 0, .int .u64 0, .int .u64 0, .int .i64 0, .int .u64 0, .int .u64 1, .int .u64 0, .int .u64 1, .int .i64 1, .int .i64 0, .int .i64 0, .int .u64 0, .int .u64 0, .int .u64 0, .int .u64 0] 55)) (.slice (some ⟨w.heap.size + 1, 0, none⟩) 3 3) awL :=
  own_Ru (base := w.heap.size) (t := 55) ⟨rfl, .inr ⟨w.heap.size + 1, 3, #[.int .i64 1, .int .u64 0, .int .u64 0, .int .u64 0, .int .u64 0, .int .i64 1, .int .i64 0, .int .i64 0, .int .u64 0, .int .u64 0, .int .u64 0, .int .u64 0, .int .i64 2, .int .u64 0, .int .u64 1, .int .u64 0, .int .u64 1, .int .i64 1, .int .i64 0, .int .i64 0, .int .u64 0, .int .u64 0, .int .u64 0, .int .u64 0, .int .i64 0, .int .u64 0, .int .u64 1, .int .u64 0, .int .u64 1, .int .i64 1, .int .i64 0, .int .i64 0, .int .u64 0, .int .u64 0, .int .u64 0, .int .u64 0], rfl, by omega, by have := heap_alloc_new (w.alloc (.cells #[.int .u64 0, .int .u64 1, .int .u64 0, .int .u64 1] 51)) (.cells #[.int .i64 1, .int .u64 0, .int .u64 0, .int .u64 0, .int .u64 0, .int .i64 1, .int .i64 0, .int .i64 0, .int .u64 0, .int .u64 0, .int .u64 0, .int .u64 0, .int .i64 2, .int .u64 0, .int .u64 1, .int .u64 0, .int .u64 1, .int .i64 1, .int .i64 0, .int .i64 0, .int .u64 0, .int .u64 0, .int .u64 0, .int .u64 0, .int .i64 0, .int .u64 0, .int .u64 1, .int .u64 0, .int .u64 1, .int .i64 1, .int .i64 0, .int .i64 0, .int .u64 0, .int .u64 0, .int .u64 0, .int .u64 0] 55); simpa using this, by decide, by unfold maxLen; omega, rfl, rfl⟩⟩
theorem aw_f3 (v : Value) (W : World) (hv : Ru W v awL) : Calls Try.prog 9 #[v, .agg #[.int .u64 0, .int .u64 3]] W fun e w' => e = .returned (.tuple #[.int .i64 1, .bool true]) ∧ Below W.heap.size W w' := by
  have h := find_c v awL 0#64 3#64 W (by decide) hv
  rw [aw_find3] at h
  exact h
theorem aw_f2 (v : Value) (W : World) (hv : Ru W v awL) : Calls Try.prog 9 #[v, .agg #[.int .u64 0, .int .u64 2]] W fun e w' => e = .returned (.tuple #[.int .i64 0, .bool true]) ∧ Below W.heap.size W w' := by
  have h := find_c v awL 0#64 2#64 W (by decide) hv
  rw [aw_find2] at h
  exact h
theorem aw_sn (v : Value) (W : World) (hv : Ru W v awL) : Calls Try.prog 19 #[v, .int .i64 0] W fun e w' => ∃ A c, e = .returned (.tuple #[.slice A 1 c, .int .i64 0]) ∧ Below W.heap.size W w' :=
  (seen_some v awL 0 _ W (by decide) rfl aw_snd hv _ aw_seen0).mono fun e w' ⟨x, e1, o, b⟩ => by
    obtain ⟨A, c, rfl, _⟩ := own_form o
    exact ⟨A, c, e1, b⟩
theorem aw_id (v : Value) (W : World) (hv : Ru W v awL) : Calls Try.prog 15 #[v] W fun e w' => ∃ g c, e = .returned (.tuple #[.slice (some ⟨g, 0, none⟩) 1 c, .int .i64 0]) ∧ w'.cell? ⟨g, 0, none⟩ = some (.int .i64 2) ∧ Below W.heap.size W w' :=
  (idle_any v awL W (by decide) aw_snd hv).mono fun e w' h => by
    obtain ⟨x, e1, o, b⟩ := h.1 _ aw_idle
    obtain ⟨A, c, rfl, _, _, hf⟩ := own_PlK o
    obtain ⟨g, rfl, _, hc⟩ := hf (by simp)
    exact ⟨g, c, e1, hc 0 2 rfl, b⟩
theorem aw_st (v pv : Value) (W : World) (hv : RuT W v [awL]) (hp : Po W pv []) : Calls Try.prog 12 #[v, pv] W fun e w' => e = .returned (.int .i64 0) ∧ Below W.heap.size W w' := by
  have h := tabs_c v pv [awL] [] W hv hp
  rw [aw_tab] at h
  exact h
set_option maxHeartbeats 8000000 in
set_option maxRecDepth 100000 in
theorem awake6_c (w : World) : Calls Try.prog 11 #[] w fun e w' => e = .returned (.bool true) ∧ Below w.heap.size w w' := by
  have B0 := below2 w (.cells #[.int .u64 0, .int .u64 1, .int .u64 0, .int .u64 1] 51) (.cells #[.int .i64 1, .int .u64 0, .int .u64 0, .int .u64 0, .int .u64 0, .int .i64 1, .int .i64 0, .int .i64 0, .int .u64 0, .int .u64 0, .int .u64 0, .int .u64 0, .int .i64 2, .int .u64 0, .int .u64 1, .int .u64 0, .int .u64 1, .int .i64 1, .int .i64 0, .int .i64 0, .int .u64 0, .int .u64 0, .int .u64 0, .int .u64 0, .int .i64 0, .int .u64 0, .int .u64 1, .int .u64 0, .int .u64 1, .int .i64 1, .int .i64 0, .int .i64 0, .int .u64 0, .int .u64 0, .int .u64 0, .int .u64 0] 55)
  have R0 := aw_row w
  have X0 : Blk (w.alloc (.cells #[.int .u64 0, .int .u64 1, .int .u64 0, .int .u64 1] 51)) w.heap.size 51 #[.int .u64 0, .int .u64 1, .int .u64 0, .int .u64 1] := Blk.new w _ _
  have x0 := X0.cell 0
  have x1 := X0.cell 1
  have x2 := X0.cell 2
  have x3 := X0.cell 3
  clear X0
  go_enter Try.func11, Try.ntmps11
  go_upto_region 3 with (fail)
  generalize (w.alloc (.cells #[.int .u64 0, .int .u64 1, .int .u64 0, .int .u64 1] 51)).alloc (.cells #[.int .i64 1, .int .u64 0, .int .u64 0, .int .u64 0, .int .u64 0, .int .i64 1, .int .i64 0, .int .i64 0, .int .u64 0, .int .u64 0, .int .u64 0, .int .u64 0, .int .i64 2, .int .u64 0, .int .u64 1, .int .u64 0, .int .u64 1, .int .i64 1, .int .i64 0, .int .i64 0, .int .u64 0, .int .u64 0, .int .u64 0, .int .u64 0, .int .i64 0, .int .u64 0, .int .u64 1, .int .u64 0, .int .u64 1, .int .i64 1, .int .i64 0, .int .i64 0, .int .u64 0, .int .u64 0, .int .u64 0, .int .u64 0] 55) = w2 at B0 R0 ⊢
  clear x0 x1 x2 x3
  go_wp2_with fail
  (with_reducible refine (aw_f3 _ _ R0).mono ?_)
  rintro e w3 ⟨rfl, hb⟩
  have B1 := B0.trans (hb.mono B0.size)
  have R1 := R0.on hb
  clear B0 R0 hb
  go_wp2_with fail
  (with_reducible refine (aw_f2 _ _ R1).mono ?_)
  rintro e w4 ⟨rfl, hb⟩
  have B2 := B1.trans (hb.mono B1.size)
  have R2 := R1.on hb
  clear B1 R1 hb
  go_wp2_with fail
  (with_reducible refine (aw_sn _ _ R2).mono ?_)
  rintro e w5 ⟨A5, c5, rfl, hb⟩
  have B3 := B2.trans (hb.mono B2.size)
  have R3 := R2.on hb
  clear B2 R2 hb
  go_wp2_with fail
  (with_reducible refine (aw_id _ _ R3).mono ?_)
  rintro e w6 ⟨g6, c6, rfl, hc6, hb⟩
  have B4 := B3.trans (hb.mono B3.size)
  have R4 := R3.on hb
  clear B3 R3 hb
  have hb7 := below1 w6 (.cells #[.slice (some ⟨w.heap.size + 1, 0, none⟩) 3 3] 22)
  have T7 := ruT_one R4 (by decide)
  have B7 := B4.trans (hb7.mono B4.size)
  have hst := aw_st _ (.slice none 0 0) _ T7 (Or.inl ⟨rfl, none, 0, rfl⟩)
  clear R4 B4 hb7
  go_wp2_with fail
  (with_reducible refine hst.mono ?_)
  rintro e w8 ⟨rfl, hb⟩
  have B8 := B7.trans (hb.mono B7.size)
  clear B7 T7 hb hst
  go_wp2
  go_ret
  exact ⟨rfl, B8⟩
end Go.Proofs
