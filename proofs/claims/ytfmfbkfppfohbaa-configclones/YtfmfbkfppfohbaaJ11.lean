/-
  Contract of the law's awake of layer 8: it returns true. No conditions.
  Contract of the reference's Copy of layer 8. Conditions as the theorem lists them.
-/
import Derived.Test.YtfmfbkfppfohbaaJ10
import Derived.Deep.Light
namespace Go.Proofs
open Go.RowKit Go.Proofs.Hd Go.Lib
theorem szd8 : Szd T8 P8 [] B8 := ⟨by decide, by decide, by decide, by decide, by decide, by decide, by decide⟩
theorem sound8 (tv pv wv bv : Value) (w : World) (B : Nat) (h : Cfo B w tv pv wv bv T8 P8 [] B8) : Calls Try.prog 9 #[.agg #[tv, .int .i64 3, pv, wv, bv]] w fun e w' => e = .returned (.int .i64 0) ∧ Below w.heap.size w w' := by
  have hc := csound_c tv pv wv bv T8 3 P8 [] B8 w h.rd.1 h.rd.2.1 h.rd.2.2.1 h.rd.2.2.2
  rw [C8] at hc
  exact hc
theorem stamp8 (tv pv wv bv : Value) (w : World) (B : Nat) (h : Cfo B w tv pv wv bv T8 P8 [] B8) : Calls Try.prog 16 #[.agg #[tv, .int .i64 3, pv, wv, bv], .agg #[.int .i64 0, .int .i64 0], .int .i64 3] w fun e w' => ∃ cvl cch ccl : BitVec 64, e = .returned (.tuple #[.agg #[.int .u64 844424946909184, .int .u64 (uv cvl), .int .u64 (uv cch), .int .u64 (uv ccl)], .int .i64 0]) ∧ Below w.heap.size w w' := by
  have hc := stamp_c tv pv wv bv T8 3 P8 [] B8 0 0 3 w h.rd.1 h.rd.2.1 h.rd.2.2.1 h.rd.2.2.2
  rw [C8] at hc
  refine hc.mono fun e w' ⟨h1, h2⟩ => ?_
  obtain ⟨n, m, cvh, cvl, cch, ccl, hn, hm, he, hv, rfl, hs⟩ := h1.2.2.2 rfl (by decide) (by rw [T8_edge]; decide)
  rw [T8_edge] at he
  have en : n = 0 := by omega
  have em : m = 3 := by omega
  subst en em
  refine ⟨cvl, cch, ccl, ?_, h2⟩
  rw [st8 hs]
set_option maxRecDepth 100000 in
set_option maxHeartbeats 4000000 in
theorem awake8_c (w : World) : Calls Try.prog 8 #[] w fun e w' => e = .returned (.bool true) ∧ Below w.heap.size w w' := by
  go_enter Try.func8, Try.ntmps8
  go_wp2_with fail
  (with_reducible refine (small_c _).mono ?_)
  rintro e w1 ⟨tv, pv, bv, rfl, hcf, hb1⟩
  obtain ⟨tA, tc, rfl, -⟩ := OwG.rd hcf.ports
  obtain ⟨xA, xc, rfl, -⟩ := OwG.rd hcf.tabs
  obtain ⟨pA, pc, rfl, -⟩ := own_sl hcf.peers
  have bx := below1 w1 (.cells #[.slice tA T8.length tc, .int .i64 3, .slice pA P8.length pc, .slice none 0 0, .slice xA B8.length xc] 31)
  have X2 := Lib.hid (Blk.new w1 31 #[.slice tA T8.length tc, .int .i64 3, .slice pA P8.length pc, .slice none 0 0, .slice xA B8.length xc])
  have HCF := Lib.hid (hcf.on bx)
  have HB2 := Lib.hid (hb1.trans (bx.mono hb1.size))
  clear hcf hb1 bx
  go_upto_region 2 with (fail)
  generalize w1.alloc (.cells #[.slice tA T8.length tc, .int .i64 3, .slice pA P8.length pc, .slice none 0 0, .slice xA B8.length xc] 31) = w2 at X2 HCF HB2 ⊢
  obtain ⟨d0, d1, d2, d3, d4⟩ := X2.out.five
  go_wp2_with fail
  (with_reducible refine (stamp8 _ _ _ _ _ _ HCF.out).mono ?_)
  rintro e w3 ⟨cvl, cch, ccl, rfl, hb3⟩
  have bc := below1 w3 (.cells #[.int .u64 844424946909184, .int .u64 (uv cvl), .int .u64 (uv cch), .int .u64 (uv ccl)] 46)
  have N3 := Lib.hid (Blk.new w3 46 #[.int .u64 844424946909184, .int .u64 (uv cvl), .int .u64 (uv cch), .int .u64 (uv ccl)])
  have HW4 := Lib.hid (hb3.trans (bc.mono hb3.size))
  have HB4 := Lib.hid (HB2.out.trans (HW4.out.mono HB2.out.size))
  have X4 := Lib.hid (X2.out.on HW4.out)
  clear hb3 bc d0 d1 d2 d3 d4 X2 HB2
  go_upto_region 3 with (fail)
  generalize w3.alloc (.cells #[.int .u64 844424946909184, .int .u64 (uv cvl), .int .u64 (uv cch), .int .u64 (uv ccl)] 46) = w4 at N3 HW4 HB4 X4 ⊢
  obtain ⟨d0, d1, d2, d3, d4⟩ := X4.out.five
  obtain ⟨e0, -⟩ := quad N3.out
  have KP : ∀ W, Below w4.heap.size w4 W → (Below w4.heap.size w4 W ∧ W.cell? ⟨w1.heap.size, 0, none⟩ = some (.slice tA T8.length tc) ∧ W.cell? ⟨w1.heap.size, 1, none⟩ = some (.int .i64 3) ∧ W.cell? ⟨w1.heap.size, 2, none⟩ = some (.slice pA P8.length pc) ∧ W.cell? ⟨w1.heap.size, 3, none⟩ = some (.slice none 0 0) ∧ W.cell? ⟨w1.heap.size, 4, none⟩ = some (.slice xA B8.length xc) ∧ W.cell? ⟨w3.heap.size, 0, none⟩ = some (.int .u64 844424946909184)) := fun W hb => ⟨hb, on_some hb d0, on_some hb d1, on_some hb d2, on_some hb d3, on_some hb d4, on_some hb e0⟩
  have HKP := Lib.hid KP
  clear KP d0 d1 d2 d3 d4 e0
  refine wp_region_held_drew (S := fun w' => Below w4.heap.size w4 w' ∧ w'.cell? ⟨w1.heap.size, 0, none⟩ = some (.slice tA T8.length tc) ∧ w'.cell? ⟨w1.heap.size, 1, none⟩ = some (.int .i64 3) ∧ w'.cell? ⟨w1.heap.size, 2, none⟩ = some (.slice pA P8.length pc) ∧ w'.cell? ⟨w1.heap.size, 3, none⟩ = some (.slice none 0 0) ∧ w'.cell? ⟨w1.heap.size, 4, none⟩ = some (.slice xA B8.length xc) ∧ w'.cell? ⟨w3.heap.size, 0, none⟩ = some (.int .u64 844424946909184)) (by kernel_rfl) (HKP.out _ (Below.refl _ w4).drew) (fun hHeld => ?_)
  refine wpAnyH_take (i := 0) (oi := ⟨some 11, _, _, _, _, _⟩) (v := ?vaw0) rfl (by kernel_rfl) (by kernel_rfl) (by kernel_rfl) (fun _ _ _ h => h) (Or.inl ⟨by rfl, ?yaw0⟩) hHeld ?raw0
  case yaw0 => (intro w' hSw; (try dsimp only at hSw); go_simp; try (with_reducible rfl))
  simp only [Act.put, List.setIfInBounds_toArray, List.set_cons_zero, List.set_cons_succ]
  refine wpAnyH_ready (rs := [1]) (by kernel_rfl) (by simp) ?_
  refine AllReadyH.cons (o := ⟨some 12, _, _, _, _, _⟩) rfl (fun K hK => ?_) AllReadyH.nil
  go_simp
  (with_reducible refine (sound8 _ _ _ _ _ _ (HCF.out.on (HW4.out.trans (hHeld.1.mono HW4.out.size)))).mono ?_)
  rintro e w5 ⟨rfl, hb⟩
  (try dsimp only)
  refine hK.out _ _ (HKP.out _ (hHeld.1.trans (hb.mono hHeld.1.size))) (fun hNext => ?_)
  clear hK K hHeld
  have hHeld := hNext
  clear hNext
  try simp only [Act.put, List.setIfInBounds_toArray, List.set_cons_zero, List.set_cons_succ]
  refine wpAnyH_take (i := 2) (oi := ⟨some 13, _, _, _, _, _⟩) (v := ?vaw2) rfl (by kernel_rfl) (by kernel_rfl) (by kernel_rfl) (fun _ _ _ h => h) (Or.inl ⟨by rfl, ?yaw2⟩) hHeld ?raw2
  case yaw2 => (intro w' hSw; (try dsimp only at hSw); go_simp; try (with_reducible rfl))
  simp only [Act.put, List.setIfInBounds_toArray, List.set_cons_zero, List.set_cons_succ]
  refine wpAnyH_take (i := 3) (oi := ⟨some 14, _, _, _, _, _⟩) (v := ?vaw3) rfl (by kernel_rfl) (by kernel_rfl) (by kernel_rfl) (fun _ _ _ h => h) (Or.inl ⟨by rfl, ?yaw3⟩) hHeld ?raw3
  case yaw3 => (intro w' hSw; (try dsimp only at hSw); go_simp; try (with_reducible rfl))
  simp only [Act.put, List.setIfInBounds_toArray, List.set_cons_zero, List.set_cons_succ]
  refine wpAnyH_take (i := 4) (oi := ⟨some 15, _, _, _, _, _⟩) (v := ?vaw4) rfl (by kernel_rfl) (by kernel_rfl) (by kernel_rfl) (fun _ _ _ h => h) (Or.inl ⟨by rfl, ?yaw4⟩) hHeld ?raw4
  case yaw4 => (intro w' hSw; (try dsimp only at hSw); go_simp; try (with_reducible rfl))
  simp only [Act.put, List.setIfInBounds_toArray, List.set_cons_zero, List.set_cons_succ]
  refine wpAnyH_take (i := 5) (oi := ⟨some 16, _, _, _, _, _⟩) (v := ?vaw5) rfl (by kernel_rfl) (by kernel_rfl) (by kernel_rfl) (fun _ _ _ h => h) (Or.inl ⟨by rfl, ?yaw5⟩) hHeld ?raw5
  case yaw5 => (intro w' hSw; (try dsimp only at hSw); go_simp; try (with_reducible rfl))
  simp only [Act.put, List.setIfInBounds_toArray, List.set_cons_zero, List.set_cons_succ]
  refine wpAnyH_take (i := 6) (oi := ⟨some 17, _, _, _, _, _⟩) (v := ?vaw6) rfl (by kernel_rfl) (by kernel_rfl) (by kernel_rfl) (fun _ _ _ h => h) (Or.inl ⟨by rfl, ?yaw6⟩) hHeld ?raw6
  case yaw6 => (intro w' hSw; (try dsimp only at hSw); go_simp; try (with_reducible rfl))
  simp only [Act.put, List.setIfInBounds_toArray, List.set_cons_zero, List.set_cons_succ]
  refine wpAnyH_take (i := 7) (oi := ⟨some 18, _, _, _, _, _⟩) (v := ?vaw7) rfl (by kernel_rfl) (by kernel_rfl) (by kernel_rfl) (fun _ _ _ h => h) (Or.inl ⟨by rfl, ?yaw7⟩) hHeld ?raw7
  case yaw7 => (intro w' hSw; (try dsimp only at hSw); go_simp; try (with_reducible rfl))
  simp only [Act.put, List.setIfInBounds_toArray, List.set_cons_zero, List.set_cons_succ]
  refine wpAnyH_take (i := 8) (oi := ⟨some 19, _, _, _, _, _⟩) (v := ?vaw8) rfl (by kernel_rfl) (by kernel_rfl) (by kernel_rfl) (fun _ _ _ h => h) (Or.inl ⟨by rfl, ?yaw8⟩) hHeld ?raw8
  case yaw8 => (intro w' hSw; (try dsimp only at hSw); go_simp; try (with_reducible rfl))
  simp only [Act.put, List.setIfInBounds_toArray, List.set_cons_zero, List.set_cons_succ]
  refine wpAnyH_take (i := 9) (oi := ⟨some 20, _, _, _, _, _⟩) (v := ?vaw9) rfl (by kernel_rfl) (by kernel_rfl) (by kernel_rfl) (fun _ _ _ h => h) (Or.inl ⟨by rfl, ?yaw9⟩) hHeld ?raw9
  case yaw9 => (intro w' hSw; (try dsimp only at hSw); go_simp; try (with_reducible rfl))
  simp only [Act.put, List.setIfInBounds_toArray, List.set_cons_zero, List.set_cons_succ]
  refine wpAnyH_ready (rs := [10]) (by kernel_rfl) (by simp) ?_
  refine AllReadyH.cons (o := ⟨some 21, _, _, _, _, _⟩) rfl (fun K hK => ?_) AllReadyH.nil
  go_simp
  (with_reducible refine (callow_c true 3 _ none 0 0 P8 0 1 _ ((HCF.out.on (HW4.out.trans (hHeld.1.mono HW4.out.size))).rd.2.1) A8_yes).mono ?_)
  rintro e w6 ⟨rfl, hb⟩
  (try dsimp only)
  refine hK.out _ _ (HKP.out _ (hHeld.1.trans (hb.mono hHeld.1.size))) (fun hNext => ?_)
  clear hK K hHeld
  have hHeld := hNext
  clear hNext
  try simp only [Act.put, List.setIfInBounds_toArray, List.set_cons_zero, List.set_cons_succ]
  refine wpAnyH_take (i := 11) (oi := ⟨some 22, _, _, _, _, _⟩) (v := ?vaw11) rfl (by kernel_rfl) (by kernel_rfl) (by kernel_rfl) (fun _ _ _ h => h) (Or.inl ⟨by rfl, ?yaw11⟩) hHeld ?raw11
  case yaw11 => (intro w' hSw; (try dsimp only at hSw); go_simp; try (with_reducible rfl))
  simp only [Act.put, List.setIfInBounds_toArray, List.set_cons_zero, List.set_cons_succ]
  refine wpAnyH_take (i := 12) (oi := ⟨some 23, _, _, _, _, _⟩) (v := ?vaw12) rfl (by kernel_rfl) (by kernel_rfl) (by kernel_rfl) (fun _ _ _ h => h) (Or.inl ⟨by rfl, ?yaw12⟩) hHeld ?raw12
  case yaw12 => (intro w' hSw; (try dsimp only at hSw); go_simp; try (with_reducible rfl))
  simp only [Act.put, List.setIfInBounds_toArray, List.set_cons_zero, List.set_cons_succ]
  refine wpAnyH_take (i := 13) (oi := ⟨some 24, _, _, _, _, _⟩) (v := ?vaw13) rfl (by kernel_rfl) (by kernel_rfl) (by kernel_rfl) (fun _ _ _ h => h) (Or.inl ⟨by rfl, ?yaw13⟩) hHeld ?raw13
  case yaw13 => (intro w' hSw; (try dsimp only at hSw); go_simp; try (with_reducible rfl))
  simp only [Act.put, List.setIfInBounds_toArray, List.set_cons_zero, List.set_cons_succ]
  refine wpAnyH_take (i := 14) (oi := ⟨some 25, _, _, _, _, _⟩) (v := ?vaw14) rfl (by kernel_rfl) (by kernel_rfl) (by kernel_rfl) (fun _ _ _ h => h) (Or.inl ⟨by rfl, ?yaw14⟩) hHeld ?raw14
  case yaw14 => (intro w' hSw; (try dsimp only at hSw); go_simp; try (with_reducible rfl))
  simp only [Act.put, List.setIfInBounds_toArray, List.set_cons_zero, List.set_cons_succ]
  refine wpAnyH_ready (rs := [15]) (by kernel_rfl) (by simp) ?_
  refine AllReadyH.cons (o := ⟨some 26, _, _, _, _, _⟩) rfl (fun K hK => ?_) AllReadyH.nil
  go_simp
  (with_reducible refine (callow_c false 3 _ none 0 0 P8 0 2 _ ((HCF.out.on (HW4.out.trans (hHeld.1.mono HW4.out.size))).rd.2.1) A8_no).mono ?_)
  rintro e w7 ⟨rfl, hb⟩
  (try dsimp only)
  refine hK.out _ _ (HKP.out _ (hHeld.1.trans (hb.mono hHeld.1.size))) (fun hNext => ?_)
  clear hK K hHeld
  have hHeld := hNext
  clear hNext
  try simp only [Act.put, List.setIfInBounds_toArray, List.set_cons_zero, List.set_cons_succ]
  refine wpAnyH_take (i := 16) (oi := ⟨some 27, _, _, _, _, _⟩) (v := ?vaw16) rfl (by kernel_rfl) (by kernel_rfl) (by kernel_rfl) (fun _ _ _ h => h) (Or.inl ⟨by rfl, ?yaw16⟩) hHeld ?raw16
  case yaw16 => (intro w' hSw; (try dsimp only at hSw); go_simp; try (with_reducible rfl))
  simp only [Act.put, List.setIfInBounds_toArray, List.set_cons_zero, List.set_cons_succ]
  refine wpAnyH_take (i := 17) (oi := ⟨some 28, _, _, _, _, _⟩) (v := ?vaw17) rfl (by kernel_rfl) (by kernel_rfl) (by kernel_rfl) (fun _ _ _ h => h) (Or.inl ⟨by rfl, ?yaw17⟩) hHeld ?raw17
  case yaw17 => (intro w' hSw; (try dsimp only at hSw); go_simp; try (with_reducible rfl))
  simp only [Act.put, List.setIfInBounds_toArray, List.set_cons_zero, List.set_cons_succ]
  refine wpAnyH_take (i := 18) (oi := ⟨some 29, _, _, _, _, _⟩) (v := ?vaw18) rfl (by kernel_rfl) (by kernel_rfl) (by kernel_rfl) (fun _ _ _ h => h) (Or.inl ⟨by rfl, ?yaw18⟩) hHeld ?raw18
  case yaw18 => (intro w' hSw; (try dsimp only at hSw); go_simp; try (with_reducible rfl))
  simp only [Act.put, List.setIfInBounds_toArray, List.set_cons_zero, List.set_cons_succ]
  refine wpAnyH_take (i := 19) (oi := ⟨some 30, _, _, _, _, _⟩) (v := ?vaw19) rfl (by kernel_rfl) (by kernel_rfl) (by kernel_rfl) (fun _ _ _ h => h) (Or.inl ⟨by rfl, ?yaw19⟩) hHeld ?raw19
  case yaw19 => (intro w' hSw; (try dsimp only at hSw); go_simp; try (with_reducible rfl))
  simp only [Act.put, List.setIfInBounds_toArray, List.set_cons_zero, List.set_cons_succ]
  refine wpAnyH_take (i := 21) (oi := ⟨some 32, _, _, _, _, _⟩) (v := ?vaw21) rfl (by kernel_rfl) (by kernel_rfl) (by kernel_rfl) (fun _ _ _ h => h) (Or.inl ⟨by rfl, ?yaw21⟩) hHeld ?raw21
  case yaw21 => (intro w' hSw; (try dsimp only at hSw); go_simp; try (with_reducible rfl))
  simp only [Act.put, List.setIfInBounds_toArray, List.set_cons_zero, List.set_cons_succ]
  refine wpAnyH_ready (rs := [20]) (by kernel_rfl) (by simp) ?_
  refine AllReadyH.cons (o := ⟨some 31, _, _, _, _, _⟩) rfl (fun K hK => ?_) AllReadyH.nil
  go_simp
  (with_reducible refine (clone_c _ _ _ _ T8 3 P8 [] B8 _ ((HCF.out.on (HW4.out.trans (hHeld.1.mono HW4.out.size))).rd.1) ((HCF.out.on (HW4.out.trans (hHeld.1.mono HW4.out.size))).rd.2.1) ((HCF.out.on (HW4.out.trans (hHeld.1.mono HW4.out.size))).rd.2.2.1) ((HCF.out.on (HW4.out.trans (hHeld.1.mono HW4.out.size))).rd.2.2.2) szd8).mono ?_)
  rintro e w8 ⟨tv2, pv2, wv2, bv2, rfl, HF2, hb⟩
  (try dsimp only)
  refine hK.out _ _ (HKP.out _ (hHeld.1.trans (hb.mono hHeld.1.size))) (fun hNext => ?_)
  clear hK K hHeld
  have hHeld := hNext
  clear hNext
  try simp only [Act.put, List.setIfInBounds_toArray, List.set_cons_zero, List.set_cons_succ]
  refine wpAnyH_ready (rs := [22]) (by kernel_rfl) (by simp) ?_
  refine AllReadyH.cons (o := ⟨some 33, _, _, _, _, _⟩) rfl (fun K hK => ?_) AllReadyH.nil
  go_simp
  (with_reducible refine (csame_c true _ _ _ _ T8 3 P8 [] B8 _ _ _ _ T8 3 P8 [] B8 _ (HF2.rd.1) (HF2.rd.2.1) (HF2.rd.2.2.1) (HF2.rd.2.2.2) ((HCF.out.on (HW4.out.trans (hHeld.1.mono HW4.out.size))).rd.1) ((HCF.out.on (HW4.out.trans (hHeld.1.mono HW4.out.size))).rd.2.1) ((HCF.out.on (HW4.out.trans (hHeld.1.mono HW4.out.size))).rd.2.2.1) ((HCF.out.on (HW4.out.trans (hHeld.1.mono HW4.out.size))).rd.2.2.2) ⟨fun _ => ⟨rfl, rfl, rfl, rfl, rfl⟩, fun _ => rfl⟩).mono ?_)
  rintro e w9 ⟨rfl, hb⟩
  (try dsimp only)
  refine hK.out _ _ (HKP.out _ (hHeld.1.trans (hb.mono hHeld.1.size))) (fun hNext => ?_)
  clear hK K hHeld
  have hHeld := hNext
  clear hNext
  try simp only [Act.put, List.setIfInBounds_toArray, List.set_cons_zero, List.set_cons_succ]
  refine wpAnyH_take (i := 23) (oi := ⟨some 34, _, _, _, _, _⟩) (v := ?vaw23) rfl (by kernel_rfl) (by kernel_rfl) (by kernel_rfl) (fun _ _ _ h => h) (Or.inl ⟨by rfl, ?yaw23⟩) hHeld ?raw23
  case yaw23 => (intro w' hSw; (try dsimp only at hSw); go_simp; try (with_reducible rfl))
  simp only [Act.put, List.setIfInBounds_toArray, List.set_cons_zero, List.set_cons_succ]
  refine wpAnyH_take (i := 24) (oi := ⟨some 35, _, _, _, _, _⟩) (v := ?vaw24) rfl (by kernel_rfl) (by kernel_rfl) (by kernel_rfl) (fun _ _ _ h => h) (Or.inl ⟨by rfl, ?yaw24⟩) hHeld ?raw24
  case yaw24 => (intro w' hSw; (try dsimp only at hSw); go_simp; try (with_reducible rfl))
  simp only [Act.put, List.setIfInBounds_toArray, List.set_cons_zero, List.set_cons_succ]
  refine wpAnyH_take (i := 25) (oi := ⟨some 36, _, _, _, _, _⟩) (v := ?vaw25) rfl (by kernel_rfl) (by kernel_rfl) (by kernel_rfl) (fun _ _ _ h => h) (Or.inl ⟨by rfl, ?yaw25⟩) hHeld ?raw25
  case yaw25 => (intro w' hSw; (try dsimp only at hSw); go_simp; try (with_reducible rfl))
  simp only [Act.put, List.setIfInBounds_toArray, List.set_cons_zero, List.set_cons_succ]
  refine wpAnyH_take (i := 26) (oi := ⟨some 37, _, _, _, _, _⟩) (v := ?vaw26) rfl (by kernel_rfl) (by kernel_rfl) (by kernel_rfl) (fun _ _ _ h => h) (Or.inl ⟨by rfl, ?yaw26⟩) hHeld ?raw26
  case yaw26 => (intro w' hSw; (try dsimp only at hSw); go_simp; try (with_reducible rfl))
  simp only [Act.put, List.setIfInBounds_toArray, List.set_cons_zero, List.set_cons_succ]
  refine wpAnyH_take (i := 27) (oi := ⟨some 38, _, _, _, _, _⟩) (v := ?vaw27) rfl (by kernel_rfl) (by kernel_rfl) (by kernel_rfl) (fun _ _ _ h => h) (Or.inl ⟨by rfl, ?yaw27⟩) hHeld ?raw27
  case yaw27 => (intro w' hSw; (try dsimp only at hSw); go_simp; try (with_reducible rfl))
  simp only [Act.put, List.setIfInBounds_toArray, List.set_cons_zero, List.set_cons_succ]
  refine wpAnyH_take (i := 28) (oi := ⟨some 39, _, _, _, _, _⟩) (v := ?vaw28) rfl (by kernel_rfl) (by kernel_rfl) (by kernel_rfl) (fun _ _ _ h => h) (Or.inl ⟨by rfl, ?yaw28⟩) hHeld ?raw28
  case yaw28 => (intro w' hSw; (try dsimp only at hSw); go_simp; try (with_reducible rfl))
  simp only [Act.put, List.setIfInBounds_toArray, List.set_cons_zero, List.set_cons_succ]
  refine wpAnyH_take (i := 29) (oi := ⟨some 40, _, _, _, _, _⟩) (v := ?vaw29) rfl (by kernel_rfl) (by kernel_rfl) (by kernel_rfl) (fun _ _ _ h => h) (Or.inl ⟨by rfl, ?yaw29⟩) hHeld ?raw29
  case yaw29 => (intro w' hSw; (try dsimp only at hSw); go_simp; try (with_reducible rfl))
  simp only [Act.put, List.setIfInBounds_toArray, List.set_cons_zero, List.set_cons_succ]
  refine wpAnyH_take (i := 30) (oi := ⟨some 0, _, _, _, _, _⟩) (v := ?vaw30) rfl (by kernel_rfl) (by kernel_rfl) (by kernel_rfl) (fun _ _ _ h => h) (Or.inl ⟨by rfl, ?yaw30⟩) hHeld ?raw30
  case yaw30 => (intro w' hSw; (try dsimp only at hSw); go_simp; try (with_reducible rfl))
  simp only [Act.put, List.setIfInBounds_toArray, List.set_cons_zero]
  refine wpAnyH_done (by kernel_rfl) ?_ _
  have HBE := Lib.hid (HB4.out.trans (hHeld.1.mono HB4.out.size))
  clear hHeld HKP
  go_wp2
  go_ret
  exact ⟨rfl, HBE.out⟩
end Go.Proofs

namespace Go.Proofs
open Go.RowKit Go.Proofs.Hd Go.Lib
set_option maxRecDepth 100000 in
set_option maxHeartbeats 8000000 in
theorem copy_c (tv pv wv bv : Value) (T : List (List Pt)) (ten : Int) (P : List (Int × Int)) (Q : List Wa) (BB : List (List (List Rl))) (w : World) (hT : PsT w tv T) (hP : Pe w pv P) (hQ : Wy w wv Q) (hB : RuQ w bv BB) (hz : Szd T P Q BB) :
    Calls Try.prog 21 #[.agg #[tv, .int .i64 ten, pv, wv, bv]] w fun e w' => ∃ tv' pv' wv' bv', e = .returned (.agg #[tv', .int .i64 ten, pv', wv', bv']) ∧ Cfo w.heap.size w' tv' pv' wv' bv' T P Q BB ∧ Below w.heap.size w w' := by
  have HSP := Lib.hid (hP.rde.src len_a (by decide) one_a)
  have HSW := Lib.hid (hQ.rde.src len_w (by decide) one_w)
  have h24 := hz.t
  have hP24 := hz.p
  have hQ24 := hz.q
  have hB24 := hz.b
  have HZL := Lib.hid hz.l
  have HZX := Lib.hid hz.x
  have HZR := Lib.hid hz.r
  have hTz : (T.length : Int) ≤ 5864062014634 := by omega
  have hBz : (BB.length : Int) ≤ 5864062014634 := by omega
  obtain ⟨A, cap, rfl, -, hA⟩ := hT
  obtain ⟨pA, pc, rfl, -, -⟩ := hP
  obtain ⟨wA, wcp, rfl, -, -⟩ := hQ
  obtain ⟨bA, bc, rfl, -, hBA⟩ := hB
  have HA := Lib.hid hA
  have HBA := Lib.hid hBA
  clear hz hA hBA
  obtain ⟨ia, hia, ha0, ha1, ha2⟩ := info_parts info_pair
  obtain ⟨iw, hiw, hw0, hw1', hw2'⟩ := info_parts info_way
  obtain ⟨i1, hi1, hz0, hz1, hz2⟩ := info_parts info_port
  obtain ⟨i2, hi2, hy0, hy1, hy2⟩ := info_parts info_ports
  obtain ⟨i3, hi3, hx0, hx1, hx2⟩ := info_parts info_rule
  obtain ⟨i4, hi4, hv0, hv1, hv2⟩ := info_parts info_rules
  obtain ⟨i5, hi5, hu0, hu1, hu2⟩ := info_parts info_tabs
  have HB1 : Hid (Below w.heap.size w ((w.alloc (.cells #[.slice A T.length cap, .int .i64 ten, .slice pA P.length pc, .slice wA Q.length wcp, .slice bA BB.length bc] 31)).alloc (.cells #[.slice none 0 0, .int .i64 0, .slice none 0 0, .slice none 0 0, .slice none 0 0] 31))) := below2 w _ _
  have N1 : Hid (Blk ((w.alloc (.cells #[.slice A T.length cap, .int .i64 ten, .slice pA P.length pc, .slice wA Q.length wcp, .slice bA BB.length bc] 31)).alloc (.cells #[.slice none 0 0, .int .i64 0, .slice none 0 0, .slice none 0 0, .slice none 0 0] 31)) w.heap.size 31 #[.slice A T.length cap, .int .i64 ten, .slice pA P.length pc, .slice wA Q.length wcp, .slice bA BB.length bc]) := (Blk.new w _ _).on (below1 _ _)
  have R1 : Hid (Blk ((w.alloc (.cells #[.slice A T.length cap, .int .i64 ten, .slice pA P.length pc, .slice wA Q.length wcp, .slice bA BB.length bc] 31)).alloc (.cells #[.slice none 0 0, .int .i64 0, .slice none 0 0, .slice none 0 0, .slice none 0 0] 31)) (w.heap.size + 1) 31 #[.slice none 0 0, .int .i64 0, .slice none 0 0, .slice none 0 0, .slice none 0 0]) := Blk.new2 w _ _ _
  go_enter Try.func21, Try.ntmps21
  go_upto_region 1 with (fail)
  generalize ((w.alloc (.cells #[.slice A T.length cap, .int .i64 ten, .slice pA P.length pc, .slice wA Q.length wcp, .slice bA BB.length bc] 31)).alloc (.cells #[.slice none 0 0, .int .i64 0, .slice none 0 0, .slice none 0 0, .slice none 0 0] 31)) = w1 at HB1 N1 R1 ⊢
  obtain ⟨d0, d1, d2, d3, d4⟩ := N1.out.five
  have HBX : Hid (Blk (w1.alloc (.cells #[.slice none 0 0, .int .i64 ten, .slice none 0 0, .slice none 0 0, .slice none 0 0] 31)) w1.heap.size 31 #[.slice none 0 0, .int .i64 ten, .slice none 0 0, .slice none 0 0, .slice none 0 0]) := Blk.new w1 _ _
  have HCF : Hid (Cfo w1.heap.size (w1.alloc (.cells #[.slice none 0 0, .int .i64 ten, .slice none 0 0, .slice none 0 0, .slice none 0 0] 31)) (.slice none 0 0) (.slice none 0 0) (.slice none 0 0) (.slice none 0 0) [] [] [] []) := Cfo.start
  have HBL : Hid (Below w1.heap.size w1 (w1.alloc (.cells #[.slice none 0 0, .int .i64 ten, .slice none 0 0, .slice none 0 0, .slice none 0 0] 31))) := below1 w1 _
  go_upto_region 2 with (fail)
  clear d0 d1 d2 d3 d4
  generalize w1.alloc (.cells #[.slice none 0 0, .int .i64 ten, .slice none 0 0, .slice none 0 0, .slice none 0 0] 31) = w2 at HBX HCF HBL ⊢
  obtain ⟨d0, d1, d2, d3, d4⟩ := (N1.out.on HBL.out).five
  have ba := below1 w2 (.cells #[] 66)
  have O0 := World.ownsRow_made (base := w2.heap.size) (e := 66) (size := 2) w2 #[] 0 (Nat.le_refl _) (Nat.zero_le _) rfl
  have SR := HSP.out.on ((HB1.out.trans (HBL.out.mono HB1.out.size)).trans (ba.mono (Nat.le_trans HB1.out.size HBL.out.size)))
  have hsz := ba.size
  obtain ⟨D0, D1, D2, D3, D4⟩ := ((N1.out.on HBL.out).on ba).five
  go_wp2_with (at_builtin; refine wpList_app _ rfl (.tmp 13) (.tmp 16) 25 rfl w2.heap.size 66 ia _ 2 16 Try.underlying25 hia ha0 ha1 ha2 rfl (by decide) _ 0 [] rfl O0 _ P.length (P.flatMap encA) rfl SR (by unfold maxLen; omega) (by omega) hsz ?_)
  intro v3 w3 O3 hg3
  obtain ⟨A2, c2, rfl, -⟩ := own_sl O3
  have B3 := ba.grown hg3 hsz (fun j hj => (O0.lt j hj).1)
  have HBX3 := HBX.out.on B3
  have hc2 := HBX3.five.2.2.1
  have hf := HBX3.free 2
  have HBL3 := HBL.out.trans (B3.mono HBL.out.size)
  have HCF3 := HCF.out.on B3
  have HO3 := World.ownsRow.mono O3 HBL.out.size
  have HBXn := Lib.hid (HBX3.set 2 (.slice A2 P.length c2))
  have HBLn := Lib.hid (HBL3.setCell (p := ⟨w1.heap.size, 2, none⟩) (Nat.le_refl _) (.slice A2 P.length c2))
  have HCFn : Hid (Cfo w1.heap.size (w3.setCell ⟨w1.heap.size, 2, none⟩ (.slice A2 P.length c2)) (.slice none 0 0) (.slice A2 P.length c2) (.slice none 0 0) (.slice none 0 0) [] P [] []) := Cfo.box ⟨_, _, HBX3⟩ ⟨HCF3.ports, HO3, HCF3.ways, HCF3.tabs⟩
  clear O0 SR hsz O3 hg3 B3 HBX3 HBL3 HCF3 HO3 ba HBX HBL HCF D0 D1 D2 D3 D4 d0 d1 d2 d3 d4
  go_upto_region 3 with (fail)
  clear hc2 hf
  have HBX : Hid (Blk (w3.setCell ⟨w1.heap.size, 2, none⟩ (.slice A2 P.length c2)) w1.heap.size 31 #[.slice none 0 0, .int .i64 ten, .slice A2 P.length c2, .slice none 0 0, .slice none 0 0]) := by have h := HBXn.out; show Blk _ _ _ _; simpa using h
  have HBL := HBLn
  have HCF := HCFn
  clear HBXn HBLn HCFn
  generalize (w3.setCell ⟨w1.heap.size, 2, none⟩ (.slice A2 P.length c2)) = w4 at HBX HCF HBL ⊢
  obtain ⟨d0, d1, d2, d3, d4⟩ := (N1.out.on HBL.out).five
  have ba := below1 w4 (.cells #[] 68)
  have O0 := World.ownsRow_made (base := w4.heap.size) (e := 68) (size := 3) w4 #[] 0 (Nat.le_refl _) (Nat.zero_le _) rfl
  have SR := HSW.out.on ((HB1.out.trans (HBL.out.mono HB1.out.size)).trans (ba.mono (Nat.le_trans HB1.out.size HBL.out.size)))
  have hsz := ba.size
  obtain ⟨D0, D1, D2, D3, D4⟩ := ((N1.out.on HBL.out).on ba).five
  go_wp2_with (at_builtin; refine wpList_app _ rfl (.tmp 20) (.tmp 23) 26 rfl w4.heap.size 68 iw _ 3 24 Try.underlying26 hiw hw0 hw1' hw2' rfl (by decide) _ 0 [] rfl O0 _ Q.length (Q.flatMap Wa.cs) rfl SR (by unfold maxLen; omega) (by omega) hsz ?_)
  intro v5 w5 O3 hg3
  obtain ⟨A3, c3, rfl, -⟩ := own_sl O3
  have B3 := ba.grown hg3 hsz (fun j hj => (O0.lt j hj).1)
  have HBX3 := HBX.out.on B3
  have hc3 := HBX3.five.2.2.2.1
  have hf := HBX3.free 3
  have HBL3 := HBL.out.trans (B3.mono HBL.out.size)
  have HCF3 := HCF.out.on B3
  have HO3 := World.ownsRow.mono O3 HBL.out.size
  have HBXn := Lib.hid (HBX3.set 3 (.slice A3 Q.length c3))
  have HBLn := Lib.hid (HBL3.setCell (p := ⟨w1.heap.size, 3, none⟩) (Nat.le_refl _) (.slice A3 Q.length c3))
  have HCFn : Hid (Cfo w1.heap.size (w5.setCell ⟨w1.heap.size, 3, none⟩ (.slice A3 Q.length c3)) (.slice none 0 0) (.slice A2 P.length c2) (.slice A3 Q.length c3) (.slice none 0 0) [] P Q []) := Cfo.box ⟨_, _, HBX3⟩ ⟨HCF3.ports, HCF3.peers, HO3, HCF3.tabs⟩
  clear O0 SR hsz O3 hg3 B3 HBX3 HBL3 HCF3 HO3 ba HBX HBL HCF D0 D1 D2 D3 D4 d0 d1 d2 d3 d4
  go_upto_region 4 with (fail)
  clear hc3 hf
  have HBX : Hid (Blk (w5.setCell ⟨w1.heap.size, 3, none⟩ (.slice A3 Q.length c3)) w1.heap.size 31 #[.slice none 0 0, .int .i64 ten, .slice A2 P.length c2, .slice A3 Q.length c3, .slice none 0 0]) := by have h := HBXn.out; show Blk _ _ _ _; simpa using h
  have HBL := HBLn
  have HCF := HCFn
  clear HBXn HBLn HCFn
  generalize (w5.setCell ⟨w1.heap.size, 3, none⟩ (.slice A3 Q.length c3)) = w6 at HBX HCF HBL ⊢
  obtain ⟨d0, d1, d2, d3, d4⟩ := (N1.out.on HBL.out).five
  go_wp2
  clear d0 d1 d2 d3 d4
  go_loopg [4] T.length (fun gk s4 wr => ∃ (k : Nat) (tv' : Value), k ≤ T.length ∧ gk = T.length - k ∧ s4 = .int .i64 k ∧ Hid (Blk wr w1.heap.size 31 #[tv', .int .i64 ten, .slice A2 P.length c2, .slice A3 Q.length c3, .slice none 0 0]) ∧ Hid (Cfo w1.heap.size wr tv' (.slice A2 P.length c2) (.slice A3 Q.length c3) (.slice none 0 0) (T.take k) P Q []) ∧ Hid (Below w1.heap.size w1 wr))
  case atStart => exact ⟨0, _, Nat.zero_le _, rfl, rfl, HBX, HCF, HBL⟩
  case round =>
    clear HBX HCF HBL
    obtain ⟨k, tv', hk, rfl, rfl, HBX, HCF, HBL⟩ := hrel
    have HBW := Lib.hid (HB1.out.trans (HBL.out.mono HB1.out.size))
    obtain ⟨d0, d1, d2, d3, d4⟩ := (N1.out.on HBL.out).five
    by_cases hlt : k < T.length
    · have hltz : (k : Int) < (T.length : Int) := by omega
      obtain ⟨L, hL⟩ : ∃ L, T[k]? = some L := ⟨_, List.getElem?_eq_getElem hlt⟩
      obtain ⟨tb, tof, rfl, _, hc⟩ := HA.out (by rintro rfl; simp at hlt)
      obtain ⟨s, hs0, hR⟩ := hc k L hL
      have HLB := Lib.hid (HZL.out L (List.mem_of_getElem? hL))
      have HSL0 := Lib.hid (hR.rde.src len_pt (by decide) one_pt)
      obtain ⟨A5, c5, rfl, -⟩ := hR
      have HSL := HSL0
      have HKL := Lib.hid hL
      have y0 := on_some HBW.out hs0
      have htk : (T.take k).length = k := by simp; omega
      have hLb : L.length ≤ 3518437208780 := HLB.out
      obtain ⟨hs, ho1, ho2⟩ := HCF.out.ports
      have HO1 := Lib.hid ho1
      have HO2 := Lib.hid ho2
      have KP : ∀ W, Below w1.heap.size w1 W → (Below w1.heap.size w1 W ∧ W.cell? ⟨w.heap.size, 0, none⟩ = some (.slice (some ⟨tb, tof, none⟩) T.length cap) ∧ W.cell? ⟨tb, tof + k, none⟩ = some (.slice A5 L.length c5)) := fun W hb => ⟨hb, (N1.out.on hb).five.1, on_some (HB1.out.trans (hb.mono HB1.out.size)) hs0⟩
      have HKP := Lib.hid KP
      clear KP hL hc ho1 ho2 HSL0
      go_upto_region 7 with (fail)
      refine wp_region_held_drew (S := fun w' => Below w1.heap.size w1 w' ∧ w'.cell? ⟨w.heap.size, 0, none⟩ = some (.slice (some ⟨tb, tof, none⟩) T.length cap) ∧ w'.cell? ⟨tb, tof + k, none⟩ = some (.slice A5 L.length c5)) (by kernel_rfl) (HKP.out _ HBL.out.drew) (fun hHeld => ?_)
      have hw : Below wr.heap.size wr wr.drew := (Below.refl _ wr).drew
      generalize wr.drew = u0 at hHeld hw ⊢
      clear d0 d1 d2 d3 d4 y0 hs0
      refine wpAnyH_take (i := 0) (oi := ⟨some 35, _, _, _, _, _⟩) (v := ?vrc1) rfl (by kernel_rfl) (by kernel_rfl) (by kernel_rfl) (fun _ _ _ h => h) (Or.inl ⟨by rfl, ?yrc1⟩) hHeld ?rrc1
      case yrc1 => (intro w' hSw; (try dsimp only at hSw); go_simp; try (with_reducible rfl))
      simp only [Act.put, List.setIfInBounds_toArray, List.set_cons_zero, List.set_cons_succ]
      refine wpAnyH_take (i := 1) (oi := ⟨some 36, _, _, _, _, _⟩) (v := ?vrc2) rfl (by kernel_rfl) (by kernel_rfl) (by kernel_rfl) (fun _ _ _ h => h) (Or.inl ⟨by rfl, ?yrc2⟩) hHeld ?rrc2
      case yrc2 => (intro w' hSw; (try dsimp only at hSw); go_simp; try (with_reducible rfl))
      simp only [Act.put, List.setIfInBounds_toArray, List.set_cons_zero, List.set_cons_succ]
      refine wpAnyH_take (i := 4) (oi := ⟨some 39, _, _, _, _, _⟩) (v := ?vrc3) rfl (by kernel_rfl) (by kernel_rfl) (by kernel_rfl) (fun _ _ _ h => h) (Or.inl ⟨by rfl, ?yrc3⟩) hHeld ?rrc3
      case yrc3 => (intro w' hSw; (try dsimp only at hSw); go_simp; try (with_reducible rfl))
      simp only [Act.put, List.setIfInBounds_toArray, List.set_cons_zero, List.set_cons_succ]
      refine wpAnyH_take (i := 5) (oi := ⟨some 40, _, _, _, _, _⟩) (v := ?vrc4) rfl (by kernel_rfl) (by kernel_rfl) (by kernel_rfl) (fun _ _ _ h => h) (Or.inl ⟨by rfl, ?yrc4⟩) hHeld ?rrc4
      case yrc4 => (intro w' hSw; (try dsimp only at hSw); go_simp; try (with_reducible rfl))
      simp only [Act.put, List.setIfInBounds_toArray, List.set_cons_zero, List.set_cons_succ]
      refine wpAnyH_take (i := 6) (oi := ⟨some 41, _, _, _, _, _⟩) (v := ?vrc5) rfl (by kernel_rfl) (by kernel_rfl) (by kernel_rfl) (fun _ _ _ h => h) (Or.inl ⟨by rfl, ?yrc5⟩) hHeld ?rrc5
      case yrc5 => (intro w' hSw; (try dsimp only at hSw); go_simp; try (with_reducible rfl))
      simp only [Act.put, List.setIfInBounds_toArray, List.set_cons_zero, List.set_cons_succ]
      refine wpAnyH_take (i := 7) (oi := ⟨some 42, _, _, _, _, _⟩) (v := ?vrc6) rfl (by kernel_rfl) (by kernel_rfl) (by kernel_rfl) (fun _ _ _ h => h) (Or.inl ⟨by rfl, ?yrc6⟩) hHeld ?rrc6
      case yrc6 => (intro w' hSw; (try dsimp only at hSw); go_simp; try (with_reducible rfl))
      simp only [Act.put, List.setIfInBounds_toArray, List.set_cons_zero, List.set_cons_succ]
      refine wpAnyH_take (i := 8) (oi := ⟨some 43, _, _, _, _, _⟩) (v := ?vrc7) rfl (by kernel_rfl) (by kernel_rfl) (by kernel_rfl) (fun _ _ _ h => h) (Or.inl ⟨by rfl, ?yrc7⟩) hHeld ?rrc7
      case yrc7 => (intro w' hSw; (try dsimp only at hSw); go_simp; try (with_reducible rfl))
      simp only [Act.put, List.setIfInBounds_toArray, List.set_cons_zero, List.set_cons_succ]
      refine wpAnyH_take (i := 9) (oi := ⟨some 44, _, _, _, _, _⟩) (v := ?vrc8) rfl (by kernel_rfl) (by kernel_rfl) (by kernel_rfl) (fun _ _ _ h => h) (Or.inl ⟨by rfl, ?yrc8⟩) hHeld ?rrc8
      case yrc8 => (intro w' hSw; (try dsimp only at hSw); go_simp; try (with_reducible rfl))
      simp only [Act.put, List.setIfInBounds_toArray, List.set_cons_zero, List.set_cons_succ]
      refine wpAnyH_ready (rs := [2, 3]) (by kernel_rfl) (by simp) ?_
      refine AllReadyH.cons (o := ⟨some 37, _, _, _, _, _⟩) rfl (fun K hK => ?_) ?_
      · have lb := (HBX.out.on hw).five.1
        go_simp
        refine hK.out _ _ hHeld (fun hNext => ?_)
        clear hK K hHeld
        have hHeld := hNext
        clear hNext
        clear lb
        try simp only [Act.put, List.setIfInBounds_toArray, List.set_cons_zero, List.set_cons_succ]
        refine wpAnyH_ready (rs := [3]) (by kernel_rfl) (by simp) ?_
        refine AllReadyH.cons (o := ⟨some 38, _, _, _, _, _⟩) rfl (fun K hK => ?_) AllReadyH.nil
        go_simp
        have hb := below1 u0 (.cells #[] 65)
        refine hK.out _ _ (HKP.out _ (hHeld.1.trans (hb.mono hHeld.1.size))) (fun hNext => ?_)
        have O0 : (u0.alloc (.cells #[] 65)).ownsRow u0.heap.size 65 5 (.slice (some ⟨u0.heap.size, 0, none⟩) 0 0) 0 [] := World.ownsRow_made u0 #[] 0 (Nat.le_refl _) (Nat.zero_le _) rfl
        have hg0 : wr.heap.size ≤ u0.heap.size := hw.size
        have hg1 : u0.heap.size ≤ (u0.alloc (.cells #[] 65)).heap.size := by simp
        replace hw := hw.trans (hb.mono hw.size)
        clear hK K hHeld
        have hHeld := hNext
        clear hNext
        clear hb
        generalize hgen : (u0.alloc (.cells #[] 65)) = u2 at hHeld O0 hg1 hw ⊢
        clear hgen
        generalize hgen : u0.heap.size = g0 at O0 hg0 hg1 ⊢
        clear hgen
        try simp only [Act.put, List.setIfInBounds_toArray, List.set_cons_zero, List.set_cons_succ]
        refine wpAnyH_ready (rs := [10]) (by kernel_rfl) (by simp) ?_
        refine AllReadyH.cons (o := ⟨some 45, _, _, _, _, _⟩) rfl (fun K hK => ?_) AllReadyH.nil
        have SR := HSL.out.on (HBW.out.trans (hw.mono HBW.out.size))
        refine step_app _ rfl (.tmp 38) (.tmp 44) 63 rfl g0 65 i1 _ 5 40 Try.underlying63 hi1 hz0 hz1 hz2 rfl (by decide) (.slice (some ⟨g0, 0, none⟩) 0 0) 0 [] rfl O0 _ L.length (L.flatMap Pt.cs) rfl SR (by unfold maxLen; omega) (by omega) hg1 ?_
        intro v2 u3 O2 hg2
        have B2 := hHeld.1.grown hg2 hHeld.1.size (fun j hj => Nat.le_trans HBL.out.size (Nat.le_trans hg0 (O0.lt j hj).1))
        replace hw := hw.grown hg2 hw.size (fun j hj => Nat.le_trans hg0 (O0.lt j hj).1)
        refine hK.out _ _ (HKP.out _ B2) (fun hNext => ?_)
        clear hK K hHeld
        have hHeld := hNext
        clear hNext
        rw [Nat.zero_add, List.nil_append] at O2
        obtain ⟨A6, c6, rfl, -⟩ := own_sl O2
        have OX : O1P w1.heap.size u3 (.slice A6 L.length c6) L := World.ownsRow.mono O2 (Nat.le_trans HBL.out.size hg0)
        clear O0 hg0 hg1 hg2 B2 SR O2
        try simp only [Act.put, List.setIfInBounds_toArray, List.set_cons_zero, List.set_cons_succ]
        refine wpAnyH_ready (rs := [11]) (by kernel_rfl) (by simp) ?_
        refine AllReadyH.cons (o := ⟨some 46, _, _, _, _, _⟩) rfl (fun K hK => ?_) AllReadyH.nil
        go_simp
        have hb := below1 u3 (.cells #[.slice A6 L.length c6] 63)
        refine hK.out _ _ (HKP.out _ (hHeld.1.trans (hb.mono hHeld.1.size))) (fun hNext => ?_)
        have N4 : Blk (u3.alloc (.cells #[.slice A6 L.length c6] 63)) u3.heap.size 63 #[.slice A6 L.length c6] := Blk.new u3 _ _
        replace OX := O1P.on _ _ _ _ _ hb OX
        replace hw := hw.trans (hb.mono hw.size)
        clear hK K hHeld
        have hHeld := hNext
        clear hNext
        clear hb
        generalize hgen : (u3.alloc (.cells #[.slice A6 L.length c6] 63)) = u4 at hHeld N4 OX hw ⊢
        clear hgen
        generalize hgen : u3.heap.size = g4 at N4 ⊢
        clear hgen
        try simp only [Act.put, List.setIfInBounds_toArray, List.set_cons_zero, List.set_cons_succ]
        refine wpAnyH_ready (rs := [12]) (by kernel_rfl) (by simp) ?_
        refine AllReadyH.cons (o := ⟨some 47, _, _, _, _, _⟩) rfl (fun K hK => ?_) AllReadyH.nil
        have o1 := own_on HO1.out hw
        have o2 := fun (i : Nat) (x : List Pt) (hx : (T.take k)[i]? = some x) => (show ∃ s, hs[i]? = some s ∧ O1P w1.heap.size _ s x from by obtain ⟨s, e, h⟩ := HO2.out i x hx; exact ⟨s, e, O1P.on _ _ _ _ _ hw h⟩)
        refine step_app _ rfl (.tmp 37) (.tmp 46) 22 rfl w1.heap.size 63 i2 _ 1 24 Try.underlying22 hi2 hy0 hy1 hy2 rfl (by decide) tv' (T.take k).length hs rfl o1 _ 1 [.slice A6 L.length c6] rfl (src_head N4 rfl) (by rw [htk]; unfold maxLen; omega) (by rw [htk]; omega) hHeld.1.size ?_
        intro v3 u5 O3 hg3
        have CF := Cfo.appP (HCF.out.on hw) o1 o2 OX O3 hg3
        have BX := blk_kept (own_rw o1) (by decide) hg3 (HBX.out.on hw)
        have BL := (HBL.out.trans (hw.mono HBL.out.size)).grown hg3 (Nat.le_trans HBL.out.size hw.size) (fun j hj => (o1.lt j hj).1)
        obtain ⟨A7, c7, rfl, -⟩ := own_sl O3
        refine hK.out _ _ (HKP.out _ BL) (fun hNext => ?_)
        clear hK K hHeld
        have hHeld := hNext
        clear hNext
        clear o1 o2 N4 OX O3 hg3 hw
        try simp only [Act.put, List.setIfInBounds_toArray, List.set_cons_zero, List.set_cons_succ]
        refine wpAnyH_take (i := 13) (oi := ⟨some 48, _, _, _, _, _⟩) (v := ?vrc9) rfl (by kernel_rfl) (by kernel_rfl) (by kernel_rfl) (fun _ _ _ h => h) (Or.inl ⟨by rfl, ?yrc9⟩) hHeld ?rrc9
        case yrc9 => (intro w' hSw; (try dsimp only at hSw); go_simp; try (with_reducible rfl))
        simp only [Act.put, List.setIfInBounds_toArray, List.set_cons_zero, List.set_cons_succ]
        refine wpAnyH_take (i := 14) (oi := ⟨some 49, _, _, _, _, _⟩) (v := ?vrc10) rfl (by kernel_rfl) (by kernel_rfl) (by kernel_rfl) (fun _ _ _ h => h) (Or.inl ⟨by rfl, ?yrc10⟩) hHeld ?rrc10
        case yrc10 => (intro w' hSw; (try dsimp only at hSw); go_simp; try (with_reducible rfl))
        simp only [Act.put, List.setIfInBounds_toArray, List.set_cons_zero, List.set_cons_succ]
        refine wpAnyH_ready (rs := [15]) (by kernel_rfl) (by simp) ?_
        refine AllReadyH.cons (o := ⟨none, _, _, _, _, _⟩) rfl (fun K hK => ?_) AllReadyH.nil
        have hf := BX.free 0
        have hc := BX.five.1
        have hlt3 := BX.lt
        go_simp
        refine hK.out _ _ (HKP.out _ (BL.setCell (p := ⟨w1.heap.size, 0, none⟩) (Nat.le_refl _) _)) (fun hNext => ?_)
        clear hK K hHeld
        have hHeld := hNext
        clear hNext
        have HCF2 := Lib.hid (Cfo.box (i := 0) (u := .slice A7 ((T.take k).length + 1) c7) ⟨_, _, BX⟩ CF)
        have HBX2 := Lib.hid (BX.set 0 (.slice A7 ((T.take k).length + 1) c7))
        have HBL2 := Lib.hid (BL.setCell (p := ⟨w1.heap.size, 0, none⟩) (Nat.le_refl _) (.slice A7 ((T.take k).length + 1) c7))
        clear CF BX BL hf hc hlt3
        try simp only [Act.put]
        refine wpAnyH_done (by kernel_rfl) ?_ _
        rw [← take_snoc HKL.out, htk] at HCF2
        rw [htk] at HBL2
        have HBX3 : Hid (Blk (u5.setCell ⟨w1.heap.size, 0, none⟩ (.slice A7 (k + 1) c7)) w1.heap.size 31 #[.slice A7 (k + 1) c7, .int .i64 ten, .slice A2 P.length c2, .slice A3 Q.length c3, .slice none 0 0]) := by have h := HBX2.out; rw [htk] at h; show Blk _ _ _ _; simpa using h
        clear HBX2 hHeld HKP HCF HBX HBL HO1 HO2 HSL
        go_wp2
        go_roundg (T.length - (k + 1))
        case measure => omega
        case rel => exact ⟨k + 1, _, by omega, rfl, by go_num, HBX3, HCF2, HBL2⟩
      refine AllReadyH.cons (o := ⟨some 38, _, _, _, _, _⟩) rfl (fun K hK => ?_) AllReadyH.nil
      go_simp
      have hb := below1 u0 (.cells #[] 65)
      refine hK.out _ _ (HKP.out _ (hHeld.1.trans (hb.mono hHeld.1.size))) (fun hNext => ?_)
      have O0 : (u0.alloc (.cells #[] 65)).ownsRow u0.heap.size 65 5 (.slice (some ⟨u0.heap.size, 0, none⟩) 0 0) 0 [] := World.ownsRow_made u0 #[] 0 (Nat.le_refl _) (Nat.zero_le _) rfl
      have hg0 : wr.heap.size ≤ u0.heap.size := hw.size
      have hg1 : u0.heap.size ≤ (u0.alloc (.cells #[] 65)).heap.size := by simp
      replace hw := hw.trans (hb.mono hw.size)
      clear hK K hHeld
      have hHeld := hNext
      clear hNext
      clear hb
      generalize hgen : (u0.alloc (.cells #[] 65)) = u7 at hHeld O0 hg1 hw ⊢
      clear hgen
      generalize hgen : u0.heap.size = g0 at O0 hg0 hg1 ⊢
      clear hgen
      try simp only [Act.put, List.setIfInBounds_toArray, List.set_cons_zero, List.set_cons_succ]
      refine wpAnyH_ready (rs := [2, 10]) (by kernel_rfl) (by simp) ?_
      refine AllReadyH.cons (o := ⟨some 37, _, _, _, _, _⟩) rfl (fun K hK => ?_) ?_
      · have lb := (HBX.out.on hw).five.1
        go_simp
        refine hK.out _ _ hHeld (fun hNext => ?_)
        clear hK K hHeld
        have hHeld := hNext
        clear hNext
        clear lb
        try simp only [Act.put, List.setIfInBounds_toArray, List.set_cons_zero, List.set_cons_succ]
        refine wpAnyH_ready (rs := [10]) (by kernel_rfl) (by simp) ?_
        refine AllReadyH.cons (o := ⟨some 45, _, _, _, _, _⟩) rfl (fun K hK => ?_) AllReadyH.nil
        have SR := HSL.out.on (HBW.out.trans (hw.mono HBW.out.size))
        refine step_app _ rfl (.tmp 38) (.tmp 44) 63 rfl g0 65 i1 _ 5 40 Try.underlying63 hi1 hz0 hz1 hz2 rfl (by decide) (.slice (some ⟨g0, 0, none⟩) 0 0) 0 [] rfl O0 _ L.length (L.flatMap Pt.cs) rfl SR (by unfold maxLen; omega) (by omega) hg1 ?_
        intro v2 u9 O2 hg2
        have B2 := hHeld.1.grown hg2 hHeld.1.size (fun j hj => Nat.le_trans HBL.out.size (Nat.le_trans hg0 (O0.lt j hj).1))
        replace hw := hw.grown hg2 hw.size (fun j hj => Nat.le_trans hg0 (O0.lt j hj).1)
        refine hK.out _ _ (HKP.out _ B2) (fun hNext => ?_)
        clear hK K hHeld
        have hHeld := hNext
        clear hNext
        rw [Nat.zero_add, List.nil_append] at O2
        obtain ⟨A6, c6, rfl, -⟩ := own_sl O2
        have OX : O1P w1.heap.size u9 (.slice A6 L.length c6) L := World.ownsRow.mono O2 (Nat.le_trans HBL.out.size hg0)
        clear O0 hg0 hg1 hg2 B2 SR O2
        try simp only [Act.put, List.setIfInBounds_toArray, List.set_cons_zero, List.set_cons_succ]
        refine wpAnyH_ready (rs := [11]) (by kernel_rfl) (by simp) ?_
        refine AllReadyH.cons (o := ⟨some 46, _, _, _, _, _⟩) rfl (fun K hK => ?_) AllReadyH.nil
        go_simp
        have hb := below1 u9 (.cells #[.slice A6 L.length c6] 63)
        refine hK.out _ _ (HKP.out _ (hHeld.1.trans (hb.mono hHeld.1.size))) (fun hNext => ?_)
        have N4 : Blk (u9.alloc (.cells #[.slice A6 L.length c6] 63)) u9.heap.size 63 #[.slice A6 L.length c6] := Blk.new u9 _ _
        replace OX := O1P.on _ _ _ _ _ hb OX
        replace hw := hw.trans (hb.mono hw.size)
        clear hK K hHeld
        have hHeld := hNext
        clear hNext
        clear hb
        generalize hgen : (u9.alloc (.cells #[.slice A6 L.length c6] 63)) = u10 at hHeld N4 OX hw ⊢
        clear hgen
        generalize hgen : u9.heap.size = g4 at N4 ⊢
        clear hgen
        try simp only [Act.put, List.setIfInBounds_toArray, List.set_cons_zero, List.set_cons_succ]
        refine wpAnyH_ready (rs := [12]) (by kernel_rfl) (by simp) ?_
        refine AllReadyH.cons (o := ⟨some 47, _, _, _, _, _⟩) rfl (fun K hK => ?_) AllReadyH.nil
        have o1 := own_on HO1.out hw
        have o2 := fun (i : Nat) (x : List Pt) (hx : (T.take k)[i]? = some x) => (show ∃ s, hs[i]? = some s ∧ O1P w1.heap.size _ s x from by obtain ⟨s, e, h⟩ := HO2.out i x hx; exact ⟨s, e, O1P.on _ _ _ _ _ hw h⟩)
        refine step_app _ rfl (.tmp 37) (.tmp 46) 22 rfl w1.heap.size 63 i2 _ 1 24 Try.underlying22 hi2 hy0 hy1 hy2 rfl (by decide) tv' (T.take k).length hs rfl o1 _ 1 [.slice A6 L.length c6] rfl (src_head N4 rfl) (by rw [htk]; unfold maxLen; omega) (by rw [htk]; omega) hHeld.1.size ?_
        intro v3 u11 O3 hg3
        have CF := Cfo.appP (HCF.out.on hw) o1 o2 OX O3 hg3
        have BX := blk_kept (own_rw o1) (by decide) hg3 (HBX.out.on hw)
        have BL := (HBL.out.trans (hw.mono HBL.out.size)).grown hg3 (Nat.le_trans HBL.out.size hw.size) (fun j hj => (o1.lt j hj).1)
        obtain ⟨A7, c7, rfl, -⟩ := own_sl O3
        refine hK.out _ _ (HKP.out _ BL) (fun hNext => ?_)
        clear hK K hHeld
        have hHeld := hNext
        clear hNext
        clear o1 o2 N4 OX O3 hg3 hw
        try simp only [Act.put, List.setIfInBounds_toArray, List.set_cons_zero, List.set_cons_succ]
        refine wpAnyH_take (i := 13) (oi := ⟨some 48, _, _, _, _, _⟩) (v := ?vrc11) rfl (by kernel_rfl) (by kernel_rfl) (by kernel_rfl) (fun _ _ _ h => h) (Or.inl ⟨by rfl, ?yrc11⟩) hHeld ?rrc11
        case yrc11 => (intro w' hSw; (try dsimp only at hSw); go_simp; try (with_reducible rfl))
        simp only [Act.put, List.setIfInBounds_toArray, List.set_cons_zero, List.set_cons_succ]
        refine wpAnyH_take (i := 14) (oi := ⟨some 49, _, _, _, _, _⟩) (v := ?vrc12) rfl (by kernel_rfl) (by kernel_rfl) (by kernel_rfl) (fun _ _ _ h => h) (Or.inl ⟨by rfl, ?yrc12⟩) hHeld ?rrc12
        case yrc12 => (intro w' hSw; (try dsimp only at hSw); go_simp; try (with_reducible rfl))
        simp only [Act.put, List.setIfInBounds_toArray, List.set_cons_zero, List.set_cons_succ]
        refine wpAnyH_ready (rs := [15]) (by kernel_rfl) (by simp) ?_
        refine AllReadyH.cons (o := ⟨none, _, _, _, _, _⟩) rfl (fun K hK => ?_) AllReadyH.nil
        have hf := BX.free 0
        have hc := BX.five.1
        have hlt3 := BX.lt
        go_simp
        refine hK.out _ _ (HKP.out _ (BL.setCell (p := ⟨w1.heap.size, 0, none⟩) (Nat.le_refl _) _)) (fun hNext => ?_)
        clear hK K hHeld
        have hHeld := hNext
        clear hNext
        have HCF2 := Lib.hid (Cfo.box (i := 0) (u := .slice A7 ((T.take k).length + 1) c7) ⟨_, _, BX⟩ CF)
        have HBX2 := Lib.hid (BX.set 0 (.slice A7 ((T.take k).length + 1) c7))
        have HBL2 := Lib.hid (BL.setCell (p := ⟨w1.heap.size, 0, none⟩) (Nat.le_refl _) (.slice A7 ((T.take k).length + 1) c7))
        clear CF BX BL hf hc hlt3
        try simp only [Act.put]
        refine wpAnyH_done (by kernel_rfl) ?_ _
        rw [← take_snoc HKL.out, htk] at HCF2
        rw [htk] at HBL2
        have HBX3 : Hid (Blk (u11.setCell ⟨w1.heap.size, 0, none⟩ (.slice A7 (k + 1) c7)) w1.heap.size 31 #[.slice A7 (k + 1) c7, .int .i64 ten, .slice A2 P.length c2, .slice A3 Q.length c3, .slice none 0 0]) := by have h := HBX2.out; rw [htk] at h; show Blk _ _ _ _; simpa using h
        clear HBX2 hHeld HKP HCF HBX HBL HO1 HO2 HSL
        go_wp2
        go_roundg (T.length - (k + 1))
        case measure => omega
        case rel => exact ⟨k + 1, _, by omega, rfl, by go_num, HBX3, HCF2, HBL2⟩
      refine AllReadyH.cons (o := ⟨some 45, _, _, _, _, _⟩) rfl (fun K hK => ?_) AllReadyH.nil
      have SR := HSL.out.on (HBW.out.trans (hw.mono HBW.out.size))
      refine step_app _ rfl (.tmp 38) (.tmp 44) 63 rfl g0 65 i1 _ 5 40 Try.underlying63 hi1 hz0 hz1 hz2 rfl (by decide) (.slice (some ⟨g0, 0, none⟩) 0 0) 0 [] rfl O0 _ L.length (L.flatMap Pt.cs) rfl SR (by unfold maxLen; omega) (by omega) hg1 ?_
      intro v2 u13 O2 hg2
      have B2 := hHeld.1.grown hg2 hHeld.1.size (fun j hj => Nat.le_trans HBL.out.size (Nat.le_trans hg0 (O0.lt j hj).1))
      replace hw := hw.grown hg2 hw.size (fun j hj => Nat.le_trans hg0 (O0.lt j hj).1)
      refine hK.out _ _ (HKP.out _ B2) (fun hNext => ?_)
      clear hK K hHeld
      have hHeld := hNext
      clear hNext
      rw [Nat.zero_add, List.nil_append] at O2
      obtain ⟨A6, c6, rfl, -⟩ := own_sl O2
      have OX : O1P w1.heap.size u13 (.slice A6 L.length c6) L := World.ownsRow.mono O2 (Nat.le_trans HBL.out.size hg0)
      clear O0 hg0 hg1 hg2 B2 SR O2
      try simp only [Act.put, List.setIfInBounds_toArray, List.set_cons_zero, List.set_cons_succ]
      refine wpAnyH_ready (rs := [2, 11]) (by kernel_rfl) (by simp) ?_
      refine AllReadyH.cons (o := ⟨some 37, _, _, _, _, _⟩) rfl (fun K hK => ?_) ?_
      · have lb := (HBX.out.on hw).five.1
        go_simp
        refine hK.out _ _ hHeld (fun hNext => ?_)
        clear hK K hHeld
        have hHeld := hNext
        clear hNext
        clear lb
        try simp only [Act.put, List.setIfInBounds_toArray, List.set_cons_zero, List.set_cons_succ]
        refine wpAnyH_ready (rs := [11]) (by kernel_rfl) (by simp) ?_
        refine AllReadyH.cons (o := ⟨some 46, _, _, _, _, _⟩) rfl (fun K hK => ?_) AllReadyH.nil
        go_simp
        have hb := below1 u13 (.cells #[.slice A6 L.length c6] 63)
        refine hK.out _ _ (HKP.out _ (hHeld.1.trans (hb.mono hHeld.1.size))) (fun hNext => ?_)
        have N4 : Blk (u13.alloc (.cells #[.slice A6 L.length c6] 63)) u13.heap.size 63 #[.slice A6 L.length c6] := Blk.new u13 _ _
        replace OX := O1P.on _ _ _ _ _ hb OX
        replace hw := hw.trans (hb.mono hw.size)
        clear hK K hHeld
        have hHeld := hNext
        clear hNext
        clear hb
        generalize hgen : (u13.alloc (.cells #[.slice A6 L.length c6] 63)) = u15 at hHeld N4 OX hw ⊢
        clear hgen
        generalize hgen : u13.heap.size = g4 at N4 ⊢
        clear hgen
        try simp only [Act.put, List.setIfInBounds_toArray, List.set_cons_zero, List.set_cons_succ]
        refine wpAnyH_ready (rs := [12]) (by kernel_rfl) (by simp) ?_
        refine AllReadyH.cons (o := ⟨some 47, _, _, _, _, _⟩) rfl (fun K hK => ?_) AllReadyH.nil
        have o1 := own_on HO1.out hw
        have o2 := fun (i : Nat) (x : List Pt) (hx : (T.take k)[i]? = some x) => (show ∃ s, hs[i]? = some s ∧ O1P w1.heap.size _ s x from by obtain ⟨s, e, h⟩ := HO2.out i x hx; exact ⟨s, e, O1P.on _ _ _ _ _ hw h⟩)
        refine step_app _ rfl (.tmp 37) (.tmp 46) 22 rfl w1.heap.size 63 i2 _ 1 24 Try.underlying22 hi2 hy0 hy1 hy2 rfl (by decide) tv' (T.take k).length hs rfl o1 _ 1 [.slice A6 L.length c6] rfl (src_head N4 rfl) (by rw [htk]; unfold maxLen; omega) (by rw [htk]; omega) hHeld.1.size ?_
        intro v3 u16 O3 hg3
        have CF := Cfo.appP (HCF.out.on hw) o1 o2 OX O3 hg3
        have BX := blk_kept (own_rw o1) (by decide) hg3 (HBX.out.on hw)
        have BL := (HBL.out.trans (hw.mono HBL.out.size)).grown hg3 (Nat.le_trans HBL.out.size hw.size) (fun j hj => (o1.lt j hj).1)
        obtain ⟨A7, c7, rfl, -⟩ := own_sl O3
        refine hK.out _ _ (HKP.out _ BL) (fun hNext => ?_)
        clear hK K hHeld
        have hHeld := hNext
        clear hNext
        clear o1 o2 N4 OX O3 hg3 hw
        try simp only [Act.put, List.setIfInBounds_toArray, List.set_cons_zero, List.set_cons_succ]
        refine wpAnyH_take (i := 13) (oi := ⟨some 48, _, _, _, _, _⟩) (v := ?vrc13) rfl (by kernel_rfl) (by kernel_rfl) (by kernel_rfl) (fun _ _ _ h => h) (Or.inl ⟨by rfl, ?yrc13⟩) hHeld ?rrc13
        case yrc13 => (intro w' hSw; (try dsimp only at hSw); go_simp; try (with_reducible rfl))
        simp only [Act.put, List.setIfInBounds_toArray, List.set_cons_zero, List.set_cons_succ]
        refine wpAnyH_take (i := 14) (oi := ⟨some 49, _, _, _, _, _⟩) (v := ?vrc14) rfl (by kernel_rfl) (by kernel_rfl) (by kernel_rfl) (fun _ _ _ h => h) (Or.inl ⟨by rfl, ?yrc14⟩) hHeld ?rrc14
        case yrc14 => (intro w' hSw; (try dsimp only at hSw); go_simp; try (with_reducible rfl))
        simp only [Act.put, List.setIfInBounds_toArray, List.set_cons_zero, List.set_cons_succ]
        refine wpAnyH_ready (rs := [15]) (by kernel_rfl) (by simp) ?_
        refine AllReadyH.cons (o := ⟨none, _, _, _, _, _⟩) rfl (fun K hK => ?_) AllReadyH.nil
        have hf := BX.free 0
        have hc := BX.five.1
        have hlt3 := BX.lt
        go_simp
        refine hK.out _ _ (HKP.out _ (BL.setCell (p := ⟨w1.heap.size, 0, none⟩) (Nat.le_refl _) _)) (fun hNext => ?_)
        clear hK K hHeld
        have hHeld := hNext
        clear hNext
        have HCF2 := Lib.hid (Cfo.box (i := 0) (u := .slice A7 ((T.take k).length + 1) c7) ⟨_, _, BX⟩ CF)
        have HBX2 := Lib.hid (BX.set 0 (.slice A7 ((T.take k).length + 1) c7))
        have HBL2 := Lib.hid (BL.setCell (p := ⟨w1.heap.size, 0, none⟩) (Nat.le_refl _) (.slice A7 ((T.take k).length + 1) c7))
        clear CF BX BL hf hc hlt3
        try simp only [Act.put]
        refine wpAnyH_done (by kernel_rfl) ?_ _
        rw [← take_snoc HKL.out, htk] at HCF2
        rw [htk] at HBL2
        have HBX3 : Hid (Blk (u16.setCell ⟨w1.heap.size, 0, none⟩ (.slice A7 (k + 1) c7)) w1.heap.size 31 #[.slice A7 (k + 1) c7, .int .i64 ten, .slice A2 P.length c2, .slice A3 Q.length c3, .slice none 0 0]) := by have h := HBX2.out; rw [htk] at h; show Blk _ _ _ _; simpa using h
        clear HBX2 hHeld HKP HCF HBX HBL HO1 HO2 HSL
        go_wp2
        go_roundg (T.length - (k + 1))
        case measure => omega
        case rel => exact ⟨k + 1, _, by omega, rfl, by go_num, HBX3, HCF2, HBL2⟩
      refine AllReadyH.cons (o := ⟨some 46, _, _, _, _, _⟩) rfl (fun K hK => ?_) AllReadyH.nil
      go_simp
      have hb := below1 u13 (.cells #[.slice A6 L.length c6] 63)
      refine hK.out _ _ (HKP.out _ (hHeld.1.trans (hb.mono hHeld.1.size))) (fun hNext => ?_)
      have N4 : Blk (u13.alloc (.cells #[.slice A6 L.length c6] 63)) u13.heap.size 63 #[.slice A6 L.length c6] := Blk.new u13 _ _
      replace OX := O1P.on _ _ _ _ _ hb OX
      replace hw := hw.trans (hb.mono hw.size)
      clear hK K hHeld
      have hHeld := hNext
      clear hNext
      clear hb
      generalize hgen : (u13.alloc (.cells #[.slice A6 L.length c6] 63)) = u18 at hHeld N4 OX hw ⊢
      clear hgen
      generalize hgen : u13.heap.size = g4 at N4 ⊢
      clear hgen
      try simp only [Act.put, List.setIfInBounds_toArray, List.set_cons_zero, List.set_cons_succ]
      refine wpAnyH_ready (rs := [2]) (by kernel_rfl) (by simp) ?_
      refine AllReadyH.cons (o := ⟨some 37, _, _, _, _, _⟩) rfl (fun K hK => ?_) AllReadyH.nil
      have lb := (HBX.out.on hw).five.1
      go_simp
      refine hK.out _ _ hHeld (fun hNext => ?_)
      clear hK K hHeld
      have hHeld := hNext
      clear hNext
      clear lb
      try simp only [Act.put, List.setIfInBounds_toArray, List.set_cons_zero, List.set_cons_succ]
      refine wpAnyH_ready (rs := [12]) (by kernel_rfl) (by simp) ?_
      refine AllReadyH.cons (o := ⟨some 47, _, _, _, _, _⟩) rfl (fun K hK => ?_) AllReadyH.nil
      have o1 := own_on HO1.out hw
      have o2 := fun (i : Nat) (x : List Pt) (hx : (T.take k)[i]? = some x) => (show ∃ s, hs[i]? = some s ∧ O1P w1.heap.size _ s x from by obtain ⟨s, e, h⟩ := HO2.out i x hx; exact ⟨s, e, O1P.on _ _ _ _ _ hw h⟩)
      refine step_app _ rfl (.tmp 37) (.tmp 46) 22 rfl w1.heap.size 63 i2 _ 1 24 Try.underlying22 hi2 hy0 hy1 hy2 rfl (by decide) tv' (T.take k).length hs rfl o1 _ 1 [.slice A6 L.length c6] rfl (src_head N4 rfl) (by rw [htk]; unfold maxLen; omega) (by rw [htk]; omega) hHeld.1.size ?_
      intro v3 u20 O3 hg3
      have CF := Cfo.appP (HCF.out.on hw) o1 o2 OX O3 hg3
      have BX := blk_kept (own_rw o1) (by decide) hg3 (HBX.out.on hw)
      have BL := (HBL.out.trans (hw.mono HBL.out.size)).grown hg3 (Nat.le_trans HBL.out.size hw.size) (fun j hj => (o1.lt j hj).1)
      obtain ⟨A7, c7, rfl, -⟩ := own_sl O3
      refine hK.out _ _ (HKP.out _ BL) (fun hNext => ?_)
      clear hK K hHeld
      have hHeld := hNext
      clear hNext
      clear o1 o2 N4 OX O3 hg3 hw
      try simp only [Act.put, List.setIfInBounds_toArray, List.set_cons_zero, List.set_cons_succ]
      refine wpAnyH_take (i := 13) (oi := ⟨some 48, _, _, _, _, _⟩) (v := ?vrc15) rfl (by kernel_rfl) (by kernel_rfl) (by kernel_rfl) (fun _ _ _ h => h) (Or.inl ⟨by rfl, ?yrc15⟩) hHeld ?rrc15
      case yrc15 => (intro w' hSw; (try dsimp only at hSw); go_simp; try (with_reducible rfl))
      simp only [Act.put, List.setIfInBounds_toArray, List.set_cons_zero, List.set_cons_succ]
      refine wpAnyH_take (i := 14) (oi := ⟨some 49, _, _, _, _, _⟩) (v := ?vrc16) rfl (by kernel_rfl) (by kernel_rfl) (by kernel_rfl) (fun _ _ _ h => h) (Or.inl ⟨by rfl, ?yrc16⟩) hHeld ?rrc16
      case yrc16 => (intro w' hSw; (try dsimp only at hSw); go_simp; try (with_reducible rfl))
      simp only [Act.put, List.setIfInBounds_toArray, List.set_cons_zero, List.set_cons_succ]
      refine wpAnyH_ready (rs := [15]) (by kernel_rfl) (by simp) ?_
      refine AllReadyH.cons (o := ⟨none, _, _, _, _, _⟩) rfl (fun K hK => ?_) AllReadyH.nil
      have hf := BX.free 0
      have hc := BX.five.1
      have hlt3 := BX.lt
      go_simp
      refine hK.out _ _ (HKP.out _ (BL.setCell (p := ⟨w1.heap.size, 0, none⟩) (Nat.le_refl _) _)) (fun hNext => ?_)
      clear hK K hHeld
      have hHeld := hNext
      clear hNext
      have HCF2 := Lib.hid (Cfo.box (i := 0) (u := .slice A7 ((T.take k).length + 1) c7) ⟨_, _, BX⟩ CF)
      have HBX2 := Lib.hid (BX.set 0 (.slice A7 ((T.take k).length + 1) c7))
      have HBL2 := Lib.hid (BL.setCell (p := ⟨w1.heap.size, 0, none⟩) (Nat.le_refl _) (.slice A7 ((T.take k).length + 1) c7))
      clear CF BX BL hf hc hlt3
      try simp only [Act.put]
      refine wpAnyH_done (by kernel_rfl) ?_ _
      rw [← take_snoc HKL.out, htk] at HCF2
      rw [htk] at HBL2
      have HBX3 : Hid (Blk (u20.setCell ⟨w1.heap.size, 0, none⟩ (.slice A7 (k + 1) c7)) w1.heap.size 31 #[.slice A7 (k + 1) c7, .int .i64 ten, .slice A2 P.length c2, .slice A3 Q.length c3, .slice none 0 0]) := by have h := HBX2.out; rw [htk] at h; show Blk _ _ _ _; simpa using h
      clear HBX2 hHeld HKP HCF HBX HBL HO1 HO2 HSL
      go_wp2
      go_roundg (T.length - (k + 1))
      case measure => omega
      case rel => exact ⟨k + 1, _, by omega, rfl, by go_num, HBX3, HCF2, HBL2⟩
    · have hltz : ¬ (k : Int) < (T.length : Int) := by omega
      have htk : T.take k = T := List.take_of_length_le (by omega)
      rw [htk] at HCF
      clear htk
      go_wp2
      clear d0 d1 d2 d3 d4
      go_loopg [5, 6, 7] BB.length (fun gk s5 _ _ wr => ∃ (k : Nat) (bv' : Value), k ≤ BB.length ∧ gk = BB.length - k ∧ s5 = .int .i64 k ∧ Hid (Blk wr w1.heap.size 31 #[tv', .int .i64 ten, .slice A2 P.length c2, .slice A3 Q.length c3, bv']) ∧ Hid (Cfo w1.heap.size wr tv' (.slice A2 P.length c2) (.slice A3 Q.length c3) bv' T P Q (BB.take k)) ∧ Hid (Below w1.heap.size w1 wr))
      case atStart => exact ⟨0, _, Nat.zero_le _, rfl, rfl, HBX, HCF, HBL⟩
      case round =>
        clear HBX HCF HBL HBW
        rename_i wr0
        obtain ⟨k, bv', hk, rfl, rfl, HBX, HCF, HBL⟩ := hrel
        rename World => wk
        have HBW := Lib.hid (HB1.out.trans (HBL.out.mono HB1.out.size))
        by_cases hlt : k < BB.length
        · have hltz : (k : Int) < (BB.length : Int) := by omega
          obtain ⟨X, hX⟩ : ∃ X, BB[k]? = some X := ⟨_, List.getElem?_eq_getElem hlt⟩
          obtain ⟨bb, bo, rfl, _, hbc⟩ := HBA.out (by rintro rfl; simp at hlt)
          obtain ⟨s, hs0, hR⟩ := hbc k X hX
          have HXB := HZX.out X (List.mem_of_getElem? hX)
          have HRB := Lib.hid (HZR.out X (List.mem_of_getElem? hX))
          obtain ⟨A5, c5, rfl, -, -, hXA⟩ := hR
          have HXA := Lib.hid hXA
          have HKX := Lib.hid hX
          have HS0 := Lib.hid hs0
          have hXz : (X.length : Int) ≤ 5864062014634 := by omega
          have b0 := below1 wk (.cells #[] 58)
          have HOI : Hid (O2R wk.heap.size (wk.alloc (.cells #[] 58)) (.slice (some ⟨wk.heap.size, 0, none⟩) 0 0) (X.take 0)) := ⟨[], World.ownsRow_made (base := wk.heap.size) (e := 58) (size := 1) wk #[] 0 (Nat.le_refl _) (Nat.zero_le _) rfl, fun i x hx => by simp at hx⟩
          have HWI := Lib.hid b0
          obtain ⟨d0, d1, d2, d3, d4⟩ := (N1.out.on HBL.out).five
          clear hX hbc hs0 hXA b0
          go_wp2
          clear d0 d1 d2 d3 d4
          go_loopg [6, 7] X.length (fun gk s6 s7 wq => ∃ j : Nat, j ≤ X.length ∧ gk = X.length - j ∧ s7 = .int .i64 j ∧ Hid (O2R wk.heap.size wq s6 (X.take j)) ∧ Hid (Below wk.heap.size wk wq))
          case atStart => exact ⟨0, Nat.zero_le _, rfl, rfl, HOI, HWI⟩
          case round =>
            clear HOI HWI
            obtain ⟨j, hj, rfl, rfl, HO, HW⟩ := hrel
            have HBJ := Lib.hid (HBW.out.trans (HW.out.mono HBW.out.size))
            obtain ⟨d0, d1, d2, d3, d4⟩ := (N1.out.on (HBL.out.trans (HW.out.mono HBL.out.size))).five
            have y0 := on_some HBJ.out HS0.out
            clear d0 d1 d2 d3
            by_cases hjt : j < X.length
            · have hjz : (j : Int) < (X.length : Int) := by omega
              obtain ⟨L, hL⟩ : ∃ L, X[j]? = some L := ⟨_, List.getElem?_eq_getElem hjt⟩
              obtain ⟨xb, xo, rfl, _, hxc⟩ := HXA.out (by rintro rfl; simp at hjt)
              obtain ⟨s2, hs2, hR2⟩ := hxc j L hL
              have HSL := Lib.hid (hR2.rde.src len_rl (by decide) one_rl)
              obtain ⟨A6, c6, rfl, -⟩ := hR2.form
              have hLb := HRB.out L (List.mem_of_getElem? hL)
              have HKL := Lib.hid hL
              obtain ⟨Y, hY⟩ : ∃ Y, Hid (X.take j = Y) := ⟨_, rfl⟩
              rw [hY.out] at HO
              have hYl : Y.length ≤ X.length := by rw [← hY.out]; simp; omega
              have HTK : Hid (X.take (j + 1) = Y ++ [L]) := by show _ = _; rw [take_snoc hL, hY.out]
              obtain ⟨hs, ho1, ho2⟩ := HO.out
              have HO1 := Lib.hid ho1
              have HO2 := Lib.hid ho2
              have ba := below1 wr (.cells #[] 62)
              have O0 := World.ownsRow_made (base := wr.heap.size) (e := 62) (size := 12) wr #[] 0 (Nat.le_refl _) (Nat.zero_le _) rfl
              have hsz := ba.size
              have SR := HSL.out.on (HBJ.out.trans (ba.mono HBJ.out.size))
              have D4 := on_some ba d4
              have Y0 := on_some ba y0
              have Y1 := on_some (HBJ.out.trans (ba.mono HBJ.out.size)) hs2
              clear hL hxc hs2 hR2 ho1 ho2 HO
              go_wp2_with (at_builtin; refine wpList_app _ rfl (.tmp 69) (.tmp 77) 58 rfl wr.heap.size 62 i3 _ 12 96 Try.underlying58 hi3 hx0 hx1 hx2 rfl (by decide) _ 0 [] rfl O0 _ L.length (L.flatMap Rl.cs) rfl SR (by unfold maxLen; omega) (by omega) hsz ?_)
              intro v4 w4 O4 hg4
              have B4 := ba.grown hg4 hsz (fun i hi => (O0.lt i hi).1)
              obtain ⟨A7, c7, rfl, -⟩ := own_sl O4
              have OX : O1R wk.heap.size w4 (.slice A7 L.length c7) L := World.ownsRow.mono O4 HW.out.size
              have bb4 := below1 w4 (.cells #[.slice A7 L.length c7] 58)
              have N4 : Blk (w4.alloc (.cells #[.slice A7 L.length c7] 58)) w4.heap.size 58 #[.slice A7 L.length c7] := Blk.new w4 _ _
              have B5 := B4.trans (bb4.mono B4.size)
              have o1 := own_on HO1.out B5
              have HB5 := Lib.hid B5
              have OX5 := Lib.hid (O1R.on _ _ _ _ _ bb4 OX)
              have hsz5 : wk.heap.size ≤ (w4.alloc (.cells #[.slice A7 L.length c7] 58)).heap.size := Nat.le_trans HW.out.size B5.size
              clear O0 SR hsz ba hg4 O4 OX bb4 B4 B5 D4 Y0 Y1 d4 y0
              go_wp2_with (at_builtin; refine wpList_app _ rfl (.tmp 68) (.tmp 79) 57 rfl wk.heap.size 58 i4 _ 1 24 Try.underlying57 hi4 hv0 hv1 hv2 rfl (by decide) _ Y.length hs rfl o1 _ 1 [.slice A7 L.length c7] rfl (src_head N4 rfl) (by unfold maxLen; omega) (by omega) hsz5 ?_)
              intro v5 w5 O5 hg5
              have HO5 : Hid (O2R wk.heap.size w5 v5 (X.take (j + 1))) := by
                show O2R _ _ _ _
                rw [HTK.out]
                exact O2R.app o1 (fun i x hx => by obtain ⟨s, e, h⟩ := HO2.out i x hx; exact ⟨s, e, O1R.on _ _ _ _ _ HB5.out h⟩) OX5.out O5 hg5
              have HW5 := Lib.hid ((HW.out.trans (HB5.out.mono HW.out.size)).grown hg5 hsz5 (fun i hi => (o1.lt i hi).1))
              clear o1 N4 O5 hg5 HO1 HO2 HB5 OX5 HW HBJ hsz5
              go_wp2
              go_roundg (X.length - (j + 1))
              case measure => omega
              case rel => exact ⟨j + 1, by omega, rfl, by go_num, HO5, HW5⟩
            · have hjz : ¬ (j : Int) < (X.length : Int) := by omega
              have htj : X.take j = X := List.take_of_length_le (by omega)
              rw [htj] at HO
              clear htj
              obtain ⟨A8, c8, rfl, -, -⟩ := OwG.rd HO.out
              obtain ⟨Y, hY⟩ : ∃ Y, Hid (BB.take k = Y) := ⟨_, rfl⟩
              rw [hY.out] at HCF
              have hYl : Y.length ≤ BB.length := by rw [← hY.out]; simp; omega
              have HTK : Hid (BB.take (k + 1) = Y ++ [X]) := by show _ = _; rw [take_snoc HKX.out, hY.out]
              have HBX1 := HBX.out.on HW.out
              have HBL1 := HBL.out.trans (HW.out.mono HBL.out.size)
              have bb4 := below1 wr (.cells #[.slice A8 X.length c8] 57)
              have N4 : Blk (wr.alloc (.cells #[.slice A8 X.length c8] 57)) wr.heap.size 57 #[.slice A8 X.length c8] := Blk.new wr _ _
              have HCF2 := Lib.hid ((HCF.out.on HW.out).on bb4)
              obtain ⟨hs, o1, o2⟩ := HCF2.out.tabs
              have HO2 := Lib.hid o2
              have OX2 : Hid (O2R w1.heap.size (wr.alloc (.cells #[.slice A8 X.length c8] 57)) (.slice A8 X.length c8) X) := O2R.on _ _ _ _ _ bb4 (O2R.mono HBL.out.size HO.out)
              have HBX2 := HBX1.on bb4
              have HBL2 := HBL1.trans (bb4.mono HBL1.size)
              have hsz2 := HBL2.size
              have HBX2h := Lib.hid HBX2
              have HBL2h := Lib.hid HBL2
              obtain ⟨g0, g1, g2, g3, g4⟩ := HBX1.five
              clear o2 HBX1 HBL1 bb4 HO HBX HBL HCF HBX2 HBL2 g0 g1 g2 g3
              go_wp2_with (at_builtin; refine wpList_app _ rfl (.tmp 82) (.tmp 84) 29 rfl w1.heap.size 57 i5 _ 1 24 Try.underlying29 hi5 hu0 hu1 hu2 rfl (by decide) _ Y.length hs rfl o1 _ 1 [.slice A8 X.length c8] rfl (src_head N4 rfl) (by unfold maxLen; omega) (by omega) hsz2 ?_)
              intro v6 w6 O6 hg6
              have CF := Cfo.appB HCF2.out o1 HO2.out OX2.out O6 hg6
              have BX := blk_kept (own_rw o1) (by decide) hg6 HBX2h.out
              have BL := HBL2h.out.grown hg6 hsz2 (fun i hi => (o1.lt i hi).1)
              obtain ⟨A9, c9, rfl, -⟩ := own_sl O6
              have hf := BX.free 4
              have hc := BX.five.2.2.2.2
              have HCF6 : Hid (Cfo w1.heap.size (w6.setCell ⟨w1.heap.size, 4, none⟩ (.slice A9 (Y.length + 1) c9)) tv' (.slice A2 P.length c2) (.slice A3 Q.length c3) (.slice A9 (Y.length + 1) c9) T P Q (BB.take (k + 1))) := by
                show Cfo _ _ _ _ _ _ _ _ _ _
                rw [HTK.out]
                exact Cfo.box ⟨_, _, BX⟩ CF
              have HBX6 : Hid (Blk (w6.setCell ⟨w1.heap.size, 4, none⟩ (.slice A9 (Y.length + 1) c9)) w1.heap.size 31 #[tv', .int .i64 ten, .slice A2 P.length c2, .slice A3 Q.length c3, .slice A9 (Y.length + 1) c9]) := by have h := BX.set 4 (.slice A9 (Y.length + 1) c9); show Blk _ _ _ _; simpa using h
              have HBL6 := Lib.hid (BL.setCell (p := ⟨w1.heap.size, 4, none⟩) (Nat.le_refl _) (.slice A9 (Y.length + 1) c9))
              clear CF BX BL o1 N4 O6 hg6 HCF2 HO2 OX2 HBX2h HBL2h hsz2 HW HBJ d4 y0 g4
              go_wp2
              go_roundg (BB.length - (k + 1))
              case measure => omega
              case rel => exact ⟨k + 1, _, by omega, rfl, by go_num, HBX6, HCF6, HBL6⟩
        · have hltz : ¬ (k : Int) < (BB.length : Int) := by omega
          have htk : BB.take k = BB := List.take_of_length_le (by omega)
          rw [htk] at HCF
          clear htk
          obtain ⟨tA, tc, rfl, -⟩ := OwG.rd HCF.out.ports
          obtain ⟨xA, xc, rfl, -⟩ := OwG.rd HCF.out.tabs
          have R2 := R1.out.on HBL.out
          obtain ⟨d0, d1, d2, d3, d4⟩ := (N1.out.on HBL.out).five
          obtain ⟨g0, g1, g2, g3, g4⟩ := HBX.out.five
          have K5 := R2.put5 (.slice tA T.length tc) (.int .i64 ten) (.slice A2 P.length c2) (.slice A3 Q.length c3) (.slice xA BB.length xc)
          obtain ⟨q0, q1, q2, q3, q4⟩ := K5.five
          obtain ⟨z0, z1, z2, z3, z4⟩ := R2.five
          have f0 := R2.free 0
          have f1 := R2.free 1
          have f2 := R2.free 2
          have f3 := R2.free 3
          have f4 := R2.free 4
          have hsz := HB1.out.size
          have hlt1 : w.heap.size + 1 < w1.heap.size := R1.out.lt
          have HCE := Lib.hid (Cfo.put5 hlt1 HCF.out (.slice tA T.length tc) (.int .i64 ten) (.slice A2 P.length c2) (.slice A3 Q.length c3) (.slice xA BB.length xc))
          have HBE := Lib.hid ((HB1.out.trans (HBL.out.mono hsz)).trans ((below_put5 (w := wk) (B := w.heap.size) (g := w.heap.size + 1) (by omega) (.slice tA T.length tc) (.int .i64 ten) (.slice A2 P.length c2) (.slice A3 Q.length c3) (.slice xA BB.length xc))))
          clear R2 K5 HBX HCF HBL HBW
          go_wp2
          exact bodyPost_ret (v := .agg #[.slice tA T.length tc, .int .i64 ten, .slice A2 P.length c2, .slice A3 Q.length c3, .slice xA BB.length xc]) (by simp [results, Try.results21, go_sem, q0, q1, q2, q3, q4]) rfl ⟨_, _, _, _, rfl, Cfo.mono hsz HCE.out, HBE.out⟩
end Go.Proofs
