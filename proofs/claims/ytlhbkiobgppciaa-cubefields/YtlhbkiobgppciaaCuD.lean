/-
  Contract of cube.Less: the difference of two cubes as a list. Conditions as each theorem lists them.
-/
import Derived.Test.YtlhbkiobgppciaaCuC
import Derived.Test.YtlhbkiobgppciaaCuL
import Derived.Deep.RegionHeld3
import Derived.Deep.LoopGhost
import Derived.Deep.DeepCutAuto
import Derived.Deep.Light
import Derived.OwnWalk
namespace Go.Proofs
open Go.RowKit Go.Proofs.Hd
attribute [local go_sem] uv_and uv_or uv_xor uv_andNot uv_shr uv_shl uv_add uv_sub uv_nonneg
attribute [local go_sem high] run_eq2 run_eq4
theorem bdrew (w : World) : Below w.heap.size w w.drew := (Below.refl _ _).drew
theorem infoCube : (Try.prog.info? 26).map (fun i => (i.zero, i.size, i.bytes)) = some (some (.agg #[.int .u64 0, .int .u64 0, .int .u64 0, .int .u64 0]), 4, 32) := by kernel_rfl
set_option maxHeartbeats 2000000 in
theorem less_no1 (a b : Cb) (w : World) (h1 : sndB a.vh a.vl a.ch a.cl = false) :
    Calls Try.prog 17 #[.agg #[.int .u64 (uv a.vh), .int .u64 (uv a.vl), .int .u64 (uv a.ch), .int .u64 (uv a.cl)], .agg #[.int .u64 (uv b.vh), .int .u64 (uv b.vl), .int .u64 (uv b.ch), .int .u64 (uv b.cl)]] w fun e w' => e = .returned (.slice none 0 0) ∧ Below w.heap.size w w' := by
  have T0 := Tw.start w a b
  have E0 := T0.eqs
  go_enter Try.func17, Try.ntmps17
  go_wp2_with fail
  (with_reducible refine (sound_c _ _ _ _ _).mono ?_)
  rintro e w1 ⟨rfl, hb1⟩
  have T1 := T0.on hb1
  have E1 := T1.eqs
  clear hb1 E0
  go_wp2
  go_ret
  exact ⟨rfl, T1.bel⟩

set_option maxHeartbeats 2000000 in
theorem less_no2 (a b : Cb) (w : World) (h1 : sndB a.vh a.vl a.ch a.cl = true) (h2 : sndB b.vh b.vl b.ch b.cl = false) :
    Calls Try.prog 17 #[.agg #[.int .u64 (uv a.vh), .int .u64 (uv a.vl), .int .u64 (uv a.ch), .int .u64 (uv a.cl)], .agg #[.int .u64 (uv b.vh), .int .u64 (uv b.vl), .int .u64 (uv b.ch), .int .u64 (uv b.cl)]] w fun e w' => e = .returned (.slice none 0 0) ∧ Below w.heap.size w w' := by
  have T0 := Tw.start w a b
  have E0 := T0.eqs
  go_enter Try.func17, Try.ntmps17
  go_wp2_with fail
  (with_reducible refine (sound_c _ _ _ _ _).mono ?_)
  rintro e w1 ⟨rfl, hb1⟩
  have T1 := T0.on hb1
  have E1 := T1.eqs
  clear hb1 E0
  go_wp2_with fail
  (with_reducible refine (sound_c _ _ _ _ _).mono ?_)
  rintro e w2 ⟨rfl, hb2⟩
  have T2 := T1.on hb2
  have E2 := T2.eqs
  clear hb2 E1
  go_wp2
  go_ret
  exact ⟨rfl, T2.bel⟩

set_option maxHeartbeats 2000000 in
theorem less_all (a b : Cb) (w : World) (h1 : sndB a.vh a.vl a.ch a.cl = true) (h2 : sndB b.vh b.vl b.ch b.cl = true) (h3 : agrB a.vh a.vl a.ch a.cl b.vh b.vl b.ch b.cl = false) :
    Calls Try.prog 17 #[.agg #[.int .u64 (uv a.vh), .int .u64 (uv a.vl), .int .u64 (uv a.ch), .int .u64 (uv a.cl)], .agg #[.int .u64 (uv b.vh), .int .u64 (uv b.vl), .int .u64 (uv b.ch), .int .u64 (uv b.cl)]] w (Got w [a]) := by
  have T0 := Tw.start w a b
  have E0 := T0.eqs
  go_enter Try.func17, Try.ntmps17
  go_wp2_with fail
  (with_reducible refine (sound_c _ _ _ _ _).mono ?_)
  rintro e w1 ⟨rfl, hb1⟩
  have T1 := T0.on hb1
  have E1 := T1.eqs
  clear hb1 E0
  go_wp2_with fail
  (with_reducible refine (sound_c _ _ _ _ _).mono ?_)
  rintro e w2 ⟨rfl, hb2⟩
  have T2 := T1.on hb2
  have E2 := T2.eqs
  clear hb2 E1
  go_wp2_with fail
  (with_reducible refine (agree_c _ _ _ _ _ _ _ _ _).mono ?_)
  rintro e w3 ⟨rfl, hb3⟩
  have T3 := T2.on hb3
  have E3 := T3.eqs
  clear hb3 E2
  go_wp2

  go_ret
  exact ⟨_, rfl, World.ownsRow_lit w3 a.arr 1 T3.bel.size (by decide) rfl, T3.bel.alloc T3.bel.size _⟩

set_option maxHeartbeats 2000000 in
theorem less_some (a b : Cb) (w : World) (h1 : sndB a.vh a.vl a.ch a.cl = true) (h2 : sndB b.vh b.vl b.ch b.cl = true) (h3 : agrB a.vh a.vl a.ch a.cl b.vh b.vl b.ch b.cl = true) :
    Calls Try.prog 17 #[.agg #[.int .u64 (uv a.vh), .int .u64 (uv a.vl), .int .u64 (uv a.ch), .int .u64 (uv a.cl)], .agg #[.int .u64 (uv b.vh), .int .u64 (uv b.vl), .int .u64 (uv b.ch), .int .u64 (uv b.cl)]] w (Got w (lessP b a (openBits a b))) := by
  obtain ⟨tgt, htgt⟩ : ∃ t, t = lessP b a (openBits a b) := ⟨_, rfl⟩
  rw [← htgt]
  have HTG := Lib.hid htgt
  clear htgt
  have T0 := Tw.start w a b
  have E0 := T0.eqs
  go_enter Try.func17, Try.ntmps17
  go_wp2_with fail
  (with_reducible refine (sound_c _ _ _ _ _).mono ?_)
  rintro e w1 ⟨rfl, hb1⟩
  have T1 := T0.on hb1
  have E1 := T1.eqs
  clear hb1 E0
  go_wp2_with fail
  (with_reducible refine (sound_c _ _ _ _ _).mono ?_)
  rintro e w2 ⟨rfl, hb2⟩
  have T2 := T1.on hb2
  have E2 := T2.eqs
  clear hb2 E1
  go_wp2_with fail
  (with_reducible refine (agree_c _ _ _ _ _ _ _ _ _).mono ?_)
  rintro e w3 ⟨rfl, hb3⟩
  have T3 := T2.on hb3
  have E3 := T3.eqs
  clear hb3 E2
  go_wp2_with fail
  (with_reducible refine (less_c _ _ _ _ _).mono ?_)
  rintro e w4 ⟨rfl, hb4⟩
  have T4 := T3.on hb4
  have E4 := T4.eqs
  clear hb4 E3
  have HT := Lib.hid (T4.loop (b.ch &&& ~~~a.ch) (b.cl &&& ~~~a.cl))
  clear T0 T1 T2 T3 T4 h1 h2 h3 E4
  go_wp2_with fail
  go_loopg [5, 6] (openBits a b).length (fun n v p wr => ∃ (ks : List Nat) (ac : Cb) (L : List Cb) (g : Nat) (lh ll : BitVec 64), n = ks.length ∧ p = .pointer (some ⟨g, 0, none⟩) ∧ Hid (bitsDown (hbit lh ll) 128 = ks) ∧ Hid (L ++ lessP b ac ks = tgt) ∧ L.length + ks.length ≤ 128 ∧ Lw w wr ac b g lh ll v L)
  case atStart => exact ⟨openBits a b, a, [], w4.heap.size, _, _, rfl, rfl, Lib.hid rfl, Lib.hid HTG.out.symm, Nat.le_trans (Nat.le_of_eq (Nat.zero_add _)) (bitsDown_len _ 128), HT.out⟩
  case round =>
    clear HT
    obtain ⟨ks, ac, L, g, lh, ll, rfl, rfl, HK, HL, hlen, H⟩ := hrel
    have E := H.eqs
    cases ks with
    | nil =>
      have z := pair_zero HK.out
      go_wp2
      go_ret
      exact ⟨_, rfl, by have e := HL.out; simp only [lessP, List.append_nil] at e; rw [← e]; exact H.own.mono (by omega), H.bel⟩
    | cons k ks =>
      have z := pair_some HK.out
      go_wp2_with fail
      (with_reducible refine (highest_c lh ll k ks _ HK.out).mono ?_)
      rintro e w5 ⟨rfl, hb5⟩
      have H5 := H.on hb5
      have E5 := H5.eqs
      have L5 : g < w5.heap.size := H5.bg.lt
      have LB : w.heap.size + 1 < w5.heap.size := H5.bb.lt
      clear H E hb5 z
      go_wp2_with fail
      (with_reducible refine (less_c _ _ _ _ _).mono ?_)
      rintro e w6 ⟨rfl, hb6⟩
      have H6 := (H5.on (below1 w5 (.cells #[.int .u64 (uv (oneH k)), .int .u64 (uv (oneL k))] 24))).on hb6
      have X6 : Blk w6 w5.heap.size 24 (hArr (oneH k) (oneL k)) := (Blk.new w5 24 (hArr (oneH k) (oneL k))).on hb6
      have E6 := H6.eqs
      have x6 := X6.two
      clear H5 E5 hb6
      go_upto_region 10 with (fail)
      have n56 : w5.heap.size ≠ g := by omega
      have H7 := H6.setL (lh &&& ~~~oneH k) (ll &&& ~~~oneL k)
      have X7 : Blk ((w6.setCell ⟨g, 0, none⟩ (.int .u64 (uv (lh &&& ~~~oneH k)))).setCell ⟨g, 1, none⟩ (.int .u64 (uv (ll &&& ~~~oneL k)))) w5.heap.size 24 (hArr (oneH k) (oneL k)) := (X6.far n56 _).far n56 _
      generalize ((w6.setCell ⟨g, 0, none⟩ (.int .u64 (uv (lh &&& ~~~oneH k)))).setCell ⟨g, 1, none⟩ (.int .u64 (uv (ll &&& ~~~oneL k)))) = w7 at H7 X7 ⊢
      clear H6 E6 X6 x6
      have E7 := H7.eqs
      have x7 := X7.two
      go_wp2_with fail
      (with_reducible refine (and_c _ _ _ _ _).mono ?_)
      rintro e w8 ⟨rfl, hb8⟩
      have H8 := H7.on hb8
      have X8 := X7.on hb8
      have E8 := H8.eqs
      clear H7 X7 E7 x7 hb8
      go_upto_region 11 with (fail)
      have bl8 := below1 w8 (.cells #[.int .u64 (uv (b.vh &&& oneH k)), .int .u64 (uv (b.vl &&& oneL k))] 24)
      have H9 := H8.on bl8
      have X9 := X8.on bl8
      have Y9 : Blk (w8.alloc (.cells #[.int .u64 (uv (b.vh &&& oneH k)), .int .u64 (uv (b.vl &&& oneL k))] 24)) w8.heap.size 24 (hArr (b.vh &&& oneH k) (b.vl &&& oneL k)) := Blk.new w8 _ _
      generalize (w8.alloc (.cells #[.int .u64 (uv (b.vh &&& oneH k)), .int .u64 (uv (b.vl &&& oneL k))] 24)) = w9 at H9 X9 Y9 ⊢
      clear H8 X8 E8 bl8
      obtain ⟨i0, hi0, hz0, hz1, hz2⟩ := info_parts infoCube
      refine wp_region_held_drew (S := fun w' => Below w.heap.size w w' ∧ w'.cell? ⟨w.heap.size, 0, none⟩ = some (.int .u64 (uv ac.vh)) ∧ w'.cell? ⟨w.heap.size, 1, none⟩ = some (.int .u64 (uv ac.vl)) ∧ w'.cell? ⟨w.heap.size, 2, none⟩ = some (.int .u64 (uv ac.ch)) ∧ w'.cell? ⟨w.heap.size, 3, none⟩ = some (.int .u64 (uv ac.cl)) ∧ w'.cell? ⟨w5.heap.size, 0, none⟩ = some (.int .u64 (uv (oneH k))) ∧ w'.cell? ⟨w5.heap.size, 1, none⟩ = some (.int .u64 (uv (oneL k))) ∧ w'.cell? ⟨w8.heap.size, 0, none⟩ = some (.int .u64 (uv (b.vh &&& oneH k))) ∧ w'.cell? ⟨w8.heap.size, 1, none⟩ = some (.int .u64 (uv (b.vl &&& oneL k)))) (by kernel_rfl) ⟨H9.bel.drew, H9.ba.cell 0, H9.ba.cell 1, H9.ba.cell 2, H9.ba.cell 3, X9.cell 0, X9.cell 1, Y9.cell 0, Y9.cell 1⟩ (fun hHeld => ?_)
      have H10 := H9.on (bdrew w9)
      have X10 := X9.on (bdrew w9)
      have Y10 := Y9.on (bdrew w9)
      clear H9 X9 Y9
      refine wpAnyH_take (i := 0) (oi := ⟨some 40, _, _, _, _, _⟩) (v := ?vq0) rfl (by kernel_rfl) (by kernel_rfl) (by kernel_rfl) (fun _ _ _ h => h) (Or.inl ⟨by rfl, ?yq0⟩) hHeld ?rq0
      case yq0 => (intro w' hSw; (try dsimp only at hSw); go_simp; try (with_reducible rfl))
      simp only [Act.put, List.setIfInBounds_toArray, List.set_cons_zero, List.set_cons_succ]
      refine wpAnyH_take (i := 1) (oi := ⟨some 41, _, _, _, _, _⟩) (v := ?vq1) rfl (by kernel_rfl) (by kernel_rfl) (by kernel_rfl) (fun _ _ _ h => h) (Or.inl ⟨by rfl, ?yq1⟩) hHeld ?rq1
      case yq1 => (intro w' hSw; (try dsimp only at hSw); go_simp; try (with_reducible rfl))
      simp only [Act.put, List.setIfInBounds_toArray, List.set_cons_zero, List.set_cons_succ]
      refine wpAnyH_take (i := 2) (oi := ⟨some 42, _, _, _, _, _⟩) (v := ?vq2) rfl (by kernel_rfl) (by kernel_rfl) (by kernel_rfl) (fun _ _ _ h => h) (Or.inl ⟨by rfl, ?yq2⟩) hHeld ?rq2
      case yq2 => (intro w' hSw; (try dsimp only at hSw); go_simp; try (with_reducible rfl))
      simp only [Act.put, List.setIfInBounds_toArray, List.set_cons_zero, List.set_cons_succ]
      refine wpAnyH_take (i := 3) (oi := ⟨some 43, _, _, _, _, _⟩) (v := ?vq3) rfl (by kernel_rfl) (by kernel_rfl) (by kernel_rfl) (fun _ _ _ h => h) (Or.inl ⟨by rfl, ?yq3⟩) hHeld ?rq3
      case yq3 => (intro w' hSw; (try dsimp only at hSw); go_simp; try (with_reducible rfl))
      simp only [Act.put, List.setIfInBounds_toArray, List.set_cons_zero, List.set_cons_succ]
      refine wpAnyH_take (i := 4) (oi := ⟨some 44, _, _, _, _, _⟩) (v := ?vq4) rfl (by kernel_rfl) (by kernel_rfl) (by kernel_rfl) (fun _ _ _ h => h) (Or.inl ⟨by rfl, ?yq4⟩) hHeld ?rq4
      case yq4 => (intro w' hSw; (try dsimp only at hSw); go_simp; try (with_reducible rfl))
      simp only [Act.put, List.setIfInBounds_toArray, List.set_cons_zero, List.set_cons_succ]
      refine wpAnyH_ready (rs := [5]) (by kernel_rfl) (by simp) ?_
      refine AllReadyH.cons (o := ⟨some 45, _, _, _, _, _⟩) rfl (fun K hK => ?_) AllReadyH.nil
      go_simp
      (with_reducible refine (xor_c _ _ _ _ _).mono ?_)
      rintro e wq5 ⟨rfl, hb⟩
      have H11 := H10.on hb
      have X11 := X10.on hb
      have Y11 := Y10.on hb
      (try dsimp only)
      refine hK.out _ _ (hold8 hb hHeld) (fun hNext => ?_)
      clear hK K hHeld hb
      have hHeld := hNext
      clear hNext
      try simp only [Act.put, List.setIfInBounds_toArray, List.set_cons_zero, List.set_cons_succ]
      refine wpAnyH_ready (rs := [6]) (by kernel_rfl) (by simp) ?_
      refine AllReadyH.cons (o := ⟨some 46, _, _, _, _, _⟩) rfl (fun K hK => ?_) AllReadyH.nil
      go_simp
      (with_reducible refine (withBit_c _ _ _ _ _ _ _ _ _).mono ?_)
      rintro e wq6 ⟨rfl, hb⟩
      have H12 := H11.on hb
      have X12 := X11.on hb
      have Y12 := Y11.on hb
      (try dsimp only)
      refine hK.out _ _ (hold8 hb hHeld) (fun hNext => ?_)
      clear hK K hHeld hb
      have hHeld := hNext
      clear hNext
      try simp only [Act.put, List.setIfInBounds_toArray, List.set_cons_zero, List.set_cons_succ]
      refine wpAnyH_ready (rs := [7]) (by kernel_rfl) (by simp) ?_
      refine AllReadyH.cons (o := ⟨some 47, _, _, _, _, _⟩) rfl (fun K hK => ?_) AllReadyH.nil
      go_simp
      have hb := below1 wq6 (.cells (wOther ac b k).arr 26)
      have H13 := H12.on hb
      have X13 := X12.on hb
      have Y13 := Y12.on hb
      have N13 : Blk (wq6.alloc (.cells (wOther ac b k).arr 26)) wq6.heap.size 26 (wOther ac b k).arr := Blk.new wq6 _ _
      refine hK.out _ _ (hold8 hb hHeld) (fun hNext => ?_)
      clear hb
      clear hK K hHeld
      have hHeld := hNext
      clear hNext
      try simp only [Act.put, List.setIfInBounds_toArray, List.set_cons_zero, List.set_cons_succ]
      refine wpAnyH_ready (rs := [8]) (by kernel_rfl) (by simp) ?_
      refine AllReadyH.cons (o := ⟨some 48, _, _, _, _, _⟩) rfl (fun K hK => ?_) AllReadyH.nil
      refine step_append_lies _ rfl (.tmp 40) (.tmp 47) 36 rfl (w.heap.size + 2) 26 i0 _ 4 32 Try.underlying36 hi0 hz0 hz1 hz2 rfl (by decide) _ L.length (flat L) rfl H13.own ⟨wq6.heap.size, 0, none⟩ 1 1 (wOther ac b k).cells rfl rfl (World.news_of_block N13) (by intro u hu; simp only [Cb.cells, List.mem_cons, List.not_mem_nil, or_false] at hu; rcases hu with rfl | rfl | rfl | rfl <;> rfl) (by omega) (by simp at hlen; unfold maxLen; omega) (by simp at hlen; omega) (Nat.le_trans H13.bb.lt (Nat.le_refl _)) _ rfl ?_
      intro g2 cap w14 hown hgrow hat hlt
      have H14 := H13.append hgrow hown
      have X14 := X13.grown hgrow (own_apart H13.own X13 (by decide))
      have Y14 := Y13.grown hgrow (own_apart H13.own Y13 (by decide))
      refine hK.out _ _ ⟨H14.bel, H14.ba.cell 0, H14.ba.cell 1, H14.ba.cell 2, H14.ba.cell 3, X14.cell 0, X14.cell 1, Y14.cell 0, Y14.cell 1⟩ (fun hNext => ?_)
      clear hK K hHeld
      have hHeld := hNext
      clear hNext
      try simp only [Act.put, List.setIfInBounds_toArray, List.set_cons_zero, List.set_cons_succ]
      refine wpAnyH_take (i := 9) (oi := ⟨some 5, _, _, _, _, _⟩) (v := ?vq9) rfl (by kernel_rfl) (by kernel_rfl) (by kernel_rfl) (fun _ _ _ h => h) (Or.inl ⟨by rfl, ?yq9⟩) hHeld ?rq9
      case yq9 => (intro w' hSw; (try dsimp only at hSw); go_simp; try (with_reducible rfl))
      simp only [Act.put, List.setIfInBounds_toArray, List.set_cons_zero, List.set_cons_succ]
      refine wpAnyH_done (by kernel_rfl) ?_ _
      have E14 := H14.eqs
      have x14 := X14.two
      have y14 := Y14.two
      clear hHeld hi0 hz0 hz1 hz2 H10 X10 Y10 H11 X11 Y11 H12 X12 Y12 H13 X13 Y13 hown hgrow hat hlt
      go_wp2_with fail
      (with_reducible refine (withBit_c _ _ _ _ _ _ _ _ _).mono ?_)
      rintro e w15 ⟨rfl, hb15⟩
      have H15 := H14.on hb15
      have E15 := H15.eqs
      clear H14 X14 Y14 E14 x14 y14 hb15
      go_upto_region 13 with (fail)
      have H16 := H15.setA (wSame ac b k)
      unfold wSame at H16
      dsimp only at H16
      generalize ((((w15.setCell ⟨w.heap.size, 0, none⟩ (.int .u64 (uv (ac.vh ||| (b.vh &&& oneH k))))).setCell ⟨w.heap.size, 1, none⟩ (.int .u64 (uv (ac.vl ||| (b.vl &&& oneL k))))).setCell ⟨w.heap.size, 2, none⟩ (.int .u64 (uv (ac.ch ||| oneH k)))).setCell ⟨w.heap.size, 3, none⟩ (.int .u64 (uv (ac.cl ||| oneL k)))) = w16 at H16 ⊢
      have E16 := H16.eqs
      clear H15 E15
      go_wp2
      go_roundg ks.length
      case measure => simp
      case rel =>
        refine ⟨ks, wSame ac b k, L ++ [wOther ac b k], w16.heap.size, _, _, rfl, rfl, Lib.hid (next_bits HK.out), Lib.hid ?_, ?_, H16.newL _ _ H16.bb.lt⟩
        · have e := HL.out
          rw [lessP] at e
          simpa using e
        · simp at hlen ⊢; omega
end Go.Proofs
