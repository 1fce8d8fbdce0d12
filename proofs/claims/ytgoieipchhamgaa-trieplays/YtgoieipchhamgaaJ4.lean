/-
  Contracts of trie's partingOf and of the question whether a search enters a branch. Conditions as each theorem lists them.
  Contracts of (*node).with where there is no node yet, and where a node is put above. Conditions as each theorem lists them.
  Contract of (*node).with: at a leaf that has the cube, at a node that has it below, and everywhere. Conditions as each theorem lists them.
-/
import Derived.Test.YtgoieipchhamgaaJ3
namespace Go.Proofs
open Go.RowKit Go.Proofs.Hd Go.Lib
attribute [local go_sem] uv_nonneg
theorem infoHdT : (Try.prog.info? 25).map (·.size) = some 2 := by kernel_rfl
set_option maxRecDepth 100000 in
set_option maxHeartbeats 4000000 in
/-- The highest bit at which two cubes part; -1: they do not. -/
theorem part_c (a b : Cb) (r : Int) (hr : ((prt a b : Nat) : Int) - 1 = r) (w : World) : Calls Try.prog 31 #[.agg #[.int .u64 (uv a.vh), .int .u64 (uv a.vl), .int .u64 (uv a.ch), .int .u64 (uv a.cl)], .agg #[.int .u64 (uv b.vh), .int .u64 (uv b.vl), .int .u64 (uv b.ch), .int .u64 (uv b.cl)]] w fun e w' => e = .returned (.int .i64 r) ∧ Below w.heap.size w w' := by
  have HR := Lib.hid hr
  clear hr
  have hb1 := below2 w (.cells #[.int .u64 (uv a.vh), .int .u64 (uv a.vl), .int .u64 (uv a.ch), .int .u64 (uv a.cl)] 27) (.cells #[.int .u64 (uv b.vh), .int .u64 (uv b.vl), .int .u64 (uv b.ch), .int .u64 (uv b.cl)] 27)
  have HA : Hid (Blk ((w.alloc (.cells #[.int .u64 (uv a.vh), .int .u64 (uv a.vl), .int .u64 (uv a.ch), .int .u64 (uv a.cl)] 27)).alloc (.cells #[.int .u64 (uv b.vh), .int .u64 (uv b.vl), .int .u64 (uv b.ch), .int .u64 (uv b.cl)] 27)) w.heap.size 27 #[.int .u64 (uv a.vh), .int .u64 (uv a.vl), .int .u64 (uv a.ch), .int .u64 (uv a.cl)]) := (Blk.new w 27 #[.int .u64 (uv a.vh), .int .u64 (uv a.vl), .int .u64 (uv a.ch), .int .u64 (uv a.cl)]).on (below1 _ _)
  have HBk : Hid (Blk ((w.alloc (.cells #[.int .u64 (uv a.vh), .int .u64 (uv a.vl), .int .u64 (uv a.ch), .int .u64 (uv a.cl)] 27)).alloc (.cells #[.int .u64 (uv b.vh), .int .u64 (uv b.vl), .int .u64 (uv b.ch), .int .u64 (uv b.cl)] 27)) (w.heap.size + 1) 27 #[.int .u64 (uv b.vh), .int .u64 (uv b.vl), .int .u64 (uv b.ch), .int .u64 (uv b.cl)]) := by
    have h := Blk.new (w.alloc (.cells #[.int .u64 (uv a.vh), .int .u64 (uv a.vl), .int .u64 (uv a.ch), .int .u64 (uv a.cl)] 27)) 27 #[.int .u64 (uv b.vh), .int .u64 (uv b.vl), .int .u64 (uv b.ch), .int .u64 (uv b.cl)]
    show Blk _ _ _ _
    simpa using h
  have HS := Lib.hid hb1
  clear hb1
  go_enter Try.func31, Try.ntmps31
  go_upto_region 1 with (fail)
  generalize (w.alloc (.cells #[.int .u64 (uv a.vh), .int .u64 (uv a.vl), .int .u64 (uv a.ch), .int .u64 (uv a.cl)] 27)).alloc (.cells #[.int .u64 (uv b.vh), .int .u64 (uv b.vl), .int .u64 (uv b.ch), .int .u64 (uv b.cl)] 27) = w1 at HA HBk HS ⊢
  go_cut [5] (fun s5 wc => ∃ b5 : Nat, s5 = .pointer (some ⟨b5, 0, none⟩) ∧ Below w1.heap.size w1 wc ∧ Blk wc b5 25 #[.int .u64 (uv (a.vh ^^^ b.vh ||| (a.ch ^^^ b.ch))), .int .u64 (uv (a.vl ^^^ b.vl ||| (a.cl ^^^ b.cl)))] ∧ w1.heap.size ≤ b5)
  case first =>
    have HKP : Hid (∀ W, Below w1.heap.size w1 W → (Below w1.heap.size w1 W ∧ W.cell? ⟨w.heap.size, 0, none⟩ = some (.int .u64 (uv a.vh)) ∧ W.cell? ⟨w.heap.size, 1, none⟩ = some (.int .u64 (uv a.vl)) ∧ W.cell? ⟨w.heap.size, 2, none⟩ = some (.int .u64 (uv a.ch)) ∧ W.cell? ⟨w.heap.size, 3, none⟩ = some (.int .u64 (uv a.cl)) ∧ W.cell? ⟨w.heap.size + 1, 0, none⟩ = some (.int .u64 (uv b.vh)) ∧ W.cell? ⟨w.heap.size + 1, 1, none⟩ = some (.int .u64 (uv b.vl)) ∧ W.cell? ⟨w.heap.size + 1, 2, none⟩ = some (.int .u64 (uv b.ch)) ∧ W.cell? ⟨w.heap.size + 1, 3, none⟩ = some (.int .u64 (uv b.cl)))) := fun W hb => ⟨hb, ((HA.out.on hb).cell 0).trans rfl, ((HA.out.on hb).cell 1).trans rfl, ((HA.out.on hb).cell 2).trans rfl, ((HA.out.on hb).cell 3).trans rfl, ((HBk.out.on hb).cell 0).trans rfl, ((HBk.out.on hb).cell 1).trans rfl, ((HBk.out.on hb).cell 2).trans rfl, ((HBk.out.on hb).cell 3).trans rfl⟩
    refine wp_region_held_drew (S := fun w' => Below w1.heap.size w1 w' ∧ w'.cell? ⟨w.heap.size, 0, none⟩ = some (.int .u64 (uv a.vh)) ∧ w'.cell? ⟨w.heap.size, 1, none⟩ = some (.int .u64 (uv a.vl)) ∧ w'.cell? ⟨w.heap.size, 2, none⟩ = some (.int .u64 (uv a.ch)) ∧ w'.cell? ⟨w.heap.size, 3, none⟩ = some (.int .u64 (uv a.cl)) ∧ w'.cell? ⟨w.heap.size + 1, 0, none⟩ = some (.int .u64 (uv b.vh)) ∧ w'.cell? ⟨w.heap.size + 1, 1, none⟩ = some (.int .u64 (uv b.vl)) ∧ w'.cell? ⟨w.heap.size + 1, 2, none⟩ = some (.int .u64 (uv b.ch)) ∧ w'.cell? ⟨w.heap.size + 1, 3, none⟩ = some (.int .u64 (uv b.cl))) (by kernel_rfl) (HKP.out _ (Below.refl _ w1).drew) (fun hHeld => ?_)
    have hB := (Below.refl w1.heap.size w1).drew
    generalize w1.drew = u0 at hHeld hB ⊢
    refine wpAnyH_take (i := 0) (oi := ⟨some 6, _, _, _, _, _⟩) (v := ?vpa0_1) rfl (by kernel_rfl) (by kernel_rfl) (by kernel_rfl) (fun _ _ _ h => h) (Or.inl ⟨by rfl, ?ypa0_1⟩) hHeld ?rpa0_1
    case ypa0_1 => (intro w' hSw; (try dsimp only at hSw); go_simp; try (with_reducible rfl))
    simp only [Act.put, List.setIfInBounds_toArray, List.set_cons_zero, List.set_cons_succ]
    refine wpAnyH_take (i := 1) (oi := ⟨some 7, _, _, _, _, _⟩) (v := ?vpa1_2) rfl (by kernel_rfl) (by kernel_rfl) (by kernel_rfl) (fun _ _ _ h => h) (Or.inl ⟨by rfl, ?ypa1_2⟩) hHeld ?rpa1_2
    case ypa1_2 => (intro w' hSw; (try dsimp only at hSw); go_simp; try (with_reducible rfl))
    simp only [Act.put, List.setIfInBounds_toArray, List.set_cons_zero, List.set_cons_succ]
    refine wpAnyH_take (i := 2) (oi := ⟨some 8, _, _, _, _, _⟩) (v := ?vpa2_3) rfl (by kernel_rfl) (by kernel_rfl) (by kernel_rfl) (fun _ _ _ h => h) (Or.inl ⟨by rfl, ?ypa2_3⟩) hHeld ?rpa2_3
    case ypa2_3 => (intro w' hSw; (try dsimp only at hSw); go_simp; try (with_reducible rfl))
    simp only [Act.put, List.setIfInBounds_toArray, List.set_cons_zero, List.set_cons_succ]
    refine wpAnyH_take (i := 3) (oi := ⟨some 9, _, _, _, _, _⟩) (v := ?vpa3_4) rfl (by kernel_rfl) (by kernel_rfl) (by kernel_rfl) (fun _ _ _ h => h) (Or.inl ⟨by rfl, ?ypa3_4⟩) hHeld ?rpa3_4
    case ypa3_4 => (intro w' hSw; (try dsimp only at hSw); go_simp; try (with_reducible rfl))
    simp only [Act.put, List.setIfInBounds_toArray, List.set_cons_zero, List.set_cons_succ]
    refine wpAnyH_take (i := 5) (oi := ⟨some 11, _, _, _, _, _⟩) (v := ?vpa5_5) rfl (by kernel_rfl) (by kernel_rfl) (by kernel_rfl) (fun _ _ _ h => h) (Or.inl ⟨by rfl, ?ypa5_5⟩) hHeld ?rpa5_5
    case ypa5_5 => (intro w' hSw; (try dsimp only at hSw); go_simp; try (with_reducible rfl))
    simp only [Act.put, List.setIfInBounds_toArray, List.set_cons_zero, List.set_cons_succ]
    refine wpAnyH_take (i := 6) (oi := ⟨some 12, _, _, _, _, _⟩) (v := ?vpa6_6) rfl (by kernel_rfl) (by kernel_rfl) (by kernel_rfl) (fun _ _ _ h => h) (Or.inl ⟨by rfl, ?ypa6_6⟩) hHeld ?rpa6_6
    case ypa6_6 => (intro w' hSw; (try dsimp only at hSw); go_simp; try (with_reducible rfl))
    simp only [Act.put, List.setIfInBounds_toArray, List.set_cons_zero, List.set_cons_succ]
    refine wpAnyH_take (i := 7) (oi := ⟨some 13, _, _, _, _, _⟩) (v := ?vpa7_7) rfl (by kernel_rfl) (by kernel_rfl) (by kernel_rfl) (fun _ _ _ h => h) (Or.inl ⟨by rfl, ?ypa7_7⟩) hHeld ?rpa7_7
    case ypa7_7 => (intro w' hSw; (try dsimp only at hSw); go_simp; try (with_reducible rfl))
    simp only [Act.put, List.setIfInBounds_toArray, List.set_cons_zero, List.set_cons_succ]
    refine wpAnyH_take (i := 8) (oi := ⟨some 14, _, _, _, _, _⟩) (v := ?vpa8_8) rfl (by kernel_rfl) (by kernel_rfl) (by kernel_rfl) (fun _ _ _ h => h) (Or.inl ⟨by rfl, ?ypa8_8⟩) hHeld ?rpa8_8
    case ypa8_8 => (intro w' hSw; (try dsimp only at hSw); go_simp; try (with_reducible rfl))
    simp only [Act.put, List.setIfInBounds_toArray, List.set_cons_zero, List.set_cons_succ]
    refine wpAnyH_ready (rs := [4, 11]) (by kernel_rfl) (by simp) ?_
    refine AllReadyH.cons (o := ⟨some 10, _, _, _, _, _⟩) rfl (fun K hK => ?_) ?_
    · go_simp
      (with_reducible refine (xor_c _ _ _ _ _).mono ?_)
      rintro e u1 ⟨rfl, hb⟩
      (try dsimp only)
      have hB2 := hB.trans (hb.mono hB.size)
      refine hK.out _ _ (HKP.out _ hB2) (fun hNext => ?_)
      clear hK K hHeld
      have hHeld := hNext
      clear hNext
      clear hB
      have hB := hB2
      clear hB2
      clear hb
      try simp only [Act.put, List.setIfInBounds_toArray, List.set_cons_zero, List.set_cons_succ]
      refine wpAnyH_ready (rs := [9, 11]) (by kernel_rfl) (by simp) ?_
      refine AllReadyH.cons (o := ⟨some 15, _, _, _, _, _⟩) rfl (fun K hK => ?_) ?_
      · go_simp
        (with_reducible refine (xor_c _ _ _ _ _).mono ?_)
        rintro e u2 ⟨rfl, hb⟩
        (try dsimp only)
        have hB2 := hB.trans (hb.mono hB.size)
        refine hK.out _ _ (HKP.out _ hB2) (fun hNext => ?_)
        clear hK K hHeld
        have hHeld := hNext
        clear hNext
        clear hB
        have hB := hB2
        clear hB2
        clear hb
        try simp only [Act.put, List.setIfInBounds_toArray, List.set_cons_zero, List.set_cons_succ]
        refine wpAnyH_ready (rs := [10, 11]) (by kernel_rfl) (by simp) ?_
        refine AllReadyH.cons (o := ⟨some 16, _, _, _, _, _⟩) rfl (fun K hK => ?_) ?_
        · go_simp
          (with_reducible refine (or_c _ _ _ _ _).mono ?_)
          rintro e u3 ⟨rfl, hb⟩
          (try dsimp only)
          have hB2 := hB.trans (hb.mono hB.size)
          refine hK.out _ _ (HKP.out _ hB2) (fun hNext => ?_)
          clear hK K hHeld
          have hHeld := hNext
          clear hNext
          clear hB
          have hB := hB2
          clear hB2
          clear hb
          try simp only [Act.put, List.setIfInBounds_toArray, List.set_cons_zero, List.set_cons_succ]
          refine wpAnyH_ready (rs := [11]) (by kernel_rfl) (by simp) ?_
          refine AllReadyH.cons (o := ⟨some 5, _, _, _, _, _⟩) rfl (fun K hK => ?_) AllReadyH.nil
          go_simp
          have hb := below1 u3 (.cells #[.int .u64 0, .int .u64 0] 25)
          have hB2 := hB.trans (hb.mono hB.size)
          refine hK.out _ _ (HKP.out _ hB2) (fun hNext => ?_)
          have t_x : Nb w1.heap.size (u3.alloc (.cells #[.int .u64 0, .int .u64 0] 25)) u3.heap.size 25 #[.int .u64 0, .int .u64 0] := Nb.top u3 hB.size
          clear hK K hHeld
          have hHeld := hNext
          clear hNext
          clear hB
          have hB := hB2
          clear hB2
          clear hb
          generalize hgen : (u3.alloc (.cells #[.int .u64 0, .int .u64 0] 25)) = u4 at hHeld hB  t_x ⊢
          clear hgen
          generalize hgen : u3.heap.size = b_x at t_x  ⊢
          clear hgen
          try simp only [Act.put, List.setIfInBounds_toArray, List.set_cons_zero, List.set_cons_succ]
          refine wpAnyH_ready (rs := [12]) (by kernel_rfl) (by simp) ?_
          refine AllReadyH.cons (o := ⟨none, _, _, _, _, _⟩) rfl (fun K hK => ?_) AllReadyH.nil
          rw [if_pos (by rfl)]
          refine wp_store_mid 25 _ _ rfl b_x 0 #[.int .u64 (uv (a.vh ^^^ b.vh ||| (a.ch ^^^ b.ch))), .int .u64 (uv (a.vl ^^^ b.vl ||| (a.cl ^^^ b.cl)))] rfl rfl t_x.there infoHdT (by simp [Value.oneCell']) ?_
          (try dsimp only)
          have hB2 := (Below.setCells [.int .u64 (uv (a.vh ^^^ b.vh ||| (a.ch ^^^ b.ch))), .int .u64 (uv (a.vl ^^^ b.vl ||| (a.cl ^^^ b.cl)))] 0 _ hB t_x.2)
          refine hK.out _ _ (HKP.out _ hB2) (fun hNext => ?_)
          clear hK K hHeld
          have hHeld := hNext
          clear hNext
          clear hB
          have hB := hB2
          clear hB2
          replace t_x := t_x.put [.int .u64 (uv (a.vh ^^^ b.vh ||| (a.ch ^^^ b.ch))), .int .u64 (uv (a.vl ^^^ b.vl ||| (a.cl ^^^ b.cl)))] rfl
          generalize hgen : (World.setCells u4 b_x 0 [.int .u64 (uv (a.vh ^^^ b.vh ||| (a.ch ^^^ b.ch))), .int .u64 (uv (a.vl ^^^ b.vl ||| (a.cl ^^^ b.cl)))]) = u5 at hHeld hB t_x ⊢
          clear hgen
          try simp only [Act.put]
          refine wpAnyH_done (by kernel_rfl) ?_ _
          go_wp2_with fail
          go_meet
          exact ⟨b_x, rfl, hB, t_x.1, t_x.2⟩
        refine AllReadyH.cons (o := ⟨some 5, _, _, _, _, _⟩) rfl (fun K hK => ?_) AllReadyH.nil
        go_simp
        have hb := below1 u2 (.cells #[.int .u64 0, .int .u64 0] 25)
        have hB2 := hB.trans (hb.mono hB.size)
        refine hK.out _ _ (HKP.out _ hB2) (fun hNext => ?_)
        have t_x : Nb w1.heap.size (u2.alloc (.cells #[.int .u64 0, .int .u64 0] 25)) u2.heap.size 25 #[.int .u64 0, .int .u64 0] := Nb.top u2 hB.size
        clear hK K hHeld
        have hHeld := hNext
        clear hNext
        clear hB
        have hB := hB2
        clear hB2
        clear hb
        generalize hgen : (u2.alloc (.cells #[.int .u64 0, .int .u64 0] 25)) = u6 at hHeld hB  t_x ⊢
        clear hgen
        generalize hgen : u2.heap.size = b_x at t_x  ⊢
        clear hgen
        try simp only [Act.put, List.setIfInBounds_toArray, List.set_cons_zero, List.set_cons_succ]
        refine wpAnyH_ready (rs := [10]) (by kernel_rfl) (by simp) ?_
        refine AllReadyH.cons (o := ⟨some 16, _, _, _, _, _⟩) rfl (fun K hK => ?_) AllReadyH.nil
        go_simp
        (with_reducible refine (or_c _ _ _ _ _).mono ?_)
        rintro e u7 ⟨rfl, hb⟩
        (try dsimp only)
        have hB2 := hB.trans (hb.mono hB.size)
        refine hK.out _ _ (HKP.out _ hB2) (fun hNext => ?_)
        clear hK K hHeld
        have hHeld := hNext
        clear hNext
        clear hB
        have hB := hB2
        clear hB2
        replace t_x := t_x.on hb
        clear hb
        try simp only [Act.put, List.setIfInBounds_toArray, List.set_cons_zero, List.set_cons_succ]
        refine wpAnyH_ready (rs := [12]) (by kernel_rfl) (by simp) ?_
        refine AllReadyH.cons (o := ⟨none, _, _, _, _, _⟩) rfl (fun K hK => ?_) AllReadyH.nil
        rw [if_pos (by rfl)]
        refine wp_store_mid 25 _ _ rfl b_x 0 #[.int .u64 (uv (a.vh ^^^ b.vh ||| (a.ch ^^^ b.ch))), .int .u64 (uv (a.vl ^^^ b.vl ||| (a.cl ^^^ b.cl)))] rfl rfl t_x.there infoHdT (by simp [Value.oneCell']) ?_
        (try dsimp only)
        have hB2 := (Below.setCells [.int .u64 (uv (a.vh ^^^ b.vh ||| (a.ch ^^^ b.ch))), .int .u64 (uv (a.vl ^^^ b.vl ||| (a.cl ^^^ b.cl)))] 0 _ hB t_x.2)
        refine hK.out _ _ (HKP.out _ hB2) (fun hNext => ?_)
        clear hK K hHeld
        have hHeld := hNext
        clear hNext
        clear hB
        have hB := hB2
        clear hB2
        replace t_x := t_x.put [.int .u64 (uv (a.vh ^^^ b.vh ||| (a.ch ^^^ b.ch))), .int .u64 (uv (a.vl ^^^ b.vl ||| (a.cl ^^^ b.cl)))] rfl
        generalize hgen : (World.setCells u7 b_x 0 [.int .u64 (uv (a.vh ^^^ b.vh ||| (a.ch ^^^ b.ch))), .int .u64 (uv (a.vl ^^^ b.vl ||| (a.cl ^^^ b.cl)))]) = u8 at hHeld hB t_x ⊢
        clear hgen
        try simp only [Act.put]
        refine wpAnyH_done (by kernel_rfl) ?_ _
        go_wp2_with fail
        go_meet
        exact ⟨b_x, rfl, hB, t_x.1, t_x.2⟩
      refine AllReadyH.cons (o := ⟨some 5, _, _, _, _, _⟩) rfl (fun K hK => ?_) AllReadyH.nil
      go_simp
      have hb := below1 u1 (.cells #[.int .u64 0, .int .u64 0] 25)
      have hB2 := hB.trans (hb.mono hB.size)
      refine hK.out _ _ (HKP.out _ hB2) (fun hNext => ?_)
      have t_x : Nb w1.heap.size (u1.alloc (.cells #[.int .u64 0, .int .u64 0] 25)) u1.heap.size 25 #[.int .u64 0, .int .u64 0] := Nb.top u1 hB.size
      clear hK K hHeld
      have hHeld := hNext
      clear hNext
      clear hB
      have hB := hB2
      clear hB2
      clear hb
      generalize hgen : (u1.alloc (.cells #[.int .u64 0, .int .u64 0] 25)) = u9 at hHeld hB  t_x ⊢
      clear hgen
      generalize hgen : u1.heap.size = b_x at t_x  ⊢
      clear hgen
      try simp only [Act.put, List.setIfInBounds_toArray, List.set_cons_zero, List.set_cons_succ]
      refine wpAnyH_ready (rs := [9]) (by kernel_rfl) (by simp) ?_
      refine AllReadyH.cons (o := ⟨some 15, _, _, _, _, _⟩) rfl (fun K hK => ?_) AllReadyH.nil
      go_simp
      (with_reducible refine (xor_c _ _ _ _ _).mono ?_)
      rintro e u10 ⟨rfl, hb⟩
      (try dsimp only)
      have hB2 := hB.trans (hb.mono hB.size)
      refine hK.out _ _ (HKP.out _ hB2) (fun hNext => ?_)
      clear hK K hHeld
      have hHeld := hNext
      clear hNext
      clear hB
      have hB := hB2
      clear hB2
      replace t_x := t_x.on hb
      clear hb
      try simp only [Act.put, List.setIfInBounds_toArray, List.set_cons_zero, List.set_cons_succ]
      refine wpAnyH_ready (rs := [10]) (by kernel_rfl) (by simp) ?_
      refine AllReadyH.cons (o := ⟨some 16, _, _, _, _, _⟩) rfl (fun K hK => ?_) AllReadyH.nil
      go_simp
      (with_reducible refine (or_c _ _ _ _ _).mono ?_)
      rintro e u11 ⟨rfl, hb⟩
      (try dsimp only)
      have hB2 := hB.trans (hb.mono hB.size)
      refine hK.out _ _ (HKP.out _ hB2) (fun hNext => ?_)
      clear hK K hHeld
      have hHeld := hNext
      clear hNext
      clear hB
      have hB := hB2
      clear hB2
      replace t_x := t_x.on hb
      clear hb
      try simp only [Act.put, List.setIfInBounds_toArray, List.set_cons_zero, List.set_cons_succ]
      refine wpAnyH_ready (rs := [12]) (by kernel_rfl) (by simp) ?_
      refine AllReadyH.cons (o := ⟨none, _, _, _, _, _⟩) rfl (fun K hK => ?_) AllReadyH.nil
      rw [if_pos (by rfl)]
      refine wp_store_mid 25 _ _ rfl b_x 0 #[.int .u64 (uv (a.vh ^^^ b.vh ||| (a.ch ^^^ b.ch))), .int .u64 (uv (a.vl ^^^ b.vl ||| (a.cl ^^^ b.cl)))] rfl rfl t_x.there infoHdT (by simp [Value.oneCell']) ?_
      (try dsimp only)
      have hB2 := (Below.setCells [.int .u64 (uv (a.vh ^^^ b.vh ||| (a.ch ^^^ b.ch))), .int .u64 (uv (a.vl ^^^ b.vl ||| (a.cl ^^^ b.cl)))] 0 _ hB t_x.2)
      refine hK.out _ _ (HKP.out _ hB2) (fun hNext => ?_)
      clear hK K hHeld
      have hHeld := hNext
      clear hNext
      clear hB
      have hB := hB2
      clear hB2
      replace t_x := t_x.put [.int .u64 (uv (a.vh ^^^ b.vh ||| (a.ch ^^^ b.ch))), .int .u64 (uv (a.vl ^^^ b.vl ||| (a.cl ^^^ b.cl)))] rfl
      generalize hgen : (World.setCells u11 b_x 0 [.int .u64 (uv (a.vh ^^^ b.vh ||| (a.ch ^^^ b.ch))), .int .u64 (uv (a.vl ^^^ b.vl ||| (a.cl ^^^ b.cl)))]) = u12 at hHeld hB t_x ⊢
      clear hgen
      try simp only [Act.put]
      refine wpAnyH_done (by kernel_rfl) ?_ _
      go_wp2_with fail
      go_meet
      exact ⟨b_x, rfl, hB, t_x.1, t_x.2⟩
    refine AllReadyH.cons (o := ⟨some 5, _, _, _, _, _⟩) rfl (fun K hK => ?_) AllReadyH.nil
    go_simp
    have hb := below1 u0 (.cells #[.int .u64 0, .int .u64 0] 25)
    have hB2 := hB.trans (hb.mono hB.size)
    refine hK.out _ _ (HKP.out _ hB2) (fun hNext => ?_)
    have t_x : Nb w1.heap.size (u0.alloc (.cells #[.int .u64 0, .int .u64 0] 25)) u0.heap.size 25 #[.int .u64 0, .int .u64 0] := Nb.top u0 hB.size
    clear hK K hHeld
    have hHeld := hNext
    clear hNext
    clear hB
    have hB := hB2
    clear hB2
    clear hb
    generalize hgen : (u0.alloc (.cells #[.int .u64 0, .int .u64 0] 25)) = u13 at hHeld hB  t_x ⊢
    clear hgen
    generalize hgen : u0.heap.size = b_x at t_x  ⊢
    clear hgen
    try simp only [Act.put, List.setIfInBounds_toArray, List.set_cons_zero, List.set_cons_succ]
    refine wpAnyH_ready (rs := [4]) (by kernel_rfl) (by simp) ?_
    refine AllReadyH.cons (o := ⟨some 10, _, _, _, _, _⟩) rfl (fun K hK => ?_) AllReadyH.nil
    go_simp
    (with_reducible refine (xor_c _ _ _ _ _).mono ?_)
    rintro e u14 ⟨rfl, hb⟩
    (try dsimp only)
    have hB2 := hB.trans (hb.mono hB.size)
    refine hK.out _ _ (HKP.out _ hB2) (fun hNext => ?_)
    clear hK K hHeld
    have hHeld := hNext
    clear hNext
    clear hB
    have hB := hB2
    clear hB2
    replace t_x := t_x.on hb
    clear hb
    try simp only [Act.put, List.setIfInBounds_toArray, List.set_cons_zero, List.set_cons_succ]
    refine wpAnyH_ready (rs := [9]) (by kernel_rfl) (by simp) ?_
    refine AllReadyH.cons (o := ⟨some 15, _, _, _, _, _⟩) rfl (fun K hK => ?_) AllReadyH.nil
    go_simp
    (with_reducible refine (xor_c _ _ _ _ _).mono ?_)
    rintro e u15 ⟨rfl, hb⟩
    (try dsimp only)
    have hB2 := hB.trans (hb.mono hB.size)
    refine hK.out _ _ (HKP.out _ hB2) (fun hNext => ?_)
    clear hK K hHeld
    have hHeld := hNext
    clear hNext
    clear hB
    have hB := hB2
    clear hB2
    replace t_x := t_x.on hb
    clear hb
    try simp only [Act.put, List.setIfInBounds_toArray, List.set_cons_zero, List.set_cons_succ]
    refine wpAnyH_ready (rs := [10]) (by kernel_rfl) (by simp) ?_
    refine AllReadyH.cons (o := ⟨some 16, _, _, _, _, _⟩) rfl (fun K hK => ?_) AllReadyH.nil
    go_simp
    (with_reducible refine (or_c _ _ _ _ _).mono ?_)
    rintro e u16 ⟨rfl, hb⟩
    (try dsimp only)
    have hB2 := hB.trans (hb.mono hB.size)
    refine hK.out _ _ (HKP.out _ hB2) (fun hNext => ?_)
    clear hK K hHeld
    have hHeld := hNext
    clear hNext
    clear hB
    have hB := hB2
    clear hB2
    replace t_x := t_x.on hb
    clear hb
    try simp only [Act.put, List.setIfInBounds_toArray, List.set_cons_zero, List.set_cons_succ]
    refine wpAnyH_ready (rs := [12]) (by kernel_rfl) (by simp) ?_
    refine AllReadyH.cons (o := ⟨none, _, _, _, _, _⟩) rfl (fun K hK => ?_) AllReadyH.nil
    rw [if_pos (by rfl)]
    refine wp_store_mid 25 _ _ rfl b_x 0 #[.int .u64 (uv (a.vh ^^^ b.vh ||| (a.ch ^^^ b.ch))), .int .u64 (uv (a.vl ^^^ b.vl ||| (a.cl ^^^ b.cl)))] rfl rfl t_x.there infoHdT (by simp [Value.oneCell']) ?_
    (try dsimp only)
    have hB2 := (Below.setCells [.int .u64 (uv (a.vh ^^^ b.vh ||| (a.ch ^^^ b.ch))), .int .u64 (uv (a.vl ^^^ b.vl ||| (a.cl ^^^ b.cl)))] 0 _ hB t_x.2)
    refine hK.out _ _ (HKP.out _ hB2) (fun hNext => ?_)
    clear hK K hHeld
    have hHeld := hNext
    clear hNext
    clear hB
    have hB := hB2
    clear hB2
    replace t_x := t_x.put [.int .u64 (uv (a.vh ^^^ b.vh ||| (a.ch ^^^ b.ch))), .int .u64 (uv (a.vl ^^^ b.vl ||| (a.cl ^^^ b.cl)))] rfl
    generalize hgen : (World.setCells u16 b_x 0 [.int .u64 (uv (a.vh ^^^ b.vh ||| (a.ch ^^^ b.ch))), .int .u64 (uv (a.vl ^^^ b.vl ||| (a.cl ^^^ b.cl)))]) = u17 at hHeld hB t_x ⊢
    clear hgen
    try simp only [Act.put]
    refine wpAnyH_done (by kernel_rfl) ?_ _
    go_wp2_with fail
    go_meet
    exact ⟨b_x, rfl, hB, t_x.1, t_x.2⟩
  case rest =>
    obtain ⟨b5, rfl, hB, hX, hb5⟩ := hcut
    have HB := Lib.hid (HS.out.trans (hB.mono HS.out.size))
    have x0 := (hX.cell 0).trans rfl
    have x1 := (hX.cell 1).trans rfl
    simp only [List.getElem?_toArray, List.getElem?_cons_succ, List.getElem?_cons_zero] at x0 x1
    clear hB hX hb5 HA HBk HS
    obtain ⟨H, hH⟩ : ∃ H, apH a b = H := ⟨_, rfl⟩
    obtain ⟨L, hL⟩ : ∃ L, apL a b = L := ⟨_, rfl⟩
    rw [show a.vh ^^^ b.vh ||| (a.ch ^^^ b.ch) = H from hH] at x0
    rw [show a.vl ^^^ b.vl ||| (a.cl ^^^ b.cl) = L from hL] at x1
    by_cases h0 : H = 0#64
    · have hn : (uv H != 0) = false := by rw [h0]; rfl
      obtain ⟨n, hn2⟩ : ∃ n, Lib.bitLen L.toNat = n := ⟨_, rfl⟩
      have hp := prt_lo (a := a) (b := b) (by rw [hH, h0])
      rw [hL, hn2] at hp
      have hle := prt_le a b
      have h128 : n ≤ 128 := by omega
      obtain rfl : (n : Int) - 1 = r := by rw [← HR.out, hp]
      have HN := Lib.hid hn2
      clear hp hle hn2 hH hL h0 HR
      go_wp2_with (go_at_call 43; refine (len64_c _ n HN.out _).mono ?_; rintro e w' ⟨rfl, rfl⟩)
      go_ret
      exact ⟨rfl, HB.out⟩
    · have hn : (uv H != 0) = true := neq_zero H h0
      obtain ⟨n, hn2⟩ : ∃ n, Lib.bitLen H.toNat = n := ⟨_, rfl⟩
      have hp := prt_hi (a := a) (b := b) (by rw [hH]; exact h0)
      rw [hH, hn2] at hp
      have hle := prt_le a b
      have h128 : n ≤ 128 := by omega
      obtain rfl : 64 + (n : Int) - 1 = r := by rw [← HR.out, hp]; omega
      have HN := Lib.hid hn2
      clear hp hle hn2 hH hL h0 HR
      go_wp2_with (go_at_call 43; refine (len64_c _ n HN.out _).mono ?_; rintro e w' ⟨rfl, rfl⟩)
      go_ret
      exact ⟨rfl, HB.out⟩
theorem ent_1 (c : Cb) (j l : Nat) (hj : j < 128) (h : lt3 c j = l) (w : World) : Calls Try.prog 27 #[.agg #[.int .u64 (uv c.vh), .int .u64 (uv c.vl), .int .u64 (uv c.ch), .int .u64 (uv c.cl)], .int .i64 j, .int .i64 l] w fun e w' => e = .returned (.bool true) ∧ Below w.heap.size w w' := by
  obtain ⟨n, hn⟩ : ∃ n, lt3 c j = n := ⟨_, rfl⟩
  have hb1 := below1 w (.cells #[.int .u64 (uv c.vh), .int .u64 (uv c.vl), .int .u64 (uv c.ch), .int .u64 (uv c.cl)] 69)
  have HC := lett_c c j hj (n : Int) (by rw [hn])
  have HCL := Lib.hid HC
  have HS := Lib.hid hb1
  clear HC hb1
  rw [hn] at h
  have q1 : ((n : Int) == (l : Int)) = true := by rw [h]; exact beq_self_eq_true _
  clear h
  clear hn
  go_enter Try.func27, Try.ntmps27
  go_wp2_with (go_at_call 32; refine (HCL.out _).mono ?_; rintro e w2 ⟨rfl, hb⟩)
  go_ret
  exact ⟨rfl, HS.out.trans (hb.mono HS.out.size)⟩
theorem ent_2 (c : Cb) (j l : Nat) (hj : j < 128) (h : lt3 c j ≠ l) (h2 : lt3 c j = 2) (w : World) : Calls Try.prog 27 #[.agg #[.int .u64 (uv c.vh), .int .u64 (uv c.vl), .int .u64 (uv c.ch), .int .u64 (uv c.cl)], .int .i64 j, .int .i64 l] w fun e w' => e = .returned (.bool true) ∧ Below w.heap.size w w' := by
  obtain ⟨n, hn⟩ : ∃ n, lt3 c j = n := ⟨_, rfl⟩
  have hb1 := below1 w (.cells #[.int .u64 (uv c.vh), .int .u64 (uv c.vl), .int .u64 (uv c.ch), .int .u64 (uv c.cl)] 69)
  have HC := lett_c c j hj (n : Int) (by rw [hn])
  have HCL := Lib.hid HC
  have HS := Lib.hid hb1
  clear HC hb1
  rw [hn] at h h2
  have q1 : ((n : Int) == (l : Int)) = false := by simp only [beq_eq_false_iff_ne]; omega
  have q2 : ((n : Int) == 2) = true := by simp only [beq_iff_eq]; omega
  clear h h2
  clear hn
  go_enter Try.func27, Try.ntmps27
  go_wp2_with (go_at_call 32; refine (HCL.out _).mono ?_; rintro e w2 ⟨rfl, hb⟩)
  go_ret
  exact ⟨rfl, HS.out.trans (hb.mono HS.out.size)⟩
theorem ent_3 (c : Cb) (j l : Nat) (hj : j < 128) (h : lt3 c j ≠ l) (h2 : lt3 c j ≠ 2) (r : Bool) (h3 : decide (l = 2) = r) (w : World) : Calls Try.prog 27 #[.agg #[.int .u64 (uv c.vh), .int .u64 (uv c.vl), .int .u64 (uv c.ch), .int .u64 (uv c.cl)], .int .i64 j, .int .i64 l] w fun e w' => e = .returned (.bool r) ∧ Below w.heap.size w w' := by
  obtain ⟨n, hn⟩ : ∃ n, lt3 c j = n := ⟨_, rfl⟩
  have hb1 := below1 w (.cells #[.int .u64 (uv c.vh), .int .u64 (uv c.vl), .int .u64 (uv c.ch), .int .u64 (uv c.cl)] 69)
  have HC := lett_c c j hj (n : Int) (by rw [hn])
  have HCL := Lib.hid HC
  have HS := Lib.hid hb1
  clear HC hb1
  rw [hn] at h h2
  have q1 : ((n : Int) == (l : Int)) = false := by simp only [beq_eq_false_iff_ne]; omega
  have q2 : ((n : Int) == 2) = false := by simp only [beq_eq_false_iff_ne]; omega
  have q3 : ((l : Int) == 2) = r := by rw [← h3]; rw [Bool.eq_iff_iff]; simp only [beq_iff_eq, decide_eq_true_eq]; omega
  clear h h2 h3
  clear hn
  go_enter Try.func27, Try.ntmps27
  go_wp2_with (go_at_call 32; refine (HCL.out _).mono ?_; rintro e w2 ⟨rfl, hb⟩)
  go_ret
  exact ⟨rfl, HS.out.trans (hb.mono HS.out.size)⟩
/-- A search for what meets c enters a branch just where metL says. -/
theorem enters_c (c : Cb) (j l : Nat) (hj : j < 128) (r : Bool) (hr : metL c j l = r) (w : World) : Calls Try.prog 27 #[.agg #[.int .u64 (uv c.vh), .int .u64 (uv c.vl), .int .u64 (uv c.ch), .int .u64 (uv c.cl)], .int .i64 j, .int .i64 l] w fun e w' => e = .returned (.bool r) ∧ Below w.heap.size w w' := by
  unfold metL at hr
  by_cases h : lt3 c j = l
  · obtain rfl : r = true := by rw [← hr]; simp [h]
    exact ent_1 c j l hj h w
  · by_cases h2 : lt3 c j = 2
    · obtain rfl : r = true := by rw [← hr]; simp [h2]
      exact ent_2 c j l hj h h2 w
    · exact ent_3 c j l hj h h2 r (by rw [← hr]; simp [h, h2]) w
end Go.Proofs

namespace Go.Proofs
open Go.RowKit Go.Proofs.Hd Go.Lib
attribute [local go_sem] uv_nonneg
set_option maxRecDepth 100000 in
set_option maxHeartbeats 4000000 in
/-- A leaf, where there was nothing. -/
theorem with_nil (x : Int) (c : Cb) (w : World) : Calls Try.prog 22 #[.pointer none, .int .i64 x, .agg #[.int .u64 (uv c.vh), .int .u64 (uv c.vl), .int .u64 (uv c.ch), .int .u64 (uv c.cl)]] w fun e w' => ∃ B u, e = .returned (.pointer (some ⟨B, 0, none⟩)) ∧ LfAt w' B c [x] u ∧ w.heap.size ≤ B ∧ (∀ g, u.ownBlock = some g → w.heap.size ≤ g) ∧ Below w.heap.size w w' := by
  have hb1 := below1 w (.cells #[.int .u64 (uv c.vh), .int .u64 (uv c.vl), .int .u64 (uv c.ch), .int .u64 (uv c.cl)] 27)
  have HX : Hid (Blk (w.alloc (.cells #[.int .u64 (uv c.vh), .int .u64 (uv c.vl), .int .u64 (uv c.ch), .int .u64 (uv c.cl)] 27)) w.heap.size 27 #[.int .u64 (uv c.vh), .int .u64 (uv c.vl), .int .u64 (uv c.ch), .int .u64 (uv c.cl)]) := Blk.new w _ _
  have HS := Lib.hid hb1
  have hsz : (w.alloc (.cells #[.int .u64 (uv c.vh), .int .u64 (uv c.vl), .int .u64 (uv c.ch), .int .u64 (uv c.cl)] 27)).heap.size = w.heap.size + 1 := by simp
  clear hb1
  go_enter Try.func22, Try.ntmps22
  go_upto_region 1 with (fail)
  generalize w.alloc (.cells #[.int .u64 (uv c.vh), .int .u64 (uv c.vl), .int .u64 (uv c.ch), .int .u64 (uv c.cl)] 27) = w1 at HX HS hsz ⊢
  generalize hbx : w.heap.size = bx at HX HS hsz ⊢
  have x0 := (HX.out.cell 0).trans rfl
  have x1 := (HX.out.cell 1).trans rfl
  have x2 := (HX.out.cell 2).trans rfl
  have x3 := (HX.out.cell 3).trans rfl
  simp only [List.getElem?_toArray, List.getElem?_cons_succ, List.getElem?_cons_zero] at x0 x1 x2 x3
  have HZ := Lib.hid hsz
  have HE := Lib.hid hbx
  clear hsz hbx HX
  have hb2 := below2 w1 (.cells #[.int .i64 x] 3) (.cells (ndCells (-1) (.pointer none) (.pointer none) (.pointer none) c (.slice (some ⟨w1.heap.size, 0, none⟩) 1 1)) 73)
  have HI : Hid (Blk ((w1.alloc (.cells #[.int .i64 x] 3)).alloc (.cells (ndCells (-1) (.pointer none) (.pointer none) (.pointer none) c (.slice (some ⟨w1.heap.size, 0, none⟩) 1 1)) 73)) w1.heap.size 3 #[.int .i64 x]) := (Blk.new w1 _ _).on (below1 _ _)
  have HN : Hid (Blk ((w1.alloc (.cells #[.int .i64 x] 3)).alloc (.cells (ndCells (-1) (.pointer none) (.pointer none) (.pointer none) c (.slice (some ⟨w1.heap.size, 0, none⟩) 1 1)) 73)) (w1.heap.size + 1) 73 (ndCells (-1) (.pointer none) (.pointer none) (.pointer none) c (.slice (some ⟨w1.heap.size, 0, none⟩) 1 1))) := by
    have h := Blk.new (w1.alloc (.cells #[.int .i64 x] 3)) 73 (ndCells (-1) (.pointer none) (.pointer none) (.pointer none) c (.slice (some ⟨w1.heap.size, 0, none⟩) 1 1))
    show Blk _ _ _ _
    simpa using h
  have HB := Lib.hid hb2
  clear hb2
  go_wp2
  go_ret
  have hz := HZ.out
  have he := HE.out
  refine ⟨w1.heap.size + 1, .slice (some ⟨w1.heap.size, 0, none⟩) 1 1, rfl, ⟨HN.out, ⟨rfl, .inr ⟨w1.heap.size, 1, _, rfl, Nat.zero_le _, HI.out, Nat.le_refl _, by unfold maxLen; omega, rfl, rfl⟩⟩⟩, by omega, fun g hg => ?_, ?_⟩
  · have : w1.heap.size = g := by simpa [Value.ownBlock] using hg
    omega
  · have h1 := HS.out
    rw [← he] at h1
    exact h1.trans (HB.out.mono (by omega))
set_option maxRecDepth 100000 in
set_option maxHeartbeats 4000000 in
/-- A node above one that is there: the two part at a higher bit. -/
theorem with_top (x : Int) (s c : Cb) (a0 : Int) (v0 v1 v2 u : Value) (B q : Nat) (w : World) (hN : Blk w B 73 (ndCells a0 v0 v1 v2 s u)) (hq : prt s c = q + 1) (ha : a0 < (q : Int)) :
    Calls Try.prog 22 #[.pointer (some ⟨B, 0, none⟩), .int .i64 x, .agg #[.int .u64 (uv c.vh), .int .u64 (uv c.vl), .int .u64 (uv c.ch), .int .u64 (uv c.cl)]] w fun e w' => ∃ BA Bl ul, e = .returned (.pointer (some ⟨BA, 0, none⟩)) ∧ Blk w' BA 73 (ndCells (q : Int) (updV (updV (fun _ => .pointer none) (lt3 s q) (ptrV B)) (lt3 c q) (ptrV Bl) 0) (updV (updV (fun _ => .pointer none) (lt3 s q) (ptrV B)) (lt3 c q) (ptrV Bl) 1) (updV (updV (fun _ => .pointer none) (lt3 s q) (ptrV B)) (lt3 c q) (ptrV Bl) 2) c (.slice none 0 0)) ∧
      LfAt w' Bl c [x] ul ∧ w.heap.size ≤ BA ∧ BA < Bl ∧ (∀ g, ul.ownBlock = some g → BA < g) ∧ Below w.heap.size w w' := by
  have hle := prt_le s c
  have hq128 : q < 128 := by omega
  have HP : Hid (∀ W, Calls Try.prog 31 #[.agg #[.int .u64 (uv s.vh), .int .u64 (uv s.vl), .int .u64 (uv s.ch), .int .u64 (uv s.cl)], .agg #[.int .u64 (uv c.vh), .int .u64 (uv c.vl), .int .u64 (uv c.ch), .int .u64 (uv c.cl)]] W fun e w' => e = .returned (.int .i64 (q : Int)) ∧ Below W.heap.size W w') := part_c s c (q : Int) (by rw [hq]; omega)
  have hk1 := lt3_lt s q
  have hk2 := lt3_lt c q
  have HL1 : Hid (∀ W, Calls Try.prog 32 #[.agg #[.int .u64 (uv s.vh), .int .u64 (uv s.vl), .int .u64 (uv s.ch), .int .u64 (uv s.cl)], .int .i64 (q : Int)] W fun e w' => e = .returned (.int .i64 ((lt3 s q : Nat) : Int)) ∧ Below W.heap.size W w') := lett_c s q hq128 _ rfl
  have HL2 : Hid (∀ W, Calls Try.prog 32 #[.agg #[.int .u64 (uv c.vh), .int .u64 (uv c.vl), .int .u64 (uv c.ch), .int .u64 (uv c.cl)], .int .i64 (q : Int)] W fun e w' => e = .returned (.int .i64 ((lt3 c q : Nat) : Int)) ∧ Below W.heap.size W w') := lett_c c q hq128 _ rfl
  generalize lt3 s q = k1 at *
  generalize lt3 c q = k2 at *
  have z1 : (k1 : Int) < 3 := by omega
  have z2 : (k2 : Int) < 3 := by omega
  clear hq hle hq128
  have hBl := hN.lt
  have hb1 := below1 w (.cells #[.int .u64 (uv c.vh), .int .u64 (uv c.vl), .int .u64 (uv c.ch), .int .u64 (uv c.cl)] 27)
  have HX : Hid (Blk (w.alloc (.cells #[.int .u64 (uv c.vh), .int .u64 (uv c.vl), .int .u64 (uv c.ch), .int .u64 (uv c.cl)] 27)) w.heap.size 27 #[.int .u64 (uv c.vh), .int .u64 (uv c.vl), .int .u64 (uv c.ch), .int .u64 (uv c.cl)]) := Blk.new w _ _
  have HN := Lib.hid (hN.on hb1)
  have HS := Lib.hid hb1
  clear hb1 hN
  go_enter Try.func22, Try.ntmps22
  go_upto_region 1 with (fail)
  generalize w.alloc (.cells #[.int .u64 (uv c.vh), .int .u64 (uv c.vl), .int .u64 (uv c.ch), .int .u64 (uv c.cl)] 27) = w1 at HX HN HS ⊢
  generalize hbx : w.heap.size = bx at HX HS hBl ⊢
  have HE := Lib.hid hbx
  clear hbx
  have HKP : Hid (∀ W, Below w1.heap.size w1 W → (Below w1.heap.size w1 W ∧ W.cell? ⟨B, 4, none⟩ = some (.int .u64 (uv s.vh)) ∧ W.cell? ⟨B, 5, none⟩ = some (.int .u64 (uv s.vl)) ∧ W.cell? ⟨B, 6, none⟩ = some (.int .u64 (uv s.ch)) ∧ W.cell? ⟨B, 7, none⟩ = some (.int .u64 (uv s.cl)) ∧ W.cell? ⟨bx, 0, none⟩ = some (.int .u64 (uv c.vh)) ∧ W.cell? ⟨bx, 1, none⟩ = some (.int .u64 (uv c.vl)) ∧ W.cell? ⟨bx, 2, none⟩ = some (.int .u64 (uv c.ch)) ∧ W.cell? ⟨bx, 3, none⟩ = some (.int .u64 (uv c.cl)) ∧ W.cell? ⟨B, 0, none⟩ = some (.int .i64 a0))) := fun W hb => ⟨hb, ((HN.out.on hb).cell 4).trans rfl, ((HN.out.on hb).cell 5).trans rfl, ((HN.out.on hb).cell 6).trans rfl, ((HN.out.on hb).cell 7).trans rfl, ((HX.out.on hb).cell 0).trans rfl, ((HX.out.on hb).cell 1).trans rfl, ((HX.out.on hb).cell 2).trans rfl, ((HX.out.on hb).cell 3).trans rfl, ((HN.out.on hb).cell 0).trans rfl⟩
  go_upto_region 3 with (fail)
  go_cut [7] (fun s7 wc => s7 = .int .i64 (q : Int) ∧ Below w1.heap.size w1 wc)
  case first =>
    have hB0 := Below.refl w1.heap.size w1
    refine wp_region_held_drew (S := fun w' => Below w1.heap.size w1 w' ∧ w'.cell? ⟨B, 4, none⟩ = some (.int .u64 (uv s.vh)) ∧ w'.cell? ⟨B, 5, none⟩ = some (.int .u64 (uv s.vl)) ∧ w'.cell? ⟨B, 6, none⟩ = some (.int .u64 (uv s.ch)) ∧ w'.cell? ⟨B, 7, none⟩ = some (.int .u64 (uv s.cl)) ∧ w'.cell? ⟨bx, 0, none⟩ = some (.int .u64 (uv c.vh)) ∧ w'.cell? ⟨bx, 1, none⟩ = some (.int .u64 (uv c.vl)) ∧ w'.cell? ⟨bx, 2, none⟩ = some (.int .u64 (uv c.ch)) ∧ w'.cell? ⟨bx, 3, none⟩ = some (.int .u64 (uv c.cl)) ∧ w'.cell? ⟨B, 0, none⟩ = some (.int .i64 a0)) (by kernel_rfl) (HKP.out _ hB0.drew) (fun hHeld => ?_)
    have hB := hB0.drew
    clear hB0
    generalize w1.drew = u0 at hHeld hB  ⊢
    refine wpAnyH_take (i := 0) (oi := ⟨some 17, _, _, _, _, _⟩) (v := ?vwa0_1) rfl (by kernel_rfl) (by kernel_rfl) (by kernel_rfl) (fun _ _ _ h => h) (Or.inl ⟨by rfl, ?ywa0_1⟩) hHeld ?rwa0_1
    case ywa0_1 => (intro w' hSw; (try dsimp only at hSw); go_simp; try (with_reducible rfl))
    simp only [Act.put, List.setIfInBounds_toArray, List.set_cons_zero, List.set_cons_succ]
    refine wpAnyH_take (i := 1) (oi := ⟨some 18, _, _, _, _, _⟩) (v := ?vwa1_2) rfl (by kernel_rfl) (by kernel_rfl) (by kernel_rfl) (fun _ _ _ h => h) (Or.inl ⟨by rfl, ?ywa1_2⟩) hHeld ?rwa1_2
    case ywa1_2 => (intro w' hSw; (try dsimp only at hSw); go_simp; try (with_reducible rfl))
    simp only [Act.put, List.setIfInBounds_toArray, List.set_cons_zero, List.set_cons_succ]
    refine wpAnyH_take (i := 2) (oi := ⟨some 19, _, _, _, _, _⟩) (v := ?vwa2_3) rfl (by kernel_rfl) (by kernel_rfl) (by kernel_rfl) (fun _ _ _ h => h) (Or.inl ⟨by rfl, ?ywa2_3⟩) hHeld ?rwa2_3
    case ywa2_3 => (intro w' hSw; (try dsimp only at hSw); go_simp; try (with_reducible rfl))
    simp only [Act.put, List.setIfInBounds_toArray, List.set_cons_zero, List.set_cons_succ]
    refine wpAnyH_take (i := 3) (oi := ⟨some 20, _, _, _, _, _⟩) (v := ?vwa3_4) rfl (by kernel_rfl) (by kernel_rfl) (by kernel_rfl) (fun _ _ _ h => h) (Or.inl ⟨by rfl, ?ywa3_4⟩) hHeld ?rwa3_4
    case ywa3_4 => (intro w' hSw; (try dsimp only at hSw); go_simp; try (with_reducible rfl))
    simp only [Act.put, List.setIfInBounds_toArray, List.set_cons_zero, List.set_cons_succ]
    refine wpAnyH_take (i := 4) (oi := ⟨some 21, _, _, _, _, _⟩) (v := ?vwa4_5) rfl (by kernel_rfl) (by kernel_rfl) (by kernel_rfl) (fun _ _ _ h => h) (Or.inl ⟨by rfl, ?ywa4_5⟩) hHeld ?rwa4_5
    case ywa4_5 => (intro w' hSw; (try dsimp only at hSw); go_simp; try (with_reducible rfl))
    simp only [Act.put, List.setIfInBounds_toArray, List.set_cons_zero, List.set_cons_succ]
    refine wpAnyH_ready (rs := [5]) (by kernel_rfl) (by simp) ?_
    refine AllReadyH.cons (o := ⟨some 22, _, _, _, _, _⟩) rfl (fun K hK => ?_) AllReadyH.nil
    go_simp
    (with_reducible refine (HP.out _).mono ?_)
    rintro e u1 ⟨rfl, hb⟩
    (try dsimp only)
    have hB2 := hB.trans (hb.mono hB.size)
    refine hK.out _ _ (HKP.out _ hB2) (fun hNext => ?_)
    clear hK K hHeld
    have hHeld := hNext
    clear hNext
    clear hB
    have hB := hB2
    clear hB2
    clear hb
    try simp only [Act.put, List.setIfInBounds_toArray, List.set_cons_zero, List.set_cons_succ]
    refine wpAnyH_take (i := 6) (oi := ⟨some 7, _, _, _, _, _⟩) (v := ?vwa6_6) rfl (by kernel_rfl) (by kernel_rfl) (by kernel_rfl) (fun _ _ _ h => h) (Or.inl ⟨by rfl, ?ywa6_6⟩) hHeld ?rwa6_6
    case ywa6_6 => (intro w' hSw; (try dsimp only at hSw); go_simp; try (with_reducible rfl))
    simp only [Act.put, List.setIfInBounds_toArray, List.set_cons_zero, List.set_cons_succ]
    refine wpAnyH_done (by kernel_rfl) ?_ _
    go_wp2_with fail
    go_meet
    exact ⟨rfl, hB⟩
  case rest =>
    obtain ⟨rfl, hB2⟩ := hcut
    have d0 := (HKP.out _ hB2).2.2.2.2.2.2.2.2.2
    have x0 := (HKP.out _ hB2).2.2.2.2.2.1
    have x1 := (HKP.out _ hB2).2.2.2.2.2.2.1
    have x2 := (HKP.out _ hB2).2.2.2.2.2.2.2.1
    have x3 := (HKP.out _ hB2).2.2.2.2.2.2.2.2.1
    have HB2 := Lib.hid hB2
    clear hB2
    go_upto_region 6 with (fail)
    have hb3 := below1 wc (.cells (ndCells (q : Int) (.pointer none) (.pointer none) (.pointer none) c (.slice none 0 0)) 73)
    have hA : Blk (wc.alloc (.cells (ndCells (q : Int) (.pointer none) (.pointer none) (.pointer none) c (.slice none 0 0)) 73)) wc.heap.size 73 (ndCells (q : Int) ((fun _ => .pointer none : Nat → Value) 0) ((fun _ => .pointer none : Nat → Value) 1) ((fun _ => .pointer none : Nat → Value) 2) c (.slice none 0 0)) := Blk.new wc _ _
    have hB3 := HB2.out.trans (hb3.mono HB2.out.size)
    have hBA := HB2.out.size
    clear hb3 HB2 d0 x0 x1 x2 x3
    change Code.wp _ _ _ _ (wc.alloc (.cells (ndCells (q : Int) (.pointer none) (.pointer none) (.pointer none) c (.slice none 0 0)) 73))
    generalize wc.alloc (.cells (ndCells (q : Int) (.pointer none) (.pointer none) (.pointer none) c (.slice none 0 0)) 73) = w3 at hA hB3 ⊢
    generalize wc.heap.size = BA at hA hBA ⊢
    generalize hvs : (fun _ => .pointer none : Nat → Value) = vs at hA ⊢
    have HVS := Lib.hid hvs
    clear hvs
    go_cut [] (fun wc => Below w1.heap.size w1 wc ∧ Blk wc BA 73 (ndCells (q : Int) (updV vs k1 (.pointer (some ⟨B, 0, none⟩)) 0) (updV vs k1 (.pointer (some ⟨B, 0, none⟩)) 1) (updV vs k1 (.pointer (some ⟨B, 0, none⟩)) 2) c (.slice none 0 0)))
    case first =>
      refine wp_region_held_drew (S := fun w' => Below w1.heap.size w1 w' ∧ w'.cell? ⟨B, 4, none⟩ = some (.int .u64 (uv s.vh)) ∧ w'.cell? ⟨B, 5, none⟩ = some (.int .u64 (uv s.vl)) ∧ w'.cell? ⟨B, 6, none⟩ = some (.int .u64 (uv s.ch)) ∧ w'.cell? ⟨B, 7, none⟩ = some (.int .u64 (uv s.cl)) ∧ w'.cell? ⟨bx, 0, none⟩ = some (.int .u64 (uv c.vh)) ∧ w'.cell? ⟨bx, 1, none⟩ = some (.int .u64 (uv c.vl)) ∧ w'.cell? ⟨bx, 2, none⟩ = some (.int .u64 (uv c.ch)) ∧ w'.cell? ⟨bx, 3, none⟩ = some (.int .u64 (uv c.cl)) ∧ w'.cell? ⟨B, 0, none⟩ = some (.int .i64 a0)) (by kernel_rfl) (HKP.out _ hB3.drew) (fun hHeld => ?_)
      have hB := hB3.drew
      clear hB3
      change Blk w3.drew BA 73 _ at hA
      generalize w3.drew = u0 at hHeld hB hA ⊢
      refine wpAnyH_take (i := 0) (oi := ⟨some 33, _, _, _, _, _⟩) (v := ?vwb0_1) rfl (by kernel_rfl) (by kernel_rfl) (by kernel_rfl) (fun _ _ _ h => h) (Or.inl ⟨by rfl, ?ywb0_1⟩) hHeld ?rwb0_1
      case ywb0_1 => (intro w' hSw; (try dsimp only at hSw); go_simp; try (with_reducible rfl))
      simp only [Act.put, List.setIfInBounds_toArray, List.set_cons_zero, List.set_cons_succ]
      refine wpAnyH_take (i := 1) (oi := ⟨some 34, _, _, _, _, _⟩) (v := ?vwb1_2) rfl (by kernel_rfl) (by kernel_rfl) (by kernel_rfl) (fun _ _ _ h => h) (Or.inl ⟨by rfl, ?ywb1_2⟩) hHeld ?rwb1_2
      case ywb1_2 => (intro w' hSw; (try dsimp only at hSw); go_simp; try (with_reducible rfl))
      simp only [Act.put, List.setIfInBounds_toArray, List.set_cons_zero, List.set_cons_succ]
      refine wpAnyH_take (i := 2) (oi := ⟨some 35, _, _, _, _, _⟩) (v := ?vwb2_3) rfl (by kernel_rfl) (by kernel_rfl) (by kernel_rfl) (fun _ _ _ h => h) (Or.inl ⟨by rfl, ?ywb2_3⟩) hHeld ?rwb2_3
      case ywb2_3 => (intro w' hSw; (try dsimp only at hSw); go_simp; try (with_reducible rfl))
      simp only [Act.put, List.setIfInBounds_toArray, List.set_cons_zero, List.set_cons_succ]
      refine wpAnyH_take (i := 3) (oi := ⟨some 36, _, _, _, _, _⟩) (v := ?vwb3_4) rfl (by kernel_rfl) (by kernel_rfl) (by kernel_rfl) (fun _ _ _ h => h) (Or.inl ⟨by rfl, ?ywb3_4⟩) hHeld ?rwb3_4
      case ywb3_4 => (intro w' hSw; (try dsimp only at hSw); go_simp; try (with_reducible rfl))
      simp only [Act.put, List.setIfInBounds_toArray, List.set_cons_zero, List.set_cons_succ]
      refine wpAnyH_take (i := 4) (oi := ⟨some 37, _, _, _, _, _⟩) (v := ?vwb4_5) rfl (by kernel_rfl) (by kernel_rfl) (by kernel_rfl) (fun _ _ _ h => h) (Or.inl ⟨by rfl, ?ywb4_5⟩) hHeld ?rwb4_5
      case ywb4_5 => (intro w' hSw; (try dsimp only at hSw); go_simp; try (with_reducible rfl))
      simp only [Act.put, List.setIfInBounds_toArray, List.set_cons_zero, List.set_cons_succ]
      refine wpAnyH_take (i := 5) (oi := ⟨some 38, _, _, _, _, _⟩) (v := ?vwb5_6) rfl (by kernel_rfl) (by kernel_rfl) (by kernel_rfl) (fun _ _ _ h => h) (Or.inl ⟨by rfl, ?ywb5_6⟩) hHeld ?rwb5_6
      case ywb5_6 => (intro w' hSw; (try dsimp only at hSw); go_simp; try (with_reducible rfl))
      simp only [Act.put, List.setIfInBounds_toArray, List.set_cons_zero, List.set_cons_succ]
      refine wpAnyH_take (i := 7) (oi := ⟨some 40, _, _, _, _, _⟩) (v := ?vwb7_7) rfl (by kernel_rfl) (by kernel_rfl) (by kernel_rfl) (fun _ _ _ h => h) (Or.inl ⟨by rfl, ?ywb7_7⟩) hHeld ?rwb7_7
      case ywb7_7 => (intro w' hSw; (try dsimp only at hSw); go_simp; try (with_reducible rfl))
      simp only [Act.put, List.setIfInBounds_toArray, List.set_cons_zero, List.set_cons_succ]
      refine wpAnyH_take (i := 8) (oi := ⟨some 41, _, _, _, _, _⟩) (v := ?vwb8_8) rfl (by kernel_rfl) (by kernel_rfl) (by kernel_rfl) (fun _ _ _ h => h) (Or.inl ⟨by rfl, ?ywb8_8⟩) hHeld ?rwb8_8
      case ywb8_8 => (intro w' hSw; (try dsimp only at hSw); go_simp; try (with_reducible rfl))
      simp only [Act.put, List.setIfInBounds_toArray, List.set_cons_zero, List.set_cons_succ]
      refine wpAnyH_take (i := 9) (oi := ⟨some 42, _, _, _, _, _⟩) (v := ?vwb9_9) rfl (by kernel_rfl) (by kernel_rfl) (by kernel_rfl) (fun _ _ _ h => h) (Or.inl ⟨by rfl, ?ywb9_9⟩) hHeld ?rwb9_9
      case ywb9_9 => (intro w' hSw; (try dsimp only at hSw); go_simp; try (with_reducible rfl))
      simp only [Act.put, List.setIfInBounds_toArray, List.set_cons_zero, List.set_cons_succ]
      refine wpAnyH_ready (rs := [6]) (by kernel_rfl) (by simp) ?_
      refine AllReadyH.cons (o := ⟨some 39, _, _, _, _, _⟩) rfl (fun K hK => ?_) AllReadyH.nil
      go_simp
      (with_reducible refine (HL1.out _).mono ?_)
      rintro e u1 ⟨rfl, hb⟩
      (try dsimp only)
      have hB2 := hB.trans (hb.mono hB.size)
      refine hK.out _ _ (HKP.out _ hB2) (fun hNext => ?_)
      clear hK K hHeld
      have hHeld := hNext
      clear hNext
      clear hB
      have hB := hB2
      clear hB2
      replace hA := hA.on hb
      clear hb
      try simp only [Act.put, List.setIfInBounds_toArray, List.set_cons_zero, List.set_cons_succ]
      refine wpAnyH_take (i := 10) (oi := ⟨some 43, _, _, _, _, _⟩) (v := ?vwb10_10) rfl (by kernel_rfl) (by kernel_rfl) (by kernel_rfl) (fun _ _ _ h => h) (Or.inl ⟨by rfl, ?ywb10_10⟩) hHeld ?rwb10_10
      case ywb10_10 => (intro w' hSw; (try dsimp only at hSw); go_simp; try (with_reducible rfl))
      simp only [Act.put, List.setIfInBounds_toArray, List.set_cons_zero, List.set_cons_succ]
      refine wpAnyH_ready (rs := [11]) (by kernel_rfl) (by simp) ?_
      refine AllReadyH.cons (o := ⟨none, _, _, _, _, _⟩) rfl (fun K hK => ?_) AllReadyH.nil
      have kA := (hA.cell (1 + k1)).trans (nd_get hk1)
      have gA := hA.free (1 + k1)
      go_simp
      clear kA gA
      have hB2 := hB.setCell (p := ⟨BA, 1 + k1, none⟩) hBA (.pointer (some ⟨B, 0, none⟩))
      refine hK.out _ _ (HKP.out _ hB2) (fun hNext => ?_)
      clear hK K hHeld
      have hHeld := hNext
      clear hNext
      clear hB
      have hB := hB2
      clear hB2
      replace hA := hA.set (1 + k1) (.pointer (some ⟨B, 0, none⟩))
      rw [nd_set hk1] at hA
      generalize hgen : u1.setCell ⟨BA, 1 + k1, none⟩ (.pointer (some ⟨B, 0, none⟩)) = u2 at hHeld hB hA  ⊢
      clear hgen
      try simp only [Act.put]
      refine wpAnyH_done (by kernel_rfl) ?_ _
      go_wp2_with fail
      go_meet
      exact ⟨hB, hA⟩
    case rest =>
      obtain ⟨hB4, hA4⟩ := hcut
      have hA := hA4
      clear hA4 hB3
      generalize hv2 : updV vs k1 (.pointer (some ⟨B, 0, none⟩)) = vs2 at hA ⊢
      have HV2 := Lib.hid hv2
      clear hv2
      go_upto_region 7 with (fail)
      go_cut [] (fun wc => ∃ bl ul, Below w1.heap.size w1 wc ∧ Blk wc BA 73 (ndCells (q : Int) (updV vs2 k2 (.pointer (some ⟨bl, 0, none⟩)) 0) (updV vs2 k2 (.pointer (some ⟨bl, 0, none⟩)) 1) (updV vs2 k2 (.pointer (some ⟨bl, 0, none⟩)) 2) c (.slice none 0 0)) ∧ LfAt wc bl c [x] ul ∧ BA < bl ∧ ∀ g, ul.ownBlock = some g → BA < g)
      case first =>
        refine wp_region_held_drew (S := fun w' => Below w1.heap.size w1 w' ∧ w'.cell? ⟨B, 4, none⟩ = some (.int .u64 (uv s.vh)) ∧ w'.cell? ⟨B, 5, none⟩ = some (.int .u64 (uv s.vl)) ∧ w'.cell? ⟨B, 6, none⟩ = some (.int .u64 (uv s.ch)) ∧ w'.cell? ⟨B, 7, none⟩ = some (.int .u64 (uv s.cl)) ∧ w'.cell? ⟨bx, 0, none⟩ = some (.int .u64 (uv c.vh)) ∧ w'.cell? ⟨bx, 1, none⟩ = some (.int .u64 (uv c.vl)) ∧ w'.cell? ⟨bx, 2, none⟩ = some (.int .u64 (uv c.ch)) ∧ w'.cell? ⟨bx, 3, none⟩ = some (.int .u64 (uv c.cl)) ∧ w'.cell? ⟨B, 0, none⟩ = some (.int .i64 a0)) (by kernel_rfl) (HKP.out _ hB4.drew) (fun hHeld => ?_)
        have hB := hB4.drew
        clear hB4
        change Blk wc.drew BA 73 _ at hA
        generalize wc.drew = u0 at hHeld hB hA ⊢
        refine wpAnyH_take (i := 0) (oi := ⟨some 44, _, _, _, _, _⟩) (v := ?vwc0_1) rfl (by kernel_rfl) (by kernel_rfl) (by kernel_rfl) (fun _ _ _ h => h) (Or.inl ⟨by rfl, ?ywc0_1⟩) hHeld ?rwc0_1
        case ywc0_1 => (intro w' hSw; (try dsimp only at hSw); go_simp; try (with_reducible rfl))
        simp only [Act.put, List.setIfInBounds_toArray, List.set_cons_zero, List.set_cons_succ]
        refine wpAnyH_take (i := 1) (oi := ⟨some 45, _, _, _, _, _⟩) (v := ?vwc1_2) rfl (by kernel_rfl) (by kernel_rfl) (by kernel_rfl) (fun _ _ _ h => h) (Or.inl ⟨by rfl, ?ywc1_2⟩) hHeld ?rwc1_2
        case ywc1_2 => (intro w' hSw; (try dsimp only at hSw); go_simp; try (with_reducible rfl))
        simp only [Act.put, List.setIfInBounds_toArray, List.set_cons_zero, List.set_cons_succ]
        refine wpAnyH_take (i := 2) (oi := ⟨some 46, _, _, _, _, _⟩) (v := ?vwc2_3) rfl (by kernel_rfl) (by kernel_rfl) (by kernel_rfl) (fun _ _ _ h => h) (Or.inl ⟨by rfl, ?ywc2_3⟩) hHeld ?rwc2_3
        case ywc2_3 => (intro w' hSw; (try dsimp only at hSw); go_simp; try (with_reducible rfl))
        simp only [Act.put, List.setIfInBounds_toArray, List.set_cons_zero, List.set_cons_succ]
        refine wpAnyH_take (i := 4) (oi := ⟨some 48, _, _, _, _, _⟩) (v := ?vwc4_4) rfl (by kernel_rfl) (by kernel_rfl) (by kernel_rfl) (fun _ _ _ h => h) (Or.inl ⟨by rfl, ?ywc4_4⟩) hHeld ?rwc4_4
        case ywc4_4 => (intro w' hSw; (try dsimp only at hSw); go_simp; try (with_reducible rfl))
        simp only [Act.put, List.setIfInBounds_toArray, List.set_cons_zero, List.set_cons_succ]
        refine wpAnyH_take (i := 5) (oi := ⟨some 49, _, _, _, _, _⟩) (v := ?vwc5_5) rfl (by kernel_rfl) (by kernel_rfl) (by kernel_rfl) (fun _ _ _ h => h) (Or.inl ⟨by rfl, ?ywc5_5⟩) hHeld ?rwc5_5
        case ywc5_5 => (intro w' hSw; (try dsimp only at hSw); go_simp; try (with_reducible rfl))
        simp only [Act.put, List.setIfInBounds_toArray, List.set_cons_zero, List.set_cons_succ]
        refine wpAnyH_take (i := 7) (oi := ⟨some 51, _, _, _, _, _⟩) (v := ?vwc7_6) rfl (by kernel_rfl) (by kernel_rfl) (by kernel_rfl) (fun _ _ _ h => h) (Or.inl ⟨by rfl, ?ywc7_6⟩) hHeld ?rwc7_6
        case ywc7_6 => (intro w' hSw; (try dsimp only at hSw); go_simp; try (with_reducible rfl))
        simp only [Act.put, List.setIfInBounds_toArray, List.set_cons_zero, List.set_cons_succ]
        refine wpAnyH_take (i := 8) (oi := ⟨some 52, _, _, _, _, _⟩) (v := ?vwc8_7) rfl (by kernel_rfl) (by kernel_rfl) (by kernel_rfl) (fun _ _ _ h => h) (Or.inl ⟨by rfl, ?ywc8_7⟩) hHeld ?rwc8_7
        case ywc8_7 => (intro w' hSw; (try dsimp only at hSw); go_simp; try (with_reducible rfl))
        simp only [Act.put, List.setIfInBounds_toArray, List.set_cons_zero, List.set_cons_succ]
        refine wpAnyH_ready (rs := [3]) (by kernel_rfl) (by simp) ?_
        refine AllReadyH.cons (o := ⟨some 47, _, _, _, _, _⟩) rfl (fun K hK => ?_) AllReadyH.nil
        go_simp
        (with_reducible refine (HL2.out _).mono ?_)
        rintro e u1 ⟨rfl, hb⟩
        (try dsimp only)
        have hB2 := hB.trans (hb.mono hB.size)
        refine hK.out _ _ (HKP.out _ hB2) (fun hNext => ?_)
        clear hK K hHeld
        have hHeld := hNext
        clear hNext
        clear hB
        have hB := hB2
        clear hB2
        replace hA := hA.on hb
        clear hb
        try simp only [Act.put, List.setIfInBounds_toArray, List.set_cons_zero, List.set_cons_succ]
        refine wpAnyH_ready (rs := [6]) (by kernel_rfl) (by simp) ?_
        refine AllReadyH.cons (o := ⟨some 50, _, _, _, _, _⟩) rfl (fun K hK => ?_) AllReadyH.nil
        go_simp
        (with_reducible refine (with_nil x c _).mono ?_)
        rintro e u2 ⟨bl, ul, rfl, hL, hbl, hul, hb⟩
        (try dsimp only)
        have hB2 := hB.trans (hb.mono hB.size)
        refine hK.out _ _ (HKP.out _ hB2) (fun hNext => ?_)
        clear hK K hHeld
        have hHeld := hNext
        clear hNext
        have hbl2 : BA < bl := Nat.lt_of_lt_of_le hA.lt hbl
        have hul2 : ∀ g, ul.ownBlock = some g → BA < g := fun g hg => Nat.lt_of_lt_of_le hA.lt (hul g hg)
        clear hbl hul
        clear hB
        have hB := hB2
        clear hB2
        replace hA := hA.on hb
        clear hb
        try simp only [Act.put, List.setIfInBounds_toArray, List.set_cons_zero, List.set_cons_succ]
        refine wpAnyH_take (i := 9) (oi := ⟨some 53, _, _, _, _, _⟩) (v := ?vwc9_8) rfl (by kernel_rfl) (by kernel_rfl) (by kernel_rfl) (fun _ _ _ h => h) (Or.inl ⟨by rfl, ?ywc9_8⟩) hHeld ?rwc9_8
        case ywc9_8 => (intro w' hSw; (try dsimp only at hSw); go_simp; try (with_reducible rfl))
        simp only [Act.put, List.setIfInBounds_toArray, List.set_cons_zero, List.set_cons_succ]
        refine wpAnyH_ready (rs := [10]) (by kernel_rfl) (by simp) ?_
        refine AllReadyH.cons (o := ⟨none, _, _, _, _, _⟩) rfl (fun K hK => ?_) AllReadyH.nil
        have kA := (hA.cell (1 + k2)).trans (nd_get hk2)
        have gA := hA.free (1 + k2)
        go_simp
        clear kA gA
        have hB2 := hB.setCell (p := ⟨BA, 1 + k2, none⟩) hBA (.pointer (some ⟨bl, 0, none⟩))
        refine hK.out _ _ (HKP.out _ hB2) (fun hNext => ?_)
        clear hK K hHeld
        have hHeld := hNext
        clear hNext
        clear hB
        have hB := hB2
        clear hB2
        replace hA := hA.set (1 + k2) (.pointer (some ⟨bl, 0, none⟩))
        rw [nd_set hk2] at hA
        replace hL := hL.ch (Ch.set u2 ⟨BA, 1 + k2, none⟩ (.pointer (some ⟨bl, 0, none⟩))) (fun e => by have e2 : bl = BA := e; omega) (fun g hg e => by have e2 : g = BA := e; have := hul2 g hg; omega)
        generalize hgen : u2.setCell ⟨BA, 1 + k2, none⟩ (.pointer (some ⟨bl, 0, none⟩)) = u3 at hHeld hB hA hL ⊢
        clear hgen
        try simp only [Act.put]
        refine wpAnyH_done (by kernel_rfl) ?_ _
        go_wp2_with fail
        go_meet
        exact ⟨bl, ul, hB, hA, hL, hbl2, hul2⟩
      case rest =>
        obtain ⟨bl, ul, hB5, hA5, hL5, h1, h2⟩ := hcut
        have H5 := Lib.hid hB5
        have HA5 := Lib.hid hA5
        have HL5 := Lib.hid hL5
        have H12 := Lib.hid (And.intro h1 h2)
        clear hB5 hA5 hL5 h1 h2 hA hB4
        go_wp2
        go_ret
        have hs1 := HS.out
        rw [← HE.out] at hs1
        have he := HA5.out
        rw [← HV2.out, ← HVS.out] at he
        exact ⟨BA, bl, ul, rfl, he, HL5.out, by have := hs1.size; omega, H12.out.1, H12.out.2, hs1.trans (H5.out.mono hs1.size)⟩
end Go.Proofs

namespace Go.Proofs.Hd
open Go.RowKit
theorem own_slT {w : World} {base : Nat} {t : TypeId} {size n : Nat} {v : Value} {xs : List Value} (h : w.ownsRow base t size v n xs) : ∃ A cap, v = .slice A n cap := by
  rcases h.2 with ⟨rfl, rfl⟩ | ⟨g, cap, cur, rfl, _⟩
  · exact ⟨none, 0, rfl⟩
  · exact ⟨_, cap, rfl⟩
theorem src_oneT {w : World} {g : Nat} {t : TypeId} {s : Value} (h : Blk w g t #[s]) (h1 : s.oneCell' = true) : Src w 1 (.slice (some ⟨g, 0, none⟩) 1 1) 1 [s] := ⟨rfl, by simpa using h1, .inr ⟨_, _, rfl, fun j u hj => by
  match j, hj with
  | 0, hj => exact (h.cell 0).trans (by simpa using hj)
  | j + 1, hj => simp at hj⟩⟩
theorem TrAt.ptr {w : World} {t : Pt} {v : Value} {S : Nat → Prop} (h : TrAt w t v S) : ∃ p, v = .pointer p := by
  by_cases hc : t.cnt = 1
  · obtain ⟨B, _, _, _, _, e, _⟩ := h.top hc
    exact ⟨_, e⟩
  · exact ⟨none, h.nil hc⟩
/-- A node above: what is there now. -/
theorem top_to {w w' : World} {x : Int} {c : Cb} {t : Pt} {v : Value} {S : Nat → Prop} {B BA Bl q : Nat} {ul : Value} (h : TrAt w t v S) (hv : v = ptrV B) (hq : prt t.sam c = q + 1) (hB : w.heap.size ≤ BA) (hl : BA < Bl) (hg : ∀ g, ul.ownBlock = some g → BA < g)
    (hA : Blk w' BA 73 (ndCells (q : Int) (updV (updV (fun _ => .pointer none) (lt3 t.sam q) (ptrV B)) (lt3 c q) (ptrV Bl) 0) (updV (updV (fun _ => .pointer none) (lt3 t.sam q) (ptrV B)) (lt3 c q) (ptrV Bl) 1) (updV (updV (fun _ => .pointer none) (lt3 t.sam q) (ptrV B)) (lt3 c q) (ptrV Bl) 2) c (.slice none 0 0)))
    (hL : LfAt w' Bl c [x] ul) (hb : Below w.heap.size w w') : TreeTo w (topT x c t) S (.returned (ptrV BA)) w' := by
  refine ⟨ptrV BA, fun y => y = BA ∨ ∃ j, j < 3 ∧ updS (updS (fun _ _ => False) (lt3 t.sam q) S) (lt3 c q) (fun y => y = Bl ∨ ul.ownBlock = some y) j y, rfl, ?_, ?_, Ch.of_below hb⟩
  · unfold topT
    rw [hq, Nat.add_sub_cancel]
    refine ⟨BA, _, _, rfl, hA, fun j _ => ?_, ⟨fun j _ hx => ?_, fun i j _ _ hij y hx hx2 => ?_⟩, fun _ => Iff.rfl⟩
    · unfold two updV updS
      by_cases e : j = lt3 c q
      · rw [if_pos e, if_pos e, if_pos e]
        exact ⟨Bl, ul, rfl, hL, fun _ => Iff.rfl⟩
      · rw [if_neg e, if_neg e, if_neg e]
        by_cases e2 : j = lt3 t.sam q
        · rw [if_pos e2, if_pos e2, if_pos e2, ← hv]
          exact h.on hb
        · rw [if_neg e2, if_neg e2, if_neg e2]
          exact ⟨rfl, fun _ h => h⟩
    · unfold updS at hx
      by_cases e : j = lt3 c q
      · rw [if_pos e] at hx
        rcases hx with hx | hx
        · omega
        · have := hg _ hx; omega
      · rw [if_neg e] at hx
        by_cases e2 : j = lt3 t.sam q
        · rw [if_pos e2] at hx
          have := h.lt _ hx; omega
        · rw [if_neg e2] at hx
          exact hx
    · unfold updS at hx hx2
      have key : ∀ y, S y → (y = Bl ∨ ul.ownBlock = some y) → False := fun y h1 h2 => by
        have h3 := h.lt y h1
        rcases h2 with h2 | h2
        · omega
        · have := hg _ h2; omega
      by_cases e : i = lt3 c q
      · have e2 : j ≠ lt3 c q := by omega
        rw [if_pos e] at hx
        rw [if_neg e2] at hx2
        by_cases e3 : j = lt3 t.sam q
        · rw [if_pos e3] at hx2
          exact key y hx2 hx
        · rw [if_neg e3] at hx2
          exact hx2
      · rw [if_neg e] at hx
        by_cases e3 : i = lt3 t.sam q
        · rw [if_pos e3] at hx
          by_cases e2 : j = lt3 c q
          · rw [if_pos e2] at hx2
            exact key y hx hx2
          · rw [if_neg e2, if_neg (by omega)] at hx2
            exact hx2
        · rw [if_neg e3] at hx
          exact hx
  · rintro y (rfl | ⟨j, _, hx⟩)
    · exact .inr hB
    · unfold updS at hx
      by_cases e : j = lt3 c q
      · rw [if_pos e] at hx
        rcases hx with hx | hx
        · exact .inr (by omega)
        · have := hg _ hx; exact .inr (by omega)
      · rw [if_neg e] at hx
        by_cases e2 : j = lt3 t.sam q
        · rw [if_pos e2] at hx
          exact .inl hx
        · rw [if_neg e2] at hx
          exact hx.elim
end Go.Proofs.Hd
namespace Go.Proofs
open Go.RowKit Go.Proofs.Hd Go.Lib
attribute [local go_sem] uv_nonneg
theorem info_intT : (Try.prog.info? 3).map (fun i => (i.zero, i.size, i.bytes)) = some (some (.int .i64 0), 1, 8) := by kernel_rfl
set_option maxRecDepth 100000 in
set_option maxHeartbeats 4000000 in
/-- A number more at a leaf. -/
theorem with_leaf (x : Int) (c : Cb) (B : Nat) (ids : List Int) (u : Value) (w : World) (hn : ids.length ≤ 1099511627776) (hL : LfAt w B c ids u) :
    Calls Try.prog 22 #[.pointer (some ⟨B, 0, none⟩), .int .i64 x, .agg #[.int .u64 (uv c.vh), .int .u64 (uv c.vl), .int .u64 (uv c.ch), .int .u64 (uv c.cl)]] w fun e w' => ∃ u', e = .returned (.pointer (some ⟨B, 0, none⟩)) ∧ LfAt w' B c (ids ++ [x]) u' ∧ (∀ g, u'.ownBlock = some g → u.ownBlock = some g ∨ w.heap.size ≤ g) ∧ Ch (fun k => k = B ∨ u.ownBlock = some k) w w' := by
  obtain ⟨ic, hic, hcz0, hcz1, hcz2⟩ := info_parts info_intT
  obtain ⟨r, hr⟩ : ∃ r, r = (-1 : Int) := ⟨_, rfl⟩
  have hp0 : prt c c = 0 := topB_eq (Nat.zero_le _) (fun j _ _ => by simp [dif]) (fun p hp => by omega)
  have HP : Hid (∀ W, Calls Try.prog 31 #[.agg #[.int .u64 (uv c.vh), .int .u64 (uv c.vl), .int .u64 (uv c.ch), .int .u64 (uv c.cl)], .agg #[.int .u64 (uv c.vh), .int .u64 (uv c.vl), .int .u64 (uv c.ch), .int .u64 (uv c.cl)]] W fun e w' => e = .returned (.int .i64 r) ∧ Below W.heap.size W w') := part_c c c r (by rw [hp0, hr]; rfl)
  obtain ⟨A, cap, rfl⟩ := own_slT hL.2
  obtain ⟨l, hlen⟩ : ∃ l, ids.length = l := ⟨_, rfl⟩
  have hBl := hL.1.lt
  have hb1 := below1 w (.cells #[.int .u64 (uv c.vh), .int .u64 (uv c.vl), .int .u64 (uv c.ch), .int .u64 (uv c.cl)] 27)
  have HX : Hid (Blk (w.alloc (.cells #[.int .u64 (uv c.vh), .int .u64 (uv c.vl), .int .u64 (uv c.ch), .int .u64 (uv c.cl)] 27)) w.heap.size 27 #[.int .u64 (uv c.vh), .int .u64 (uv c.vl), .int .u64 (uv c.ch), .int .u64 (uv c.cl)]) := Blk.new w _ _
  have HN := Lib.hid (hL.1.on hb1)
  have HO := Lib.hid (own_on hL.2 hb1)
  have HS := Lib.hid hb1
  have HLT := Lib.hid hL.2.lt
  clear hb1 hL hp0
  have HR := Lib.hid hr
  clear hr
  rw [hlen] at HN HO HLT hn ⊢
  have HLEN := Lib.hid hlen
  clear hlen
  go_enter Try.func22, Try.ntmps22
  go_upto_region 1 with (fail)
  generalize w.alloc (.cells #[.int .u64 (uv c.vh), .int .u64 (uv c.vl), .int .u64 (uv c.ch), .int .u64 (uv c.cl)] 27) = w1 at HX HN HS HO ⊢
  generalize hbx : w.heap.size = bx at HX HS ⊢
  have HE := Lib.hid hbx
  clear hbx
  have HKP : Hid (∀ W, Below w1.heap.size w1 W → (Below w1.heap.size w1 W ∧ W.cell? ⟨B, 4, none⟩ = some (.int .u64 (uv c.vh)) ∧ W.cell? ⟨B, 5, none⟩ = some (.int .u64 (uv c.vl)) ∧ W.cell? ⟨B, 6, none⟩ = some (.int .u64 (uv c.ch)) ∧ W.cell? ⟨B, 7, none⟩ = some (.int .u64 (uv c.cl)) ∧ W.cell? ⟨bx, 0, none⟩ = some (.int .u64 (uv c.vh)) ∧ W.cell? ⟨bx, 1, none⟩ = some (.int .u64 (uv c.vl)) ∧ W.cell? ⟨bx, 2, none⟩ = some (.int .u64 (uv c.ch)) ∧ W.cell? ⟨bx, 3, none⟩ = some (.int .u64 (uv c.cl)) ∧ W.cell? ⟨B, 0, none⟩ = some (.int .i64 (-1)))) := fun W hb => ⟨hb, ((HN.out.on hb).cell 4).trans rfl, ((HN.out.on hb).cell 5).trans rfl, ((HN.out.on hb).cell 6).trans rfl, ((HN.out.on hb).cell 7).trans rfl, ((HX.out.on hb).cell 0).trans rfl, ((HX.out.on hb).cell 1).trans rfl, ((HX.out.on hb).cell 2).trans rfl, ((HX.out.on hb).cell 3).trans rfl, ((HN.out.on hb).cell 0).trans rfl⟩
  go_upto_region 3 with (fail)
  go_cut [7] (fun s7 wc => s7 = .int .i64 r ∧ Below w1.heap.size w1 wc)
  case first =>
    have hB0 := Below.refl w1.heap.size w1
    refine wp_region_held_drew (S := fun w' => Below w1.heap.size w1 w' ∧ w'.cell? ⟨B, 4, none⟩ = some (.int .u64 (uv c.vh)) ∧ w'.cell? ⟨B, 5, none⟩ = some (.int .u64 (uv c.vl)) ∧ w'.cell? ⟨B, 6, none⟩ = some (.int .u64 (uv c.ch)) ∧ w'.cell? ⟨B, 7, none⟩ = some (.int .u64 (uv c.cl)) ∧ w'.cell? ⟨bx, 0, none⟩ = some (.int .u64 (uv c.vh)) ∧ w'.cell? ⟨bx, 1, none⟩ = some (.int .u64 (uv c.vl)) ∧ w'.cell? ⟨bx, 2, none⟩ = some (.int .u64 (uv c.ch)) ∧ w'.cell? ⟨bx, 3, none⟩ = some (.int .u64 (uv c.cl)) ∧ w'.cell? ⟨B, 0, none⟩ = some (.int .i64 (-1))) (by kernel_rfl) (HKP.out _ hB0.drew) (fun hHeld => ?_)
    have hB := hB0.drew
    clear hB0
    generalize w1.drew = u0 at hHeld hB ⊢
    refine wpAnyH_take (i := 0) (oi := ⟨some 17, _, _, _, _, _⟩) (v := ?vwe0_1) rfl (by kernel_rfl) (by kernel_rfl) (by kernel_rfl) (fun _ _ _ h => h) (Or.inl ⟨by rfl, ?ywe0_1⟩) hHeld ?rwe0_1
    case ywe0_1 => (intro w' hSw; (try dsimp only at hSw); go_simp; try (with_reducible rfl))
    simp only [Act.put, List.setIfInBounds_toArray, List.set_cons_zero, List.set_cons_succ]
    refine wpAnyH_take (i := 1) (oi := ⟨some 18, _, _, _, _, _⟩) (v := ?vwe1_2) rfl (by kernel_rfl) (by kernel_rfl) (by kernel_rfl) (fun _ _ _ h => h) (Or.inl ⟨by rfl, ?ywe1_2⟩) hHeld ?rwe1_2
    case ywe1_2 => (intro w' hSw; (try dsimp only at hSw); go_simp; try (with_reducible rfl))
    simp only [Act.put, List.setIfInBounds_toArray, List.set_cons_zero, List.set_cons_succ]
    refine wpAnyH_take (i := 2) (oi := ⟨some 19, _, _, _, _, _⟩) (v := ?vwe2_3) rfl (by kernel_rfl) (by kernel_rfl) (by kernel_rfl) (fun _ _ _ h => h) (Or.inl ⟨by rfl, ?ywe2_3⟩) hHeld ?rwe2_3
    case ywe2_3 => (intro w' hSw; (try dsimp only at hSw); go_simp; try (with_reducible rfl))
    simp only [Act.put, List.setIfInBounds_toArray, List.set_cons_zero, List.set_cons_succ]
    refine wpAnyH_take (i := 3) (oi := ⟨some 20, _, _, _, _, _⟩) (v := ?vwe3_4) rfl (by kernel_rfl) (by kernel_rfl) (by kernel_rfl) (fun _ _ _ h => h) (Or.inl ⟨by rfl, ?ywe3_4⟩) hHeld ?rwe3_4
    case ywe3_4 => (intro w' hSw; (try dsimp only at hSw); go_simp; try (with_reducible rfl))
    simp only [Act.put, List.setIfInBounds_toArray, List.set_cons_zero, List.set_cons_succ]
    refine wpAnyH_take (i := 4) (oi := ⟨some 21, _, _, _, _, _⟩) (v := ?vwe4_5) rfl (by kernel_rfl) (by kernel_rfl) (by kernel_rfl) (fun _ _ _ h => h) (Or.inl ⟨by rfl, ?ywe4_5⟩) hHeld ?rwe4_5
    case ywe4_5 => (intro w' hSw; (try dsimp only at hSw); go_simp; try (with_reducible rfl))
    simp only [Act.put, List.setIfInBounds_toArray, List.set_cons_zero, List.set_cons_succ]
    refine wpAnyH_ready (rs := [5]) (by kernel_rfl) (by simp) ?_
    refine AllReadyH.cons (o := ⟨some 22, _, _, _, _, _⟩) rfl (fun K hK => ?_) AllReadyH.nil
    go_simp
    (with_reducible refine (HP.out _).mono ?_)
    rintro e u1 ⟨rfl, hb⟩
    (try dsimp only)
    have hB2 := hB.trans (hb.mono hB.size)
    refine hK.out _ _ (HKP.out _ hB2) (fun hNext => ?_)
    clear hK K hHeld
    have hHeld := hNext
    clear hNext
    clear hB
    have hB := hB2
    clear hB2 hb
    try simp only [Act.put, List.setIfInBounds_toArray, List.set_cons_zero, List.set_cons_succ]
    refine wpAnyH_take (i := 6) (oi := ⟨some 7, _, _, _, _, _⟩) (v := ?vwe6_6) rfl (by kernel_rfl) (by kernel_rfl) (by kernel_rfl) (fun _ _ _ h => h) (Or.inl ⟨by rfl, ?ywe6_6⟩) hHeld ?rwe6_6
    case ywe6_6 => (intro w' hSw; (try dsimp only at hSw); go_simp; try (with_reducible rfl))
    simp only [Act.put, List.setIfInBounds_toArray, List.set_cons_zero, List.set_cons_succ]
    refine wpAnyH_done (by kernel_rfl) ?_ _
    go_wp2_with fail
    go_meet
    exact ⟨rfl, hB⟩
  case rest =>
    obtain ⟨rfl, hB2⟩ := hcut
    have hr := HR.out
    clear HR
    subst hr
    have hN2 := HN.out.on hB2
    have d0 := (hN2.cell 0).trans rfl
    have d8 := (hN2.cell 8).trans rfl
    have HN2 := Lib.hid hN2
    have HO2 := Lib.hid (own_on HO.out hB2)
    have HB2 := Lib.hid hB2
    unfold ndCells at d0 d8
    simp only [List.getElem?_toArray, List.getElem?_cons_succ, List.getElem?_cons_zero] at d0 d8
    clear hN2 hB2 HKP
    go_upto_region 10 with (fail)
    have hb3 := below1 wc (.cells #[.int .i64 x] 3)
    have hN3 := HN2.out.on hb3
    have O3 := own_on HO2.out hb3
    have SR := src_oneT (Blk.new wc 3 #[.int .i64 x]) rfl
    have HB3 := Lib.hid (HB2.out.trans (hb3.mono HB2.out.size))
    have hz3 : 0 ≤ (wc.alloc (.cells #[.int .i64 x] 3)).heap.size := Nat.zero_le _
    have HN3 := Lib.hid hN3
    clear hb3 hN3 d0
    go_wp2_with (at_builtin; refine wpList_app2 _ rfl (.tmp 64) (.tmp 66) 41 rfl 0 3 ic _ 1 8 Try.underlying41 hic hcz0 hcz1 hcz2 rfl (by decide) _ _ _ rfl O3 _ 1 [.int .i64 x] rfl SR (by unfold maxLen; omega) (by omega) hz3 ?_)
    intro v5 w5 O5 hg5
    have hN5 := HN3.out.grown hg5.1 (own_apart O3 HN3.out (by decide))
    obtain ⟨A5, cap5, rfl⟩ := own_slT O5
    have d8 := (hN5.cell 8).trans rfl
    have g8 := hN5.free 8
    unfold ndCells at d8
    simp only [List.getElem?_toArray, List.getElem?_cons_succ, List.getElem?_cons_zero] at d8
    have HN5 := Lib.hid (hN5.set 8 (.slice A5 (l + 1) cap5))
    have HO5 := Lib.hid (ownsRow_setCell_other (a := ⟨B, 8, none⟩) O5 (fun e => own_apart O5 hN5 (by decide) e.symm) (.slice A5 (l + 1) cap5))
    have HG5 := Lib.hid hg5
    have hCh : Ch (fun k => k = B ∨ (Value.slice A l cap).ownBlock = some k) w1 (w5.setCell ⟨B, 8, none⟩ (.slice A5 (l + 1) cap5)) := by
      refine ((Ch.of_below HB3.out).trans ?_).trans ((Ch.set w5 ⟨B, 8, none⟩ _).mono fun k _ hk => .inl hk)
      exact ⟨hg5.1.os, hg5.1.tape, hg5.1.output, hg5.1.size, fun k hk hn => hg5.1.block k hk (fun e => hn (.inr e.symm))⟩
    have HC := Lib.hid hCh
    clear hCh O3 SR hz3 hN5 O5 hg5 HN3 HO HO2 HN HN2
    go_wp2
    go_ret
    have hs1 := HS.out
    rw [← HE.out] at hs1
    refine ⟨.slice A5 (l + 1) cap5, rfl, ⟨HN5.out, ?_⟩, fun g hg => ?_, (Ch.of_below hs1).trans HC.out⟩
    · have := HO5.out
      rw [← HLEN.out] at this ⊢
      rw [List.map_append, List.length_append]
      exact this
    · rcases HG5.out.2 with h | ⟨k, h, hk⟩
      · exact .inl (by rw [← h]; exact hg)
      · rw [h] at hg
        injection hg with hg
        have h1 := HB3.out.size
        have h2 := hs1.size
        exact .inr (by omega)
set_option maxRecDepth 100000 in
set_option maxHeartbeats 4000000 in
/-- At a node whose cubes the new one parts from no higher: into one of its branches. -/
theorem with_nd (x : Int) (c : Cb) (a : Nat) (s : Cb) (b : Nat → Pt) (B : Nat) (vs : Nat → Value) (Ss : Nat → Nat → Prop) (S : Nat → Prop) (t' : Pt) (w : World) (ha : a < 128) (hp : prt s c ≤ a + 1)
    (hN : Blk w B 73 (ndCells (a : Int) (vs 0) (vs 1) (vs 2) s (.slice none 0 0))) (hT : ∀ k, k < 3 → TrAt w (b k) (vs k) (Ss k)) (hs : Sep B Ss) (hS : ∀ x, S x ↔ x = B ∨ ∃ k, k < 3 ∧ Ss k x)
    (ih : ∀ W, TrAt W (b (lt3 c a)) (vs (lt3 c a)) (Ss (lt3 c a)) → Calls Try.prog 22 #[vs (lt3 c a), .int .i64 x, .agg #[.int .u64 (uv c.vh), .int .u64 (uv c.vl), .int .u64 (uv c.ch), .int .u64 (uv c.cl)]] W (TreeTo W t' (Ss (lt3 c a)))) :
    Calls Try.prog 22 #[.pointer (some ⟨B, 0, none⟩), .int .i64 x, .agg #[.int .u64 (uv c.vh), .int .u64 (uv c.vl), .int .u64 (uv c.ch), .int .u64 (uv c.cl)]] w (TreeTo w (.nd a s (upd b (lt3 c a) t')) S) := by
  obtain ⟨r, hr⟩ : ∃ r, ((prt s c : Nat) : Int) - 1 = r := ⟨_, rfl⟩
  have HP : Hid (∀ W, Calls Try.prog 31 #[.agg #[.int .u64 (uv s.vh), .int .u64 (uv s.vl), .int .u64 (uv s.ch), .int .u64 (uv s.cl)], .agg #[.int .u64 (uv c.vh), .int .u64 (uv c.vl), .int .u64 (uv c.ch), .int .u64 (uv c.cl)]] W fun e w' => e = .returned (.int .i64 r) ∧ Below W.heap.size W w') := part_c s c r hr
  have hgt : ¬ (a : Int) < r := by omega
  have hne : ((a : Int) == -1) = false := by simp only [beq_eq_false_iff_ne]; omega
  have hk := lt3_lt c a
  have HL : Hid (∀ W, Calls Try.prog 32 #[.agg #[.int .u64 (uv c.vh), .int .u64 (uv c.vl), .int .u64 (uv c.ch), .int .u64 (uv c.cl)], .int .i64 (a : Int)] W fun e w' => e = .returned (.int .i64 ((lt3 c a : Nat) : Int)) ∧ Below W.heap.size W w') := lett_c c a ha _ rfl
  have HIH := Lib.hid ih
  clear ih
  generalize lt3 c a = k at *
  have hkz : (k : Int) < 3 := by omega
  clear hr hp ha
  have hb1 := below1 w (.cells #[.int .u64 (uv c.vh), .int .u64 (uv c.vl), .int .u64 (uv c.ch), .int .u64 (uv c.cl)] 27)
  have HX : Hid (Blk (w.alloc (.cells #[.int .u64 (uv c.vh), .int .u64 (uv c.vl), .int .u64 (uv c.ch), .int .u64 (uv c.cl)] 27)) w.heap.size 27 #[.int .u64 (uv c.vh), .int .u64 (uv c.vl), .int .u64 (uv c.ch), .int .u64 (uv c.cl)]) := Blk.new w _ _
  have HN := Lib.hid (hN.on hb1)
  have HT1 := Lib.hid (fun k hk => (hT k hk).on hb1 : ∀ k, k < 3 → TrAt _ (b k) (vs k) (Ss k))
  have HS := Lib.hid hb1
  have HSEP := Lib.hid hs
  have HSS := Lib.hid hS
  clear hb1 hN hT hs hS
  go_enter Try.func22, Try.ntmps22
  go_upto_region 1 with (fail)
  generalize w.alloc (.cells #[.int .u64 (uv c.vh), .int .u64 (uv c.vl), .int .u64 (uv c.ch), .int .u64 (uv c.cl)] 27) = w1 at HX HN HS HT1 ⊢
  generalize hbx : w.heap.size = bx at HX HS ⊢
  have HE := Lib.hid hbx
  clear hbx
  have HKP : Hid (∀ W, Below w1.heap.size w1 W → (Below w1.heap.size w1 W ∧ W.cell? ⟨B, 4, none⟩ = some (.int .u64 (uv s.vh)) ∧ W.cell? ⟨B, 5, none⟩ = some (.int .u64 (uv s.vl)) ∧ W.cell? ⟨B, 6, none⟩ = some (.int .u64 (uv s.ch)) ∧ W.cell? ⟨B, 7, none⟩ = some (.int .u64 (uv s.cl)) ∧ W.cell? ⟨bx, 0, none⟩ = some (.int .u64 (uv c.vh)) ∧ W.cell? ⟨bx, 1, none⟩ = some (.int .u64 (uv c.vl)) ∧ W.cell? ⟨bx, 2, none⟩ = some (.int .u64 (uv c.ch)) ∧ W.cell? ⟨bx, 3, none⟩ = some (.int .u64 (uv c.cl)) ∧ W.cell? ⟨B, 0, none⟩ = some (.int .i64 (a : Int)))) := fun W hb => ⟨hb, ((HN.out.on hb).cell 4).trans rfl, ((HN.out.on hb).cell 5).trans rfl, ((HN.out.on hb).cell 6).trans rfl, ((HN.out.on hb).cell 7).trans rfl, ((HX.out.on hb).cell 0).trans rfl, ((HX.out.on hb).cell 1).trans rfl, ((HX.out.on hb).cell 2).trans rfl, ((HX.out.on hb).cell 3).trans rfl, ((HN.out.on hb).cell 0).trans rfl⟩
  go_upto_region 3 with (fail)
  go_cut [7] (fun s7 wc => s7 = .int .i64 r ∧ Below w1.heap.size w1 wc)
  case first =>
    have hB0 := Below.refl w1.heap.size w1
    refine wp_region_held_drew (S := fun w' => Below w1.heap.size w1 w' ∧ w'.cell? ⟨B, 4, none⟩ = some (.int .u64 (uv s.vh)) ∧ w'.cell? ⟨B, 5, none⟩ = some (.int .u64 (uv s.vl)) ∧ w'.cell? ⟨B, 6, none⟩ = some (.int .u64 (uv s.ch)) ∧ w'.cell? ⟨B, 7, none⟩ = some (.int .u64 (uv s.cl)) ∧ w'.cell? ⟨bx, 0, none⟩ = some (.int .u64 (uv c.vh)) ∧ w'.cell? ⟨bx, 1, none⟩ = some (.int .u64 (uv c.vl)) ∧ w'.cell? ⟨bx, 2, none⟩ = some (.int .u64 (uv c.ch)) ∧ w'.cell? ⟨bx, 3, none⟩ = some (.int .u64 (uv c.cl)) ∧ w'.cell? ⟨B, 0, none⟩ = some (.int .i64 (a : Int))) (by kernel_rfl) (HKP.out _ hB0.drew) (fun hHeld => ?_)
    have hB := hB0.drew
    clear hB0
    generalize w1.drew = u0 at hHeld hB ⊢
    refine wpAnyH_take (i := 0) (oi := ⟨some 17, _, _, _, _, _⟩) (v := ?vwd0_1) rfl (by kernel_rfl) (by kernel_rfl) (by kernel_rfl) (fun _ _ _ h => h) (Or.inl ⟨by rfl, ?ywd0_1⟩) hHeld ?rwd0_1
    case ywd0_1 => (intro w' hSw; (try dsimp only at hSw); go_simp; try (with_reducible rfl))
    simp only [Act.put, List.setIfInBounds_toArray, List.set_cons_zero, List.set_cons_succ]
    refine wpAnyH_take (i := 1) (oi := ⟨some 18, _, _, _, _, _⟩) (v := ?vwd1_2) rfl (by kernel_rfl) (by kernel_rfl) (by kernel_rfl) (fun _ _ _ h => h) (Or.inl ⟨by rfl, ?ywd1_2⟩) hHeld ?rwd1_2
    case ywd1_2 => (intro w' hSw; (try dsimp only at hSw); go_simp; try (with_reducible rfl))
    simp only [Act.put, List.setIfInBounds_toArray, List.set_cons_zero, List.set_cons_succ]
    refine wpAnyH_take (i := 2) (oi := ⟨some 19, _, _, _, _, _⟩) (v := ?vwd2_3) rfl (by kernel_rfl) (by kernel_rfl) (by kernel_rfl) (fun _ _ _ h => h) (Or.inl ⟨by rfl, ?ywd2_3⟩) hHeld ?rwd2_3
    case ywd2_3 => (intro w' hSw; (try dsimp only at hSw); go_simp; try (with_reducible rfl))
    simp only [Act.put, List.setIfInBounds_toArray, List.set_cons_zero, List.set_cons_succ]
    refine wpAnyH_take (i := 3) (oi := ⟨some 20, _, _, _, _, _⟩) (v := ?vwd3_4) rfl (by kernel_rfl) (by kernel_rfl) (by kernel_rfl) (fun _ _ _ h => h) (Or.inl ⟨by rfl, ?ywd3_4⟩) hHeld ?rwd3_4
    case ywd3_4 => (intro w' hSw; (try dsimp only at hSw); go_simp; try (with_reducible rfl))
    simp only [Act.put, List.setIfInBounds_toArray, List.set_cons_zero, List.set_cons_succ]
    refine wpAnyH_take (i := 4) (oi := ⟨some 21, _, _, _, _, _⟩) (v := ?vwd4_5) rfl (by kernel_rfl) (by kernel_rfl) (by kernel_rfl) (fun _ _ _ h => h) (Or.inl ⟨by rfl, ?ywd4_5⟩) hHeld ?rwd4_5
    case ywd4_5 => (intro w' hSw; (try dsimp only at hSw); go_simp; try (with_reducible rfl))
    simp only [Act.put, List.setIfInBounds_toArray, List.set_cons_zero, List.set_cons_succ]
    refine wpAnyH_ready (rs := [5]) (by kernel_rfl) (by simp) ?_
    refine AllReadyH.cons (o := ⟨some 22, _, _, _, _, _⟩) rfl (fun K hK => ?_) AllReadyH.nil
    go_simp
    (with_reducible refine (HP.out _).mono ?_)
    rintro e u1 ⟨rfl, hb⟩
    (try dsimp only)
    have hB2 := hB.trans (hb.mono hB.size)
    refine hK.out _ _ (HKP.out _ hB2) (fun hNext => ?_)
    clear hK K hHeld
    have hHeld := hNext
    clear hNext
    clear hB
    have hB := hB2
    clear hB2 hb
    try simp only [Act.put, List.setIfInBounds_toArray, List.set_cons_zero, List.set_cons_succ]
    refine wpAnyH_take (i := 6) (oi := ⟨some 7, _, _, _, _, _⟩) (v := ?vwd6_6) rfl (by kernel_rfl) (by kernel_rfl) (by kernel_rfl) (fun _ _ _ h => h) (Or.inl ⟨by rfl, ?ywd6_6⟩) hHeld ?rwd6_6
    case ywd6_6 => (intro w' hSw; (try dsimp only at hSw); go_simp; try (with_reducible rfl))
    simp only [Act.put, List.setIfInBounds_toArray, List.set_cons_zero, List.set_cons_succ]
    refine wpAnyH_done (by kernel_rfl) ?_ _
    go_wp2_with fail
    go_meet
    exact ⟨rfl, hB⟩
  case rest =>
    obtain ⟨rfl, hB2⟩ := hcut
    have d0 := (HKP.out _ hB2).2.2.2.2.2.2.2.2.2
    have HB2 := Lib.hid hB2
    clear hB2
    go_upto_region 12 with (fail)
    go_cut [9] (fun s9 wc => s9 = .pointer (some ⟨B, 1 + k, none⟩) ∧ Below w1.heap.size w1 wc)
    case first =>
      have hB0 := HB2.out
      clear d0
      refine wp_region_held_drew (S := fun w' => Below w1.heap.size w1 w' ∧ w'.cell? ⟨B, 4, none⟩ = some (.int .u64 (uv s.vh)) ∧ w'.cell? ⟨B, 5, none⟩ = some (.int .u64 (uv s.vl)) ∧ w'.cell? ⟨B, 6, none⟩ = some (.int .u64 (uv s.ch)) ∧ w'.cell? ⟨B, 7, none⟩ = some (.int .u64 (uv s.cl)) ∧ w'.cell? ⟨bx, 0, none⟩ = some (.int .u64 (uv c.vh)) ∧ w'.cell? ⟨bx, 1, none⟩ = some (.int .u64 (uv c.vl)) ∧ w'.cell? ⟨bx, 2, none⟩ = some (.int .u64 (uv c.ch)) ∧ w'.cell? ⟨bx, 3, none⟩ = some (.int .u64 (uv c.cl)) ∧ w'.cell? ⟨B, 0, none⟩ = some (.int .i64 (a : Int))) (by kernel_rfl) (HKP.out _ hB0.drew) (fun hHeld => ?_)
      have hB := hB0.drew
      clear hB0
      generalize wc.drew = u0 at hHeld hB ⊢
      refine wpAnyH_take (i := 0) (oi := ⟨some 71, _, _, _, _, _⟩) (v := ?vwf0_1) rfl (by kernel_rfl) (by kernel_rfl) (by kernel_rfl) (fun _ _ _ h => h) (Or.inl ⟨by rfl, ?ywf0_1⟩) hHeld ?rwf0_1
      case ywf0_1 => (intro w' hSw; (try dsimp only at hSw); go_simp; try (with_reducible rfl))
      simp only [Act.put, List.setIfInBounds_toArray, List.set_cons_zero, List.set_cons_succ]
      refine wpAnyH_take (i := 1) (oi := ⟨some 72, _, _, _, _, _⟩) (v := ?vwf1_2) rfl (by kernel_rfl) (by kernel_rfl) (by kernel_rfl) (fun _ _ _ h => h) (Or.inl ⟨by rfl, ?ywf1_2⟩) hHeld ?rwf1_2
      case ywf1_2 => (intro w' hSw; (try dsimp only at hSw); go_simp; try (with_reducible rfl))
      simp only [Act.put, List.setIfInBounds_toArray, List.set_cons_zero, List.set_cons_succ]
      refine wpAnyH_take (i := 2) (oi := ⟨some 73, _, _, _, _, _⟩) (v := ?vwf2_3) rfl (by kernel_rfl) (by kernel_rfl) (by kernel_rfl) (fun _ _ _ h => h) (Or.inl ⟨by rfl, ?ywf2_3⟩) hHeld ?rwf2_3
      case ywf2_3 => (intro w' hSw; (try dsimp only at hSw); go_simp; try (with_reducible rfl))
      simp only [Act.put, List.setIfInBounds_toArray, List.set_cons_zero, List.set_cons_succ]
      refine wpAnyH_take (i := 3) (oi := ⟨some 74, _, _, _, _, _⟩) (v := ?vwf3_4) rfl (by kernel_rfl) (by kernel_rfl) (by kernel_rfl) (fun _ _ _ h => h) (Or.inl ⟨by rfl, ?ywf3_4⟩) hHeld ?rwf3_4
      case ywf3_4 => (intro w' hSw; (try dsimp only at hSw); go_simp; try (with_reducible rfl))
      simp only [Act.put, List.setIfInBounds_toArray, List.set_cons_zero, List.set_cons_succ]
      refine wpAnyH_take (i := 4) (oi := ⟨some 75, _, _, _, _, _⟩) (v := ?vwf4_5) rfl (by kernel_rfl) (by kernel_rfl) (by kernel_rfl) (fun _ _ _ h => h) (Or.inl ⟨by rfl, ?ywf4_5⟩) hHeld ?rwf4_5
      case ywf4_5 => (intro w' hSw; (try dsimp only at hSw); go_simp; try (with_reducible rfl))
      simp only [Act.put, List.setIfInBounds_toArray, List.set_cons_zero, List.set_cons_succ]
      refine wpAnyH_take (i := 5) (oi := ⟨some 76, _, _, _, _, _⟩) (v := ?vwf5_6) rfl (by kernel_rfl) (by kernel_rfl) (by kernel_rfl) (fun _ _ _ h => h) (Or.inl ⟨by rfl, ?ywf5_6⟩) hHeld ?rwf5_6
      case ywf5_6 => (intro w' hSw; (try dsimp only at hSw); go_simp; try (with_reducible rfl))
      simp only [Act.put, List.setIfInBounds_toArray, List.set_cons_zero, List.set_cons_succ]
      refine wpAnyH_take (i := 7) (oi := ⟨some 78, _, _, _, _, _⟩) (v := ?vwf7_7) rfl (by kernel_rfl) (by kernel_rfl) (by kernel_rfl) (fun _ _ _ h => h) (Or.inl ⟨by rfl, ?ywf7_7⟩) hHeld ?rwf7_7
      case ywf7_7 => (intro w' hSw; (try dsimp only at hSw); go_simp; try (with_reducible rfl))
      simp only [Act.put, List.setIfInBounds_toArray, List.set_cons_zero, List.set_cons_succ]
      refine wpAnyH_take (i := 8) (oi := ⟨some 79, _, _, _, _, _⟩) (v := ?vwf8_8) rfl (by kernel_rfl) (by kernel_rfl) (by kernel_rfl) (fun _ _ _ h => h) (Or.inl ⟨by rfl, ?ywf8_8⟩) hHeld ?rwf8_8
      case ywf8_8 => (intro w' hSw; (try dsimp only at hSw); go_simp; try (with_reducible rfl))
      simp only [Act.put, List.setIfInBounds_toArray, List.set_cons_zero, List.set_cons_succ]
      refine wpAnyH_ready (rs := [6]) (by kernel_rfl) (by simp) ?_
      refine AllReadyH.cons (o := ⟨some 77, _, _, _, _, _⟩) rfl (fun K hK => ?_) AllReadyH.nil
      go_simp
      (with_reducible refine (HL.out _).mono ?_)
      rintro e u1 ⟨rfl, hb⟩
      (try dsimp only)
      have hB2 := hB.trans (hb.mono hB.size)
      refine hK.out _ _ (HKP.out _ hB2) (fun hNext => ?_)
      clear hK K hHeld
      have hHeld := hNext
      clear hNext
      clear hB
      have hB := hB2
      clear hB2 hb
      try simp only [Act.put, List.setIfInBounds_toArray, List.set_cons_zero, List.set_cons_succ]
      refine wpAnyH_take (i := 9) (oi := ⟨some 80, _, _, _, _, _⟩) (v := ?vwf9_9) rfl (by kernel_rfl) (by kernel_rfl) (by kernel_rfl) (fun _ _ _ h => h) (Or.inl ⟨by rfl, ?ywf9_9⟩) hHeld ?rwf9_9
      case ywf9_9 => (intro w' hSw; (try dsimp only at hSw); go_simp; try (with_reducible rfl))
      simp only [Act.put, List.setIfInBounds_toArray, List.set_cons_zero, List.set_cons_succ]
      refine wpAnyH_take (i := 10) (oi := ⟨some 9, _, _, _, _, _⟩) (v := ?vwf10_10) rfl (by kernel_rfl) (by kernel_rfl) (by kernel_rfl) (fun _ _ _ h => h) (Or.inl ⟨by rfl, ?ywf10_10⟩) hHeld ?rwf10_10
      case ywf10_10 => (intro w' hSw; (try dsimp only at hSw); go_simp; try (with_reducible rfl))
      simp only [Act.put, List.setIfInBounds_toArray, List.set_cons_zero, List.set_cons_succ]
      refine wpAnyH_done (by kernel_rfl) ?_ _
      go_wp2_with fail
      go_meet
      exact ⟨rfl, hB⟩
    case rest =>
      obtain ⟨rfl, hB3⟩ := hcut
      have hs1 := HS.out
      rw [← HE.out] at hs1
      have hbd := hB3.drew
      have hN := HN.out.on hbd
      have HXq := Lib.hid (HX.out.on hbd)
      have HT := Lib.hid (fun k hk => (HT1.out k hk).on hbd : ∀ k, k < 3 → TrAt _ (b k) (vs k) (Ss k))
      have HCW : Hid (Ch S w wc.drew) := (Ch.of_below hs1).trans (Ch.of_below hbd)
      have HZ : Hid (w.heap.size ≤ wc.drew.heap.size) := Nat.le_trans hs1.size hbd.size
      clear hbd hB3 HB2 HKP HX d0 HN HT1 hs1
      have HX := HXq
      clear HXq
      go_upto_region 13 with (fail)
      refine wp_region_held_drew (S := fun _ => True) (by kernel_rfl) trivial (fun hHeld => ?_)
      generalize wc.drew = u0 at hHeld hN HX HT HCW HZ ⊢
      refine wpAnyH_take (i := 0) (oi := ⟨some 81, _, _, _, _, _⟩) (v := ?vwg0_1) rfl (by kernel_rfl) (by kernel_rfl) (by kernel_rfl) (fun _ _ _ h => h) (Or.inl ⟨by rfl, ?ywg0_1⟩) hHeld ?rwg0_1
      case ywg0_1 => (intro w' hSw; (try dsimp only at hSw); go_simp; try (with_reducible rfl))
      simp only [Act.put, List.setIfInBounds_toArray, List.set_cons_zero, List.set_cons_succ]
      refine wpAnyH_take (i := 1) (oi := ⟨some 82, _, _, _, _, _⟩) (v := ?vwg1_2) rfl (by kernel_rfl) (by kernel_rfl) (by kernel_rfl) (fun _ _ _ h => h) (Or.inl ⟨by rfl, ?ywg1_2⟩) hHeld ?rwg1_2
      case ywg1_2 => (intro w' hSw; (try dsimp only at hSw); go_simp; try (with_reducible rfl))
      simp only [Act.put, List.setIfInBounds_toArray, List.set_cons_zero, List.set_cons_succ]
      refine wpAnyH_take (i := 2) (oi := ⟨some 83, _, _, _, _, _⟩) (v := ?vwg2_3) rfl (by kernel_rfl) (by kernel_rfl) (by kernel_rfl) (fun _ _ _ h => h) (Or.inl ⟨by rfl, ?ywg2_3⟩) hHeld ?rwg2_3
      case ywg2_3 => (intro w' hSw; (try dsimp only at hSw); go_simp; try (with_reducible rfl))
      simp only [Act.put, List.setIfInBounds_toArray, List.set_cons_zero, List.set_cons_succ]
      refine wpAnyH_take (i := 4) (oi := ⟨some 85, _, _, _, _, _⟩) (v := ?vwg4_4) rfl (by kernel_rfl) (by kernel_rfl) (by kernel_rfl) (fun _ _ _ h => h) (Or.inl ⟨by rfl, ?ywg4_4⟩) hHeld ?rwg4_4
      case ywg4_4 => (intro w' hSw; (try dsimp only at hSw); go_simp; try (with_reducible rfl))
      simp only [Act.put, List.setIfInBounds_toArray, List.set_cons_zero, List.set_cons_succ]
      refine wpAnyH_ready (rs := [3, 5]) (by kernel_rfl) (by simp) ?_
      refine AllReadyH.cons (o := ⟨some 84, _, _, _, _, _⟩) rfl (fun K hK => ?_) ?_
      · have kA := (hN.cell (1 + k)).trans (nd_get hk)
        go_simp
        refine hK.out _ _ trivial (fun hNext => ?_)
        clear hK K hHeld
        have hHeld := hNext
        clear hNext
        clear kA
        try simp only [Act.put, List.setIfInBounds_toArray, List.set_cons_zero, List.set_cons_succ]
        refine wpAnyH_ready (rs := [5]) (by kernel_rfl) (by simp) ?_
        refine AllReadyH.cons (o := ⟨some 86, _, _, _, _, _⟩) rfl (fun K hK => ?_) AllReadyH.nil
        have x0 := (HX.out.cell 0).trans rfl
        have x1 := (HX.out.cell 1).trans rfl
        have x2 := (HX.out.cell 2).trans rfl
        have x3 := (HX.out.cell 3).trans rfl
        simp only [List.getElem?_toArray, List.getElem?_cons_succ, List.getElem?_cons_zero] at x0 x1 x2 x3
        go_simp
        refine hK.out _ _ trivial (fun hNext => ?_)
        clear hK K hHeld
        have hHeld := hNext
        clear hNext
        clear x0 x1 x2 x3
        try simp only [Act.put, List.setIfInBounds_toArray, List.set_cons_zero, List.set_cons_succ]
        refine wpAnyH_ready (rs := [6]) (by kernel_rfl) (by simp) ?_
        refine AllReadyH.cons (o := ⟨some 87, _, _, _, _, _⟩) rfl (fun K hK => ?_) AllReadyH.nil
        go_simp
        (with_reducible refine (HIH.out _ (HT.out k hk)).mono ?_)
        rintro e u1 ⟨v', S', rfl, hT', hn', hc'⟩
        (try dsimp only)
        refine hK.out _ _ trivial (fun hNext => ?_)
        clear hK K hHeld
        have hHeld := hNext
        clear hNext
        have HT2 := Lib.hid hT'
        have HN2 := Lib.hid hn'
        have HC2 := Lib.hid hc'
        clear hT' hn' hc'
        try simp only [Act.put, List.setIfInBounds_toArray, List.set_cons_zero, List.set_cons_succ]
        refine wpAnyH_take (i := 7) (oi := ⟨some 88, _, _, _, _, _⟩) (v := ?vwg7_5) rfl (by kernel_rfl) (by kernel_rfl) (by kernel_rfl) (fun _ _ _ h => h) (Or.inl ⟨by rfl, ?ywg7_5⟩) hHeld ?rwg7_5
        case ywg7_5 => (intro w' hSw; (try dsimp only at hSw); go_simp; try (with_reducible rfl))
        simp only [Act.put, List.setIfInBounds_toArray, List.set_cons_zero, List.set_cons_succ]
        refine wpAnyH_ready (rs := [8]) (by kernel_rfl) (by simp) ?_
        refine AllReadyH.cons (o := ⟨none, _, _, _, _, _⟩) rfl (fun K hK => ?_) AllReadyH.nil
        obtain ⟨p', hp'⟩ := HT2.out.ptr
        subst hp'
        have hA := HC2.out.blk hN (HSEP.out.out k hk)
        have kA := (hA.cell (1 + k)).trans (nd_get hk)
        have gA := hA.free (1 + k)
        go_simp
        clear kA gA hA
        refine hK.out _ _ trivial (fun hNext => ?_)
        clear hK K hHeld
        have hHeld := hNext
        clear hNext
        have HR := Lib.hid (TrAt.branch hk hN HT.out HSEP.out HSS.out HT2.out HN2.out HC2.out (rfl : u1.setCell ⟨B, 1 + k, none⟩ (.pointer p') = _))
        generalize u1.setCell ⟨B, 1 + k, none⟩ (.pointer p') = u2 at HR ⊢
        try simp only [Act.put]
        refine wpAnyH_done (by kernel_rfl) ?_ _
        clear HT2 HN2 HC2 hN HT HX HIH
        go_wp2
        go_ret
        obtain ⟨q1, q2, q3, q4, q5⟩ := HR.out
        exact ⟨_, _, rfl, ⟨B, _, _, rfl, q3, q1, q2, fun _ => Iff.rfl⟩, fun y hy => (q4 y hy).imp_right fun h => Nat.le_trans HZ.out h, HCW.out.trans q5⟩
      refine AllReadyH.cons (o := ⟨some 86, _, _, _, _, _⟩) rfl (fun K hK => ?_) AllReadyH.nil
      have x0 := (HX.out.cell 0).trans rfl
      have x1 := (HX.out.cell 1).trans rfl
      have x2 := (HX.out.cell 2).trans rfl
      have x3 := (HX.out.cell 3).trans rfl
      simp only [List.getElem?_toArray, List.getElem?_cons_succ, List.getElem?_cons_zero] at x0 x1 x2 x3
      go_simp
      refine hK.out _ _ trivial (fun hNext => ?_)
      clear hK K hHeld
      have hHeld := hNext
      clear hNext
      clear x0 x1 x2 x3
      try simp only [Act.put, List.setIfInBounds_toArray, List.set_cons_zero, List.set_cons_succ]
      refine wpAnyH_ready (rs := [3]) (by kernel_rfl) (by simp) ?_
      refine AllReadyH.cons (o := ⟨some 84, _, _, _, _, _⟩) rfl (fun K hK => ?_) AllReadyH.nil
      have kA := (hN.cell (1 + k)).trans (nd_get hk)
      go_simp
      refine hK.out _ _ trivial (fun hNext => ?_)
      clear hK K hHeld
      have hHeld := hNext
      clear hNext
      clear kA
      try simp only [Act.put, List.setIfInBounds_toArray, List.set_cons_zero, List.set_cons_succ]
      refine wpAnyH_ready (rs := [6]) (by kernel_rfl) (by simp) ?_
      refine AllReadyH.cons (o := ⟨some 87, _, _, _, _, _⟩) rfl (fun K hK => ?_) AllReadyH.nil
      go_simp
      (with_reducible refine (HIH.out _ (HT.out k hk)).mono ?_)
      rintro e u3 ⟨v', S', rfl, hT', hn', hc'⟩
      (try dsimp only)
      refine hK.out _ _ trivial (fun hNext => ?_)
      clear hK K hHeld
      have hHeld := hNext
      clear hNext
      have HT2 := Lib.hid hT'
      have HN2 := Lib.hid hn'
      have HC2 := Lib.hid hc'
      clear hT' hn' hc'
      try simp only [Act.put, List.setIfInBounds_toArray, List.set_cons_zero, List.set_cons_succ]
      refine wpAnyH_take (i := 7) (oi := ⟨some 88, _, _, _, _, _⟩) (v := ?vwg7_6) rfl (by kernel_rfl) (by kernel_rfl) (by kernel_rfl) (fun _ _ _ h => h) (Or.inl ⟨by rfl, ?ywg7_6⟩) hHeld ?rwg7_6
      case ywg7_6 => (intro w' hSw; (try dsimp only at hSw); go_simp; try (with_reducible rfl))
      simp only [Act.put, List.setIfInBounds_toArray, List.set_cons_zero, List.set_cons_succ]
      refine wpAnyH_ready (rs := [8]) (by kernel_rfl) (by simp) ?_
      refine AllReadyH.cons (o := ⟨none, _, _, _, _, _⟩) rfl (fun K hK => ?_) AllReadyH.nil
      obtain ⟨p', hp'⟩ := HT2.out.ptr
      subst hp'
      have hA := HC2.out.blk hN (HSEP.out.out k hk)
      have kA := (hA.cell (1 + k)).trans (nd_get hk)
      have gA := hA.free (1 + k)
      go_simp
      clear kA gA hA
      refine hK.out _ _ trivial (fun hNext => ?_)
      clear hK K hHeld
      have hHeld := hNext
      clear hNext
      have HR := Lib.hid (TrAt.branch hk hN HT.out HSEP.out HSS.out HT2.out HN2.out HC2.out (rfl : u3.setCell ⟨B, 1 + k, none⟩ (.pointer p') = _))
      generalize u3.setCell ⟨B, 1 + k, none⟩ (.pointer p') = u4 at HR ⊢
      try simp only [Act.put]
      refine wpAnyH_done (by kernel_rfl) ?_ _
      clear HT2 HN2 HC2 hN HT HX HIH
      go_wp2
      go_ret
      obtain ⟨q1, q2, q3, q4, q5⟩ := HR.out
      exact ⟨_, _, rfl, ⟨B, _, _, rfl, q3, q1, q2, fun _ => Iff.rfl⟩, fun y hy => (q4 y hy).imp_right fun h => Nat.le_trans HZ.out h, HCW.out.trans q5⟩
/-- A cube more in the tree. -/
theorem with_c (x : Int) (c : Cb) (hc : c.snd = true) : ∀ (t : Pt), t.Ok → t.all.length ≤ 1099511627776 → ∀ (v : Value) (S : Nat → Prop) (w : World), TrAt w t v S → Calls Try.prog 22 #[v, .int .i64 x, .agg #[.int .u64 (uv c.vh), .int .u64 (uv c.vl), .int .u64 (uv c.ch), .int .u64 (uv c.cl)]] w (TreeTo w (t.ins x c) S)
  | .no, _, _, v, S, w, h => by
    obtain ⟨rfl, _⟩ := h
    refine (with_nil x c w).mono ?_
    rintro e w' ⟨B, u, rfl, hL, hB, hu, hb⟩
    refine ⟨ptrV B, fun y => y = B ∨ u.ownBlock = some y, rfl, ⟨B, u, rfl, hL, fun _ => Iff.rfl⟩, ?_, Ch.of_below hb⟩
    rintro y (rfl | hy)
    · exact .inr hB
    · exact .inr (hu y hy)
  | .lf d ids, ok, hlen, v, S, w, h => by
    have h0 := h
    obtain ⟨B, u, rfl, hL, hS⟩ := h
    unfold Pt.ins
    by_cases hp : 0 < prt d c
    · rw [if_pos hp]
      obtain ⟨q, hq⟩ : ∃ q, prt d c = q + 1 := ⟨prt d c - 1, by omega⟩
      refine (with_top x d c (-1) _ _ _ u B q w hL.1 hq (by omega)).mono ?_
      rintro e w' ⟨BA, Bl, ul, rfl, h1, h2, h3, h4, h5, h6⟩
      exact top_to (t := .lf d ids) h0 rfl hq h3 h4 h5 h1 h2 h6
    · rw [if_neg hp]
      have e := prt_zero (a := d) (b := c) (by omega)
      subst e
      have hlen2 : ids.length ≤ 1099511627776 := by unfold Pt.all at hlen; rwa [List.length_map] at hlen
      refine (with_leaf x d B ids u w hlen2 hL).mono ?_
      rintro e w' ⟨u', rfl, h1, h2, h3⟩
      refine ⟨ptrV B, fun y => y = B ∨ u'.ownBlock = some y, rfl, ⟨B, u', rfl, h1, fun _ => Iff.rfl⟩, ?_, h3.mono fun k _ hk => (hS k).2 hk⟩
      rintro y (rfl | hy)
      · exact .inl ((hS y).2 (.inl rfl))
      · exact (h2 y hy).imp_left fun h => (hS y).2 (.inr h)
  | .nd a s b, ok, hlen, v, S, w, h => by
    have h0 := h
    obtain ⟨B, vs, Ss, rfl, hN, hT, hs, hS⟩ := h
    obtain ⟨_, hb⟩ := Ok_nd.1 ok
    unfold Pt.ins
    by_cases hp : a + 1 < prt s c
    · rw [if_pos hp]
      obtain ⟨q, hq⟩ : ∃ q, prt s c = q + 1 := ⟨prt s c - 1, by omega⟩
      refine (with_top x s c (a : Int) _ _ _ _ B q w hN hq (by omega)).mono ?_
      rintro e w' ⟨BA, Bl, ul, rfl, h1, h2, h3, h4, h5, h6⟩
      exact top_to (t := .nd a s b) h0 rfl hq h3 h4 h5 h1 h2 h6
    · rw [if_neg hp]
      have hk := lt3_lt c a
      have hlk : (b (lt3 c a)).all.length ≤ 1099511627776 := by
        rw [all_nd] at hlen
        unfold allB at hlen
        rw [List.length_append, List.length_append] at hlen
        match lt3 c a, hk with
        | 0, _ => omega
        | 1, _ => omega
        | 2, _ => omega
      exact with_nd x c a s b B vs Ss S _ w hb.lt (by omega) hN hT hs hS (fun W hW => with_c x c hc (b (lt3 c a)) (hb.ok _ hk) hlk _ _ W hW)
end Go.Proofs
