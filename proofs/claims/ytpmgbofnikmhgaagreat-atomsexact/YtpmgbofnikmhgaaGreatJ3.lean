/-
  Contract of cube.Less: the difference of two cubes as a list. Conditions as each theorem lists them.
  Contracts of the inner functions of package head (isField, isNumber, lowest, below, shiftedDown, shiftedUp), of cmp.Compare and OnesCount64, of Ones and of Bit outside 0..127. Conditions as each theorem lists them.
  Contracts of Bit, Mask and Get of package head and of cmp.Or at two values. Conditions as each theorem lists them.
  Contracts of Put of package head: the field is set, or ErrArg, or ErrRange. Conditions as each theorem lists them.
  Contracts of cube.Field: the field's cube, or an error. Conditions as each theorem lists them.
  The function awake of the laws of layer 2 returns true. No conditions.
  Contracts of cube's Meet, Within, Before and After for all inputs, each in one sentence. No conditions.
  Plain mathematics: the cubes of a difference: each lies within the first cube, and each header of the first cube is in just one of them or in the intersection. No conditions.
  The law CubeParts returns true for all cubes and headers, and changes nothing that was there. No conditions.
  Plain mathematics on lists of cubes: which cubes are spare, and that a list without them has the same headers. No program in sight. Conditions as each theorem lists them.
  A slice of cubes in memory, wherever it lies; contracts of slices.IndexFunc and slices.ContainsFunc over cubes, and of pile.Sound and pile.Has. Conditions as each theorem lists them.
  How a slice of cubes that is handed in reads, as a list of cubes wherever it lies. No conditions.
  Atoms as mathematics: lists of (numbers, head, pile) over any kind of pile; splitting by a cube, merging those of equal numbers. No program in sight. Conditions as each theorem lists them.
  What a call adds to memory and no more (Grew); contracts of cmp.Compare and cmp.isNaN at ints. No conditions.
  The order of pile.widestFirst: contracts of cmp.Compare and cmp.Or at ints, of head.Ones and of the comparing closure, each with what it adds to memory. Conditions as each theorem lists them.
  Numbers in memory: rows of ints. No conditions.
-/
import Derived.Test.YtpmgbofnikmhgaaGreatJ2
import Derived.Deep.RegionHeld3
import Derived.Deep.LoopGhost
import Derived.Deep.DeepCutAuto
import Derived.Deep.Light
import Derived.OwnWalk
import Derived.Deep.RegionWith
import Derived.Lib.Hide
import Derived.Shelf.GgClosure.Gives
import Derived.Test.YtpmgbofnikmhgaaGreatProg
import Derived.Sort.Grow
namespace Go.Proofs
open Go.RowKit Go.Proofs.Hd
attribute [local go_sem] uv_and uv_or uv_xor uv_andNot uv_shr uv_shl uv_add uv_sub uv_nonneg
attribute [local go_sem high] run_eq2 run_eq4
theorem bdrew (w : World) : Below w.heap.size w w.drew := (Below.refl _ _).drew
theorem infoCube : (Tryz.prog.info? 53).map (fun i => (i.zero, i.size, i.bytes)) = some (some (.agg #[.int .u64 0, .int .u64 0, .int .u64 0, .int .u64 0]), 4, 32) := by kernel_rfl
set_option maxHeartbeats 2000000 in
theorem less_no1 (a b : Cb) (w : World) (h1 : sndB a.vh a.vl a.ch a.cl = false) :
    Calls Tryz.prog 109 #[.agg #[.int .u64 (uv a.vh), .int .u64 (uv a.vl), .int .u64 (uv a.ch), .int .u64 (uv a.cl)], .agg #[.int .u64 (uv b.vh), .int .u64 (uv b.vl), .int .u64 (uv b.ch), .int .u64 (uv b.cl)]] w fun e w' => e = .returned (.slice none 0 0) ∧ Below w.heap.size w w' := by
  have T0 := Tw.start w a b
  have E0 := T0.eqs
  go_enter Tryz.func109, Tryz.ntmps109
  go_wp2_with fail
  (with_reducible refine (sound_c _ _ _ _ _).mono ?_)
  rintro e w1 ⟨rfl, hb1⟩
  have T1 := T0.on hb1
  have E1 := T1.eqs
  clear hb1 E0
  go_wp2
  go_ret
  exact ⟨rfl, T1.bel⟩

set_option maxHeartbeats 2000000 in
theorem less_no2 (a b : Cb) (w : World) (h1 : sndB a.vh a.vl a.ch a.cl = true) (h2 : sndB b.vh b.vl b.ch b.cl = false) :
    Calls Tryz.prog 109 #[.agg #[.int .u64 (uv a.vh), .int .u64 (uv a.vl), .int .u64 (uv a.ch), .int .u64 (uv a.cl)], .agg #[.int .u64 (uv b.vh), .int .u64 (uv b.vl), .int .u64 (uv b.ch), .int .u64 (uv b.cl)]] w fun e w' => e = .returned (.slice none 0 0) ∧ Below w.heap.size w w' := by
  have T0 := Tw.start w a b
  have E0 := T0.eqs
  go_enter Tryz.func109, Tryz.ntmps109
  go_wp2_with fail
  (with_reducible refine (sound_c _ _ _ _ _).mono ?_)
  rintro e w1 ⟨rfl, hb1⟩
  have T1 := T0.on hb1
  have E1 := T1.eqs
  clear hb1 E0
  go_wp2_with fail
  (with_reducible refine (sound_c _ _ _ _ _).mono ?_)
  rintro e w2 ⟨rfl, hb2⟩
  have T2 := T1.on hb2
  have E2 := T2.eqs
  clear hb2 E1
  go_wp2
  go_ret
  exact ⟨rfl, T2.bel⟩

set_option maxHeartbeats 2000000 in
theorem less_all (a b : Cb) (w : World) (h1 : sndB a.vh a.vl a.ch a.cl = true) (h2 : sndB b.vh b.vl b.ch b.cl = true) (h3 : agrB a.vh a.vl a.ch a.cl b.vh b.vl b.ch b.cl = false) :
    Calls Tryz.prog 109 #[.agg #[.int .u64 (uv a.vh), .int .u64 (uv a.vl), .int .u64 (uv a.ch), .int .u64 (uv a.cl)], .agg #[.int .u64 (uv b.vh), .int .u64 (uv b.vl), .int .u64 (uv b.ch), .int .u64 (uv b.cl)]] w (Got w [a]) := by
  have T0 := Tw.start w a b
  have E0 := T0.eqs
  go_enter Tryz.func109, Tryz.ntmps109
  go_wp2_with fail
  (with_reducible refine (sound_c _ _ _ _ _).mono ?_)
  rintro e w1 ⟨rfl, hb1⟩
  have T1 := T0.on hb1
  have E1 := T1.eqs
  clear hb1 E0
  go_wp2_with fail
  (with_reducible refine (sound_c _ _ _ _ _).mono ?_)
  rintro e w2 ⟨rfl, hb2⟩
  have T2 := T1.on hb2
  have E2 := T2.eqs
  clear hb2 E1
  go_wp2_with fail
  (with_reducible refine (agree_c _ _ _ _ _ _ _ _ _).mono ?_)
  rintro e w3 ⟨rfl, hb3⟩
  have T3 := T2.on hb3
  have E3 := T3.eqs
  clear hb3 E2
  go_wp2

  go_ret
  exact ⟨_, rfl, World.ownsRow_lit w3 a.arr 1 T3.bel.size (by decide) rfl, T3.bel.alloc T3.bel.size _⟩

set_option maxHeartbeats 2000000 in
theorem less_some (a b : Cb) (w : World) (h1 : sndB a.vh a.vl a.ch a.cl = true) (h2 : sndB b.vh b.vl b.ch b.cl = true) (h3 : agrB a.vh a.vl a.ch a.cl b.vh b.vl b.ch b.cl = true) :
    Calls Tryz.prog 109 #[.agg #[.int .u64 (uv a.vh), .int .u64 (uv a.vl), .int .u64 (uv a.ch), .int .u64 (uv a.cl)], .agg #[.int .u64 (uv b.vh), .int .u64 (uv b.vl), .int .u64 (uv b.ch), .int .u64 (uv b.cl)]] w (Got w (lessP b a (openBits a b))) := by
  obtain ⟨tgt, htgt⟩ : ∃ t, t = lessP b a (openBits a b) := ⟨_, rfl⟩
  rw [← htgt]
  have HTG := Lib.hid htgt
  clear htgt
  have T0 := Tw.start w a b
  have E0 := T0.eqs
  go_enter Tryz.func109, Tryz.ntmps109
  go_wp2_with fail
  (with_reducible refine (sound_c _ _ _ _ _).mono ?_)
  rintro e w1 ⟨rfl, hb1⟩
  have T1 := T0.on hb1
  have E1 := T1.eqs
  clear hb1 E0
  go_wp2_with fail
  (with_reducible refine (sound_c _ _ _ _ _).mono ?_)
  rintro e w2 ⟨rfl, hb2⟩
  have T2 := T1.on hb2
  have E2 := T2.eqs
  clear hb2 E1
  go_wp2_with fail
  (with_reducible refine (agree_c _ _ _ _ _ _ _ _ _).mono ?_)
  rintro e w3 ⟨rfl, hb3⟩
  have T3 := T2.on hb3
  have E3 := T3.eqs
  clear hb3 E2
  go_wp2_with fail
  (with_reducible refine (less_c _ _ _ _ _).mono ?_)
  rintro e w4 ⟨rfl, hb4⟩
  have T4 := T3.on hb4
  have E4 := T4.eqs
  clear hb4 E3
  have HT := Lib.hid (T4.loop (b.ch &&& ~~~a.ch) (b.cl &&& ~~~a.cl))
  clear T0 T1 T2 T3 T4 h1 h2 h3 E4
  go_wp2_with fail
  go_loopg [5, 6] (openBits a b).length (fun n v p wr => ∃ (ks : List Nat) (ac : Cb) (L : List Cb) (g : Nat) (lh ll : BitVec 64), n = ks.length ∧ p = .pointer (some ⟨g, 0, none⟩) ∧ Hid (bitsDown (hbit lh ll) 128 = ks) ∧ Hid (L ++ lessP b ac ks = tgt) ∧ L.length + ks.length ≤ 128 ∧ Lw w wr ac b g lh ll v L)
  case atStart => exact ⟨openBits a b, a, [], w4.heap.size, _, _, rfl, rfl, Lib.hid rfl, Lib.hid HTG.out.symm, Nat.le_trans (Nat.le_of_eq (Nat.zero_add _)) (bitsDown_len _ 128), HT.out⟩
  case round =>
    clear HT
    obtain ⟨ks, ac, L, g, lh, ll, rfl, rfl, HK, HL, hlen, H⟩ := hrel
    have E := H.eqs
    cases ks with
    | nil =>
      have z := pair_zero HK.out
      go_wp2
      go_ret
      exact ⟨_, rfl, by have e := HL.out; simp only [lessP, List.append_nil] at e; rw [← e]; exact H.own.mono (by omega), H.bel⟩
    | cons k ks =>
      have z := pair_some HK.out
      go_wp2_with fail
      (with_reducible refine (highest_c lh ll k ks _ HK.out).mono ?_)
      rintro e w5 ⟨rfl, hb5⟩
      have H5 := H.on hb5
      have E5 := H5.eqs
      have L5 : g < w5.heap.size := H5.bg.lt
      have LB : w.heap.size + 1 < w5.heap.size := H5.bb.lt
      clear H E hb5 z
      go_wp2_with fail
      (with_reducible refine (less_c _ _ _ _ _).mono ?_)
      rintro e w6 ⟨rfl, hb6⟩
      have H6 := (H5.on (below1 w5 (.cells #[.int .u64 (uv (oneH k)), .int .u64 (uv (oneL k))] 25))).on hb6
      have X6 : Blk w6 w5.heap.size 25 (hArr (oneH k) (oneL k)) := (Blk.new w5 25 (hArr (oneH k) (oneL k))).on hb6
      have E6 := H6.eqs
      have x6 := X6.two
      clear H5 E5 hb6
      go_upto_region 10 with (fail)
      have n56 : w5.heap.size ≠ g := by omega
      have H7 := H6.setL (lh &&& ~~~oneH k) (ll &&& ~~~oneL k)
      have X7 : Blk ((w6.setCell ⟨g, 0, none⟩ (.int .u64 (uv (lh &&& ~~~oneH k)))).setCell ⟨g, 1, none⟩ (.int .u64 (uv (ll &&& ~~~oneL k)))) w5.heap.size 25 (hArr (oneH k) (oneL k)) := (X6.far n56 _).far n56 _
      generalize ((w6.setCell ⟨g, 0, none⟩ (.int .u64 (uv (lh &&& ~~~oneH k)))).setCell ⟨g, 1, none⟩ (.int .u64 (uv (ll &&& ~~~oneL k)))) = w7 at H7 X7 ⊢
      clear H6 E6 X6 x6
      have E7 := H7.eqs
      have x7 := X7.two
      go_wp2_with fail
      (with_reducible refine (and_c _ _ _ _ _).mono ?_)
      rintro e w8 ⟨rfl, hb8⟩
      have H8 := H7.on hb8
      have X8 := X7.on hb8
      have E8 := H8.eqs
      clear H7 X7 E7 x7 hb8
      go_upto_region 11 with (fail)
      have bl8 := below1 w8 (.cells #[.int .u64 (uv (b.vh &&& oneH k)), .int .u64 (uv (b.vl &&& oneL k))] 25)
      have H9 := H8.on bl8
      have X9 := X8.on bl8
      have Y9 : Blk (w8.alloc (.cells #[.int .u64 (uv (b.vh &&& oneH k)), .int .u64 (uv (b.vl &&& oneL k))] 25)) w8.heap.size 25 (hArr (b.vh &&& oneH k) (b.vl &&& oneL k)) := Blk.new w8 _ _
      generalize (w8.alloc (.cells #[.int .u64 (uv (b.vh &&& oneH k)), .int .u64 (uv (b.vl &&& oneL k))] 25)) = w9 at H9 X9 Y9 ⊢
      clear H8 X8 E8 bl8
      obtain ⟨i0, hi0, hz0, hz1, hz2⟩ := info_parts infoCube
      refine wp_region_held_drew (S := fun w' => Below w.heap.size w w' ∧ w'.cell? ⟨w.heap.size, 0, none⟩ = some (.int .u64 (uv ac.vh)) ∧ w'.cell? ⟨w.heap.size, 1, none⟩ = some (.int .u64 (uv ac.vl)) ∧ w'.cell? ⟨w.heap.size, 2, none⟩ = some (.int .u64 (uv ac.ch)) ∧ w'.cell? ⟨w.heap.size, 3, none⟩ = some (.int .u64 (uv ac.cl)) ∧ w'.cell? ⟨w5.heap.size, 0, none⟩ = some (.int .u64 (uv (oneH k))) ∧ w'.cell? ⟨w5.heap.size, 1, none⟩ = some (.int .u64 (uv (oneL k))) ∧ w'.cell? ⟨w8.heap.size, 0, none⟩ = some (.int .u64 (uv (b.vh &&& oneH k))) ∧ w'.cell? ⟨w8.heap.size, 1, none⟩ = some (.int .u64 (uv (b.vl &&& oneL k)))) (by kernel_rfl) ⟨H9.bel.drew, H9.ba.cell 0, H9.ba.cell 1, H9.ba.cell 2, H9.ba.cell 3, X9.cell 0, X9.cell 1, Y9.cell 0, Y9.cell 1⟩ (fun hHeld => ?_)
      have H10 := H9.on (bdrew w9)
      have X10 := X9.on (bdrew w9)
      have Y10 := Y9.on (bdrew w9)
      clear H9 X9 Y9
      refine wpAnyH_take (i := 0) (oi := ⟨some 40, _, _, _, _, _⟩) (v := ?vq0) rfl (by kernel_rfl) (by kernel_rfl) (by kernel_rfl) (fun _ _ _ h => h) (Or.inl ⟨by rfl, ?yq0⟩) hHeld ?rq0
      case yq0 => (intro w' hSw; (try dsimp only at hSw); go_simp; try (with_reducible rfl))
      simp only [Act.put, List.setIfInBounds_toArray, List.set_cons_zero, List.set_cons_succ]
      refine wpAnyH_take (i := 1) (oi := ⟨some 41, _, _, _, _, _⟩) (v := ?vq1) rfl (by kernel_rfl) (by kernel_rfl) (by kernel_rfl) (fun _ _ _ h => h) (Or.inl ⟨by rfl, ?yq1⟩) hHeld ?rq1
      case yq1 => (intro w' hSw; (try dsimp only at hSw); go_simp; try (with_reducible rfl))
      simp only [Act.put, List.setIfInBounds_toArray, List.set_cons_zero, List.set_cons_succ]
      refine wpAnyH_take (i := 2) (oi := ⟨some 42, _, _, _, _, _⟩) (v := ?vq2) rfl (by kernel_rfl) (by kernel_rfl) (by kernel_rfl) (fun _ _ _ h => h) (Or.inl ⟨by rfl, ?yq2⟩) hHeld ?rq2
      case yq2 => (intro w' hSw; (try dsimp only at hSw); go_simp; try (with_reducible rfl))
      simp only [Act.put, List.setIfInBounds_toArray, List.set_cons_zero, List.set_cons_succ]
      refine wpAnyH_take (i := 3) (oi := ⟨some 43, _, _, _, _, _⟩) (v := ?vq3) rfl (by kernel_rfl) (by kernel_rfl) (by kernel_rfl) (fun _ _ _ h => h) (Or.inl ⟨by rfl, ?yq3⟩) hHeld ?rq3
      case yq3 => (intro w' hSw; (try dsimp only at hSw); go_simp; try (with_reducible rfl))
      simp only [Act.put, List.setIfInBounds_toArray, List.set_cons_zero, List.set_cons_succ]
      refine wpAnyH_take (i := 4) (oi := ⟨some 44, _, _, _, _, _⟩) (v := ?vq4) rfl (by kernel_rfl) (by kernel_rfl) (by kernel_rfl) (fun _ _ _ h => h) (Or.inl ⟨by rfl, ?yq4⟩) hHeld ?rq4
      case yq4 => (intro w' hSw; (try dsimp only at hSw); go_simp; try (with_reducible rfl))
      simp only [Act.put, List.setIfInBounds_toArray, List.set_cons_zero, List.set_cons_succ]
      refine wpAnyH_ready (rs := [5]) (by kernel_rfl) (by simp) ?_
      refine AllReadyH.cons (o := ⟨some 45, _, _, _, _, _⟩) rfl (fun K hK => ?_) AllReadyH.nil
      go_simp
      (with_reducible refine (xor_c _ _ _ _ _).mono ?_)
      rintro e wq5 ⟨rfl, hb⟩
      have H11 := H10.on hb
      have X11 := X10.on hb
      have Y11 := Y10.on hb
      (try dsimp only)
      refine hK.out _ _ (hold8 hb hHeld) (fun hNext => ?_)
      clear hK K hHeld hb
      have hHeld := hNext
      clear hNext
      try simp only [Act.put, List.setIfInBounds_toArray, List.set_cons_zero, List.set_cons_succ]
      refine wpAnyH_ready (rs := [6]) (by kernel_rfl) (by simp) ?_
      refine AllReadyH.cons (o := ⟨some 46, _, _, _, _, _⟩) rfl (fun K hK => ?_) AllReadyH.nil
      go_simp
      (with_reducible refine (withBit_c _ _ _ _ _ _ _ _ _).mono ?_)
      rintro e wq6 ⟨rfl, hb⟩
      have H12 := H11.on hb
      have X12 := X11.on hb
      have Y12 := Y11.on hb
      (try dsimp only)
      refine hK.out _ _ (hold8 hb hHeld) (fun hNext => ?_)
      clear hK K hHeld hb
      have hHeld := hNext
      clear hNext
      try simp only [Act.put, List.setIfInBounds_toArray, List.set_cons_zero, List.set_cons_succ]
      refine wpAnyH_ready (rs := [7]) (by kernel_rfl) (by simp) ?_
      refine AllReadyH.cons (o := ⟨some 47, _, _, _, _, _⟩) rfl (fun K hK => ?_) AllReadyH.nil
      go_simp
      have hb := below1 wq6 (.cells (wOther ac b k).arr 53)
      have H13 := H12.on hb
      have X13 := X12.on hb
      have Y13 := Y12.on hb
      have N13 : Blk (wq6.alloc (.cells (wOther ac b k).arr 53)) wq6.heap.size 53 (wOther ac b k).arr := Blk.new wq6 _ _
      refine hK.out _ _ (hold8 hb hHeld) (fun hNext => ?_)
      clear hb
      clear hK K hHeld
      have hHeld := hNext
      clear hNext
      try simp only [Act.put, List.setIfInBounds_toArray, List.set_cons_zero, List.set_cons_succ]
      refine wpAnyH_ready (rs := [8]) (by kernel_rfl) (by simp) ?_
      refine AllReadyH.cons (o := ⟨some 48, _, _, _, _, _⟩) rfl (fun K hK => ?_) AllReadyH.nil
      refine step_append_lies _ rfl (.tmp 40) (.tmp 47) 22 rfl (w.heap.size + 2) 53 i0 _ 4 32 Tryz.underlying22 hi0 hz0 hz1 hz2 rfl (by decide) _ L.length (flat L) rfl H13.own ⟨wq6.heap.size, 0, none⟩ 1 1 (wOther ac b k).cells rfl rfl (World.news_of_block N13) (by intro u hu; simp only [Cb.cells, List.mem_cons, List.not_mem_nil, or_false] at hu; rcases hu with rfl | rfl | rfl | rfl <;> rfl) (by omega) (by simp at hlen; unfold maxLen; omega) (by simp at hlen; omega) (Nat.le_trans H13.bb.lt (Nat.le_refl _)) _ rfl ?_
      intro g2 cap w14 hown hgrow hat hlt
      have H14 := H13.append hgrow hown
      have X14 := X13.grown hgrow (own_apart H13.own X13 (by decide))
      have Y14 := Y13.grown hgrow (own_apart H13.own Y13 (by decide))
      refine hK.out _ _ ⟨H14.bel, H14.ba.cell 0, H14.ba.cell 1, H14.ba.cell 2, H14.ba.cell 3, X14.cell 0, X14.cell 1, Y14.cell 0, Y14.cell 1⟩ (fun hNext => ?_)
      clear hK K hHeld
      have hHeld := hNext
      clear hNext
      try simp only [Act.put, List.setIfInBounds_toArray, List.set_cons_zero, List.set_cons_succ]
      refine wpAnyH_take (i := 9) (oi := ⟨some 5, _, _, _, _, _⟩) (v := ?vq9) rfl (by kernel_rfl) (by kernel_rfl) (by kernel_rfl) (fun _ _ _ h => h) (Or.inl ⟨by rfl, ?yq9⟩) hHeld ?rq9
      case yq9 => (intro w' hSw; (try dsimp only at hSw); go_simp; try (with_reducible rfl))
      simp only [Act.put, List.setIfInBounds_toArray, List.set_cons_zero, List.set_cons_succ]
      refine wpAnyH_done (by kernel_rfl) ?_ _
      have E14 := H14.eqs
      have x14 := X14.two
      have y14 := Y14.two
      clear hHeld hi0 hz0 hz1 hz2 H10 X10 Y10 H11 X11 Y11 H12 X12 Y12 H13 X13 Y13 hown hgrow hat hlt
      go_wp2_with fail
      (with_reducible refine (withBit_c _ _ _ _ _ _ _ _ _).mono ?_)
      rintro e w15 ⟨rfl, hb15⟩
      have H15 := H14.on hb15
      have E15 := H15.eqs
      clear H14 X14 Y14 E14 x14 y14 hb15
      go_upto_region 13 with (fail)
      have H16 := H15.setA (wSame ac b k)
      unfold wSame at H16
      dsimp only at H16
      generalize ((((w15.setCell ⟨w.heap.size, 0, none⟩ (.int .u64 (uv (ac.vh ||| (b.vh &&& oneH k))))).setCell ⟨w.heap.size, 1, none⟩ (.int .u64 (uv (ac.vl ||| (b.vl &&& oneL k))))).setCell ⟨w.heap.size, 2, none⟩ (.int .u64 (uv (ac.ch ||| oneH k)))).setCell ⟨w.heap.size, 3, none⟩ (.int .u64 (uv (ac.cl ||| oneL k)))) = w16 at H16 ⊢
      have E16 := H16.eqs
      clear H15 E15
      go_wp2
      go_roundg ks.length
      case measure => simp
      case rel =>
        refine ⟨ks, wSame ac b k, L ++ [wOther ac b k], w16.heap.size, _, _, rfl, rfl, Lib.hid (next_bits HK.out), Lib.hid ?_, ?_, H16.newL _ _ H16.bb.lt⟩
        · have e := HL.out
          rw [lessP] at e
          simpa using e
        · simp at hlen ⊢; omega
end Go.Proofs

namespace Go.Proofs
open Go.RowKit Go.Proofs.Hd
attribute [local go_sem] uv_and uv_or uv_xor uv_andNot uv_shr uv_shl uv_add uv_sub uv_nonneg uv_shl_one uv_sub_one uv_and_one uv_div_2 uv_div_4 uv_div_16 uv_div_256 uv_div_65536 uv_div_big uv_and_m0 uv_and_m1 uv_and_m2
theorem ret_int {k : IntKind} {a b : Int} (h : a = b) : Ending.returned (.int k a) = .returned (.int k b) := by rw [h]
theorem bdrewN {B : Nat} {w w' : World} (n : Nat) (h : Below B w w') : Below B w (w'.drewN n) := ⟨h.os, h.tape, h.output, h.size, h.block⟩

theorem ones64_c (a : BitVec 64) (w : World) : Calls Tryz.prog 117 #[.int .u64 (uv a)] w fun e w' => e = .returned (.int .i64 (ones a)) ∧ w = w' := by
  go_enter Tryz.func117, Tryz.ntmps117
  go_wp2
  go_ret
  exact ⟨ret_int (swar_ones a), rfl⟩

theorem ones_c (h l : BitVec 64) (w : World) : Calls Tryz.prog 105 #[.agg #[.int .u64 (uv h), .int .u64 (uv l)]] w fun e w' => e = .returned (.int .i64 ((ones h + ones l : Nat) : Int)) ∧ Below w.heap.size w w' := by
  have h1 := ones_le h
  have h2 := ones_le l
  have e1 : ((ones h + ones l : Nat) : Int) = (ones h : Int) + (ones l : Int) := by omega
  rw [e1]
  have hw : IntKind.i64.wrap ((ones h : Int) + (ones l : Int)) = (ones h : Int) + (ones l : Int) := by rw [IntKind.wrap_i64]; omega
  go_enter Tryz.func105, Tryz.ntmps105
  go_wp2
  go_quiet ((go_at_call 117; exact Calls.quiet_of_same ((ones64_c _ _).mono fun e w' h => ⟨h.1, h.2.symm⟩)))
  go_wp2
  go_ret
  exact ⟨rfl, bdrewN _ ((Below.refl _ _).alloc (Nat.le_refl _) _)⟩

end Go.Proofs

namespace Go.Proofs
open Go.RowKit Go.Proofs.Hd
attribute [local go_sem] uv_and uv_or uv_xor uv_andNot uv_shr uv_shl uv_add uv_sub uv_nonneg uv_shl_one uv_sub_one uv_and_one

theorem first_c (x y : Int) (b : Nat) (w : World) (h0 : w.cell? ⟨b, 0, none⟩ = some (.int .i64 x)) (h1 : w.cell? ⟨b, 1, none⟩ = some (.int .i64 y)) :
    Calls Tryz.prog 103 #[.slice (some ⟨b, 0, none⟩) 2 2] w fun e w' => e = .returned (.int .i64 (if x = 0 then y else x)) ∧ w = w' := by
  by_cases hx : x = 0
  · have hx' : (x != 0) = false := by simp [hx]
    rw [if_pos hx]
    by_cases hy : y = 0
    · have hy' : (y != 0) = false := by simp [hy]
      rw [hy]
      clear hx hy
      go_enter Tryz.func103, Tryz.ntmps103
      go_wp2
      refine wp_loop_rounds 3 ?_
      rw [rounds_succ]
      go_wp2
      rw [rounds_succ]
      go_wp2
      rw [rounds_succ]
      go_wp2
      go_ret
      exact ⟨rfl, rfl⟩
    · have hy' : (y != 0) = true := by simp [hy]
      clear hx hy
      go_enter Tryz.func103, Tryz.ntmps103
      go_wp2
      refine wp_loop_rounds 2 ?_
      rw [rounds_succ]
      go_wp2
      rw [rounds_succ]
      go_wp2
      go_ret
      exact ⟨rfl, rfl⟩
  · have hx' : (x != 0) = true := by simp [hx]
    rw [if_neg hx]
    clear hx
    go_enter Tryz.func103, Tryz.ntmps103
    go_wp2
    refine wp_loop_rounds 1 ?_
    rw [rounds_succ]
    go_wp2
    go_ret
    exact ⟨rfl, rfl⟩

end Go.Proofs

namespace Go.Proofs
open Go.RowKit Go.Proofs.Hd
attribute [local go_sem] uv_and uv_or uv_xor uv_andNot uv_shr uv_shl uv_add uv_sub uv_nonneg uv_shl_one uv_sub_one uv_and_one

theorem keep2 {B b : Nat} {x y : Option Value} {W0 w1 w2 : World} (hb : Below w1.heap.size w1 w2) (h : Below B W0 w1 ∧ w1.cell? ⟨b, 0, none⟩ = x ∧ w1.cell? ⟨b, 1, none⟩ = y) (hB : B ≤ W0.heap.size) (hbB : b < B) :
    Below B W0 w2 ∧ w2.cell? ⟨b, 0, none⟩ = x ∧ w2.cell? ⟨b, 1, none⟩ = y := by
  have hs := h.1.size
  exact ⟨h.1.trans (hb.mono (by omega)), (hb.cell (p := ⟨b, 0, none⟩) (by simp; omega)).trans h.2.1, (hb.cell (p := ⟨b, 1, none⟩) (by simp; omega)).trans h.2.2⟩

theorem later {B : Nat} {W0 w1 w2 : World} (hb : Below w1.heap.size w1 w2) (h : Below B W0 w1) (hB : B ≤ W0.heap.size) : Below B W0 w2 :=
  h.trans (hb.mono (Nat.le_trans hB h.size))
theorem six {w w' : World} {h l : BitVec 64} (J : Below (w.heap.size + 2) ((w.alloc (.cells #[.int .u64 (uv h), .int .u64 (uv l)] 25)).alloc (.cells #[.int .u64 0, .int .u64 0] 25)) w') : w'.cell? ⟨w.heap.size, 0, none⟩ = some (.int .u64 (uv h)) ∧ w'.cell? ⟨w.heap.size, 1, none⟩ = some (.int .u64 (uv l)) ∧
    w'.cell? ⟨w.heap.size + 1, 0, none⟩ = some (.int .u64 0) ∧ w'.cell? ⟨w.heap.size + 1, 1, none⟩ = some (.int .u64 0) ∧ w'.frozen? ⟨w.heap.size + 1, 0, none⟩ = false ∧ w'.frozen? ⟨w.heap.size + 1, 1, none⟩ = false := by
  refine ⟨?_, ?_, ?_, ?_, ?_, ?_⟩
  · rw [J.cell (by simp <;> omega)]; simp
  · rw [J.cell (by simp <;> omega)]; simp
  · rw [J.cell (by simp)]; simp
  · rw [J.cell (by simp)]; simp
  · rw [J.frozen (by simp)]; simp
  · rw [J.frozen (by simp)]; simp

end Go.Proofs

namespace Go.Proofs
open Go.RowKit Go.Proofs.Hd
attribute [local go_sem] uv_nonneg

end Go.Proofs

namespace Go.Proofs
open Go.RowKit Go.Proofs.Hd
attribute [local go_sem] uv_nonneg eq4_self
attribute [local go_sem high] run_eq2 run_eq4

theorem k_less (w : World) : Calls Tryz.prog 109 #[.agg #[.int .u64 0, .int .u64 240, .int .u64 0, .int .u64 240], .agg #[.int .u64 0, .int .u64 1, .int .u64 0, .int .u64 3]] w fun e w' => ∃ g cap, e = .returned (.slice (some ⟨g, 0, none⟩) 2 cap) ∧ Below w.heap.size w w' := by
  have h := less_some ⟨0#64, 240#64, 0#64, 240#64⟩ ⟨0#64, 1#64, 0#64, 3#64⟩ w (by decide +kernel) (by decide +kernel) (by decide +kernel)
  refine Calls.mono h fun e w' hg => ?_
  obtain ⟨v, rfl, ho, hb⟩ := hg
  have e1 : (lessP ⟨0#64, 1#64, 0#64, 3#64⟩ ⟨0#64, 240#64, 0#64, 240#64⟩ (openBits ⟨0#64, 240#64, 0#64, 240#64⟩ ⟨0#64, 1#64, 0#64, 3#64⟩)).length = 2 := by
    rw [lessP_len]; decide +kernel
  rw [e1] at ho
  obtain ⟨g, cap, rfl, _, _⟩ := ho.form (by omega)
  exact ⟨g, cap, rfl, hb⟩
theorem k_meet (w : World) : Calls Tryz.prog 69 #[.agg #[.int .u64 0, .int .u64 240, .int .u64 0, .int .u64 240], .agg #[.int .u64 0, .int .u64 51, .int .u64 0, .int .u64 255]] w fun e w' => e = .returned (.tuple #[.agg #[.int .u64 0, .int .u64 0, .int .u64 0, .int .u64 0], .bool false]) ∧ Below w.heap.size w w' :=
  meet_no3 0#64 240#64 0#64 240#64 0#64 51#64 0#64 255#64 w (by decide +kernel) (by decide +kernel) (by decide +kernel)
theorem k_has (w : World) : Calls Tryz.prog 54 #[.agg #[.int .u64 0, .int .u64 240, .int .u64 0, .int .u64 240], .agg #[.int .u64 0, .int .u64 247]] w fun e w' => e = .returned (.bool true) ∧ Below w.heap.size w w' := by
  have h := has_c 0#64 240#64 0#64 240#64 0#64 247#64 w
  rw [show hasB 0#64 240#64 0#64 240#64 0#64 247#64 = true by decide +kernel] at h
  exact h
theorem k_sound (w : World) : Calls Tryz.prog 27 #[.agg #[.int .u64 0, .int .u64 240, .int .u64 0, .int .u64 240]] w fun e w' => e = .returned (.bool true) ∧ Below w.heap.size w w' := by
  have h := sound_c 0#64 240#64 0#64 240#64 w
  rw [show sndB 0#64 240#64 0#64 240#64 = true by decide +kernel] at h
  exact h
theorem k_within (w : World) : Calls Tryz.prog 71 #[.agg #[.int .u64 0, .int .u64 51, .int .u64 0, .int .u64 255], .agg #[.int .u64 0, .int .u64 0, .int .u64 0, .int .u64 0]] w fun e w' => e = .returned (.bool true) ∧ Below w.heap.size w w' := by
  have h := within_yes 0#64 51#64 0#64 255#64 0#64 0#64 0#64 0#64 w (by decide +kernel) (by decide +kernel) (by rw [eq2_uv]; decide +kernel)
  rw [show agrB 0#64 51#64 0#64 255#64 0#64 0#64 0#64 0#64 = true by decide +kernel] at h
  exact h

end Go.Proofs

namespace Go.Proofs
open Go.RowKit Go.Proofs.Hd
def sel (c : Bool) (x : BitVec 64) : BitVec 64 := if c = true then x else 0#64
theorem sel_t (x : BitVec 64) : sel true x = x := rfl
theorem sel_f (x : BitVec 64) : uv (sel false x) = 0 := rfl
/-- Is the intersection not empty? -/
def metB (avh avl ach acl bvh bvl bch bcl : BitVec 64) : Bool := sndB avh avl ach acl && (sndB bvh bvl bch bcl && agrB avh avl ach acl bvh bvl bch bcl)
/-- Does the first care for all bits that the second cares for? -/
def inCa (ach acl bch bcl : BitVec 64) : Bool := (ach &&& bch == bch) && (acl &&& bcl == bcl)
def witB (avh avl ach acl bvh bvl bch bcl : BitVec 64) : Bool := sndB avh avl ach acl && (sndB bvh bvl bch bcl && (inCa ach acl bch bcl && agrB avh avl ach acl bvh bvl bch bcl))
def befB (avh avl ach acl bvh bvl bch bcl : BitVec 64) : Bool := sndB avh avl ach acl && agrB avh avl ach acl bvh bvl bch bcl
theorem in_eq (ach acl bch bcl : BitVec 64) : eq2 (uv (ach &&& bch)) (uv (acl &&& bcl)) (uv bch) (uv bcl) = inCa ach acl bch bcl := eq2_uv _ _ _ _

theorem meet_c (avh avl ach acl bvh bvl bch bcl : BitVec 64) (w : World) : Calls Tryz.prog 69 #[.agg #[.int .u64 (uv avh), .int .u64 (uv avl), .int .u64 (uv ach), .int .u64 (uv acl)], .agg #[.int .u64 (uv bvh), .int .u64 (uv bvl), .int .u64 (uv bch), .int .u64 (uv bcl)]] w fun e w' => e = .returned (.tuple #[.agg #[.int .u64 (uv (sel (metB avh avl ach acl bvh bvl bch bcl) (avh ||| bvh))), .int .u64 (uv (sel (metB avh avl ach acl bvh bvl bch bcl) (avl ||| bvl))), .int .u64 (uv (sel (metB avh avl ach acl bvh bvl bch bcl) (ach ||| bch))), .int .u64 (uv (sel (metB avh avl ach acl bvh bvl bch bcl) (acl ||| bcl)))], .bool (metB avh avl ach acl bvh bvl bch bcl)]) ∧ Below w.heap.size w w' := by
  cases h1 : sndB avh avl ach acl
  · rw [show metB avh avl ach acl bvh bvl bch bcl = false by unfold metB; rw [h1]; rfl]; simp only [sel_f]; exact meet_no1 _ _ _ _ _ _ _ _ _ h1
  · cases h2 : sndB bvh bvl bch bcl
    · rw [show metB avh avl ach acl bvh bvl bch bcl = false by unfold metB; rw [h1, h2]; rfl]; simp only [sel_f]; exact meet_no2 _ _ _ _ _ _ _ _ _ h1 h2
    · cases h3 : agrB avh avl ach acl bvh bvl bch bcl
      · rw [show metB avh avl ach acl bvh bvl bch bcl = false by unfold metB; rw [h1, h2, h3]; rfl]; simp only [sel_f]; exact meet_no3 _ _ _ _ _ _ _ _ _ h1 h2 h3
      · rw [show metB avh avl ach acl bvh bvl bch bcl = true by unfold metB; rw [h1, h2, h3]; rfl]; simp only [sel_t]; exact meet_yes _ _ _ _ _ _ _ _ _ h1 h2 h3

theorem withinCa_c (avh avl ach acl bvh bvl bch bcl : BitVec 64) (w : World) : Calls Tryz.prog 71 #[.agg #[.int .u64 (uv avh), .int .u64 (uv avl), .int .u64 (uv ach), .int .u64 (uv acl)], .agg #[.int .u64 (uv bvh), .int .u64 (uv bvl), .int .u64 (uv bch), .int .u64 (uv bcl)]] w fun e w' => e = .returned (.bool (witB avh avl ach acl bvh bvl bch bcl)) ∧ Below w.heap.size w w' := by
  cases h1 : sndB avh avl ach acl
  · rw [show witB avh avl ach acl bvh bvl bch bcl = false by unfold witB; rw [h1]; rfl]; exact within_no1 _ _ _ _ _ _ _ _ _ h1
  · cases h2 : sndB bvh bvl bch bcl
    · rw [show witB avh avl ach acl bvh bvl bch bcl = false by unfold witB; rw [h1, h2]; rfl]; exact within_no2 _ _ _ _ _ _ _ _ _ h1 h2
    · cases h3 : inCa ach acl bch bcl
      · rw [show witB avh avl ach acl bvh bvl bch bcl = false by unfold witB; rw [h1, h2, h3]; rfl]; exact within_no3 _ _ _ _ _ _ _ _ _ h1 h2 (by rw [in_eq, h3])
      · rw [show witB avh avl ach acl bvh bvl bch bcl = agrB avh avl ach acl bvh bvl bch bcl by unfold witB; rw [h1, h2, h3]; rfl]; exact within_yes _ _ _ _ _ _ _ _ _ h1 h2 (by rw [in_eq, h3])

theorem pair_bits (a b c d : BitVec 64) : ((a == c) && (b == d)) = true ↔ ∀ j, j < 128 → hbit a b j = hbit c d j := by
  simp only [Bool.and_eq_true, beq_iff_eq]
  constructor
  · rintro ⟨rfl, rfl⟩ j _; rfl
  · exact fun h => head_ext h
theorem snd_bits (avh avl ach acl : BitVec 64) : sndB avh avl ach acl = true ↔ ∀ j, j < 128 → hbit avh avl j = true → hbit ach acl j = true := by
  unfold sndB
  rw [pair_bits]
  constructor
  · intro h j hj hv; have := h j hj; rw [hbit_and, hv] at this; simpa using this
  · intro h j hj; rw [hbit_and]; cases hv : hbit avh avl j with
    | false => rfl
    | true => rw [h j hj hv]; rfl
theorem has_bits (avh avl ach acl hh hl : BitVec 64) : hasB avh avl ach acl hh hl = true ↔ ∀ j, j < 128 → (hbit hh hl j && hbit ach acl j) = hbit avh avl j := by
  unfold hasB
  rw [pair_bits]
  exact ⟨fun h j hj => by rw [← hbit_and]; exact h j hj, fun h j hj => by rw [hbit_and]; exact h j hj⟩
theorem agr_bits (avh avl ach acl bvh bvl bch bcl : BitVec 64) : agrB avh avl ach acl bvh bvl bch bcl = true ↔ ∀ j, j < 128 → hbit ach acl j = true → hbit bch bcl j = true → hbit avh avl j = hbit bvh bvl j := by
  unfold agrB
  rw [pair_bits]
  constructor
  · intro h j hj h1 h2; have := h j hj; simp only [hbit_and, h1, h2, Bool.and_true] at this; exact this
  · intro h j hj; simp only [hbit_and]
    cases h1 : hbit ach acl j <;> cases h2 : hbit bch bcl j <;> simp
    exact h j hj h1 h2
theorem in_bits (ach acl bch bcl : BitVec 64) : inCa ach acl bch bcl = true ↔ ∀ j, j < 128 → hbit bch bcl j = true → hbit ach acl j = true := by
  unfold inCa
  rw [pair_bits]
  constructor
  · intro h j hj h1; have := h j hj; rw [hbit_and, h1] at this; simpa using this
  · intro h j hj; rw [hbit_and]; cases h1 : hbit bch bcl j with
    | false => simp
    | true => rw [h j hj h1]; rfl
theorem agr_comm (avh avl ach acl bvh bvl bch bcl : BitVec 64) : agrB bvh bvl bch bcl avh avl ach acl = agrB avh avl ach acl bvh bvl bch bcl := by
  rw [Bool.eq_iff_iff, agr_bits, agr_bits]
  exact ⟨fun h j hj h1 h2 => (h j hj h2 h1).symm, fun h j hj h1 h2 => (h j hj h2 h1).symm⟩
theorem met_comm (avh avl ach acl bvh bvl bch bcl : BitVec 64) : metB bvh bvl bch bcl avh avl ach acl = metB avh avl ach acl bvh bvl bch bcl := by
  unfold metB; rw [agr_comm]; cases sndB avh avl ach acl <;> cases sndB bvh bvl bch bcl <;> simp
theorem meet_r (avh avl ach acl bvh bvl bch bcl : BitVec 64) (w : World) : Calls Tryz.prog 69 #[.agg #[.int .u64 (uv bvh), .int .u64 (uv bvl), .int .u64 (uv bch), .int .u64 (uv bcl)], .agg #[.int .u64 (uv avh), .int .u64 (uv avl), .int .u64 (uv ach), .int .u64 (uv acl)]] w fun e w' => e = .returned (.tuple #[.agg #[.int .u64 (uv (sel (metB avh avl ach acl bvh bvl bch bcl) (avh ||| bvh))), .int .u64 (uv (sel (metB avh avl ach acl bvh bvl bch bcl) (avl ||| bvl))), .int .u64 (uv (sel (metB avh avl ach acl bvh bvl bch bcl) (ach ||| bch))), .int .u64 (uv (sel (metB avh avl ach acl bvh bvl bch bcl) (acl ||| bcl)))], .bool (metB avh avl ach acl bvh bvl bch bcl)]) ∧ Below w.heap.size w w' := by
  have h := meet_c bvh bvl bch bcl avh avl ach acl w
  rwa [met_comm, BitVec.or_comm bvh avh, BitVec.or_comm bvl avl, BitVec.or_comm bch ach, BitVec.or_comm bcl acl] at h
attribute [irreducible] sel metB witB befB inCa
end Go.Proofs

namespace Go.Proofs.Hd
open Go.RowKit
def Cb.V (c : Cb) (j : Nat) : Bool := hbit c.vh c.vl j
def Cb.K (c : Cb) (j : Nat) : Bool := hbit c.ch c.cl j
def Cb.snd (c : Cb) : Bool := sndB c.vh c.vl c.ch c.cl
def Cb.has (c : Cb) (h l : BitVec 64) : Bool := hasB c.vh c.vl c.ch c.cl h l
def Cb.agr (a b : Cb) : Bool := agrB a.vh a.vl a.ch a.cl b.vh b.vl b.ch b.cl
def Cb.wit (a b : Cb) : Bool := witB a.vh a.vl a.ch a.cl b.vh b.vl b.ch b.cl
theorem Cb.snd_iff (c : Cb) : c.snd = true ↔ ∀ j, j < 128 → c.V j = true → c.K j = true := snd_bits _ _ _ _
theorem Cb.has_iff (c : Cb) (h l : BitVec 64) : c.has h l = true ↔ ∀ j, j < 128 → (hbit h l j && c.K j) = c.V j := has_bits _ _ _ _ _ _
theorem Cb.agr_iff (a b : Cb) : a.agr b = true ↔ ∀ j, j < 128 → a.K j = true → b.K j = true → a.V j = b.V j := agr_bits _ _ _ _ _ _ _ _
theorem wit_and' (avh avl ach acl bvh bvl bch bcl : BitVec 64) : witB avh avl ach acl bvh bvl bch bcl = true ↔ sndB avh avl ach acl = true ∧ sndB bvh bvl bch bcl = true ∧ inCa ach acl bch bcl = true ∧ agrB avh avl ach acl bvh bvl bch bcl = true := by
  rw [show witB avh avl ach acl bvh bvl bch bcl = (sndB avh avl ach acl && (sndB bvh bvl bch bcl && (inCa ach acl bch bcl && agrB avh avl ach acl bvh bvl bch bcl))) by unfold witB; rfl]
  simp only [Bool.and_eq_true]
theorem Cb.wit_iff (a b : Cb) : a.wit b = true ↔ a.snd = true ∧ b.snd = true ∧ (∀ j, j < 128 → b.K j = true → a.K j = true) ∧ (∀ j, j < 128 → a.K j = true → b.K j = true → a.V j = b.V j) := by
  unfold Cb.wit
  rw [wit_and', in_bits, agr_bits]
  exact Iff.rfl
theorem wOther_V (a b : Cb) (k j : Nat) (hk : k < 128) (hj : j < 128) : (wOther a b k).V j = (a.V j || ((b.V j && decide (j = k)) ^^ decide (j = k))) := by
  unfold Cb.V wOther; simp only [hbit_or, hbit_xor, hbit_and, hbit_one k j hk hj]
theorem wOther_K (a b : Cb) (k j : Nat) (hk : k < 128) (hj : j < 128) : (wOther a b k).K j = (a.K j || decide (j = k)) := by
  unfold Cb.K wOther; simp only [hbit_or, hbit_one k j hk hj]
theorem wSame_V (a b : Cb) (k j : Nat) (hk : k < 128) (hj : j < 128) : (wSame a b k).V j = (a.V j || (b.V j && decide (j = k))) := by
  unfold Cb.V wSame; simp only [hbit_or, hbit_and, hbit_one k j hk hj]
theorem wSame_K (a b : Cb) (k j : Nat) (hk : k < 128) (hj : j < 128) : (wSame a b k).K j = (a.K j || decide (j = k)) := by
  unfold Cb.K wSame; simp only [hbit_or, hbit_one k j hk hj]
theorem wSame_snd {a b : Cb} {k : Nat} (hk : k < 128) (ha : a.snd = true) : (wSame a b k).snd = true := by
  rw [Cb.snd_iff] at *
  intro j hj h
  rw [wSame_V _ _ _ _ hk hj] at h
  rw [wSame_K _ _ _ _ hk hj]
  have := ha j hj
  cases x1 : a.V j <;> cases x2 : a.K j <;> by_cases x3 : j = k <;> simp_all
theorem wOther_snd {a b : Cb} {k : Nat} (hk : k < 128) (ha : a.snd = true) : (wOther a b k).snd = true := by
  rw [Cb.snd_iff] at *
  intro j hj h
  rw [wOther_V _ _ _ _ hk hj] at h
  rw [wOther_K _ _ _ _ hk hj]
  have := ha j hj
  cases x1 : a.V j <;> cases x2 : a.K j <;> by_cases x3 : j = k <;> simp_all
theorem open_V {a : Cb} {k : Nat} (hk : k < 128) (ha : a.snd = true) (hn : a.K k = false) : a.V k = false := by
  rw [Cb.snd_iff] at ha
  cases h : a.V k with
  | false => rfl
  | true => rw [ha k hk h] at hn; cases hn
theorem wSame_has {a b : Cb} {k : Nat} (h l : BitVec 64) (hk : k < 128) (ha : a.snd = true) (hn : a.K k = false) :
    (wSame a b k).has h l = (a.has h l && (hbit h l k == b.V k)) := by
  have hv := open_V hk ha hn
  rw [Bool.eq_iff_iff, Bool.and_eq_true, Cb.has_iff, Cb.has_iff, beq_iff_eq]
  constructor
  · intro H
    refine ⟨fun j hj => ?_, ?_⟩
    · have := H j hj
      rw [wSame_V _ _ _ _ hk hj, wSame_K _ _ _ _ hk hj] at this
      by_cases e : j = k
      · subst e; rw [hv, hn]; simp
      · simpa [e] using this
    · have := H k hk
      rw [wSame_V _ _ _ _ hk hk, wSame_K _ _ _ _ hk hk, hv, hn] at this
      simpa using this
  · rintro ⟨H, e⟩ j hj
    rw [wSame_V _ _ _ _ hk hj, wSame_K _ _ _ _ hk hj]
    by_cases c : j = k
    · subst c; rw [hv, hn, e]; simp
    · have := H j hj; simpa [c] using this
theorem wOther_has {a b : Cb} {k : Nat} (h l : BitVec 64) (hk : k < 128) (ha : a.snd = true) (hn : a.K k = false) :
    (wOther a b k).has h l = (a.has h l && !(hbit h l k == b.V k)) := by
  have hv := open_V hk ha hn
  rw [Bool.eq_iff_iff, Bool.and_eq_true, Cb.has_iff, Cb.has_iff]
  constructor
  · intro H
    refine ⟨fun j hj => ?_, ?_⟩
    · have := H j hj
      rw [wOther_V _ _ _ _ hk hj, wOther_K _ _ _ _ hk hj] at this
      by_cases e : j = k
      · subst e; rw [hv, hn]; simp
      · simpa [e] using this
    · have := H k hk
      rw [wOther_V _ _ _ _ hk hk, wOther_K _ _ _ _ hk hk, hv, hn] at this
      cases x : hbit h l k <;> cases y : b.V k <;> simp_all
  · rintro ⟨H, e⟩ j hj
    rw [wOther_V _ _ _ _ hk hj, wOther_K _ _ _ _ hk hj]
    by_cases c : j = k
    · subst c; rw [hv, hn]; cases x : hbit h l j <;> cases y : b.V j <;> simp_all
    · have := H j hj; simpa [c] using this
/-- Numbers below 128, each once, for which a does not care. -/
def Free (a : Cb) : List Nat → Prop
  | [] => True
  | k :: ks => k < 128 ∧ a.K k = false ∧ k ∉ ks ∧ Free a ks
theorem Free.same {a b : Cb} {k : Nat} {ks : List Nat} (hk : k < 128) (h : Free a ks) (hn : k ∉ ks) : Free (wSame a b k) ks := by
  induction ks with
  | nil => trivial
  | cons m ks ih =>
    obtain ⟨h1, h2, h3, h4⟩ := h
    have e : m ≠ k := fun e => hn (by simp [e])
    exact ⟨h1, by rw [wSame_K _ _ _ _ hk h1, h2]; simp [e], h3, ih h4 (fun h => hn (by simp [h]))⟩
theorem bitsDown_mem {f : Nat → Bool} {n k : Nat} : k ∈ bitsDown f n ↔ k < n ∧ f k = true := by
  induction n with
  | zero => simp [bitsDown]
  | succ n ih =>
    rw [bitsDown]
    by_cases c : f n = true
    · rw [if_pos c, List.mem_cons, ih]
      constructor
      · rintro (rfl | ⟨h1, h2⟩)
        · exact ⟨by omega, c⟩
        · exact ⟨by omega, h2⟩
      · rintro ⟨h1, h2⟩
        by_cases e : k = n
        · exact .inl e
        · exact .inr ⟨by omega, h2⟩
    · rw [if_neg c, ih]
      constructor
      · rintro ⟨h1, h2⟩; exact ⟨by omega, h2⟩
      · rintro ⟨h1, h2⟩
        have e : k ≠ n := fun e => c (by rw [← e]; exact h2)
        exact ⟨by omega, h2⟩
theorem free_down (a : Cb) (f : Nat → Bool) (n : Nat) (hn : n ≤ 128) (hf : ∀ j, j < n → f j = true → a.K j = false) : Free a (bitsDown f n) := by
  induction n with
  | zero => trivial
  | succ n ih =>
    rw [bitsDown]
    by_cases c : f n = true
    · rw [if_pos c]
      exact ⟨by omega, hf n (by omega) c, fun h => by have := (bitsDown_mem.1 h).1; omega, ih (by omega) (fun j hj => hf j (by omega))⟩
    · rw [if_neg c]; exact ih (by omega) (fun j hj => hf j (by omega))
theorem open_iff (a b : Cb) (k : Nat) : k ∈ openBits a b ↔ k < 128 ∧ b.K k = true ∧ a.K k = false := by
  unfold openBits
  rw [bitsDown_mem]
  constructor
  · rintro ⟨h1, h2⟩
    rw [hbit_andNot _ _ _ _ _ h1] at h2
    refine ⟨h1, ?_⟩
    unfold Cb.K
    cases x : hbit b.ch b.cl k <;> cases y : hbit a.ch a.cl k <;> simp_all
  · rintro ⟨h1, h2, h3⟩
    refine ⟨h1, ?_⟩
    rw [hbit_andNot _ _ _ _ _ h1]
    unfold Cb.K at h2 h3
    rw [h2, h3]; rfl
theorem open_free (a b : Cb) : Free a (openBits a b) := by
  unfold openBits
  refine free_down a _ 128 (Nat.le_refl _) fun j hj h => ?_
  exact ((open_iff a b j).1 (bitsDown_mem.2 ⟨hj, h⟩)).2.2
def cntC (h l : BitVec 64) (L : List Cb) : Nat := (L.filter (fun c => c.has h l)).length
theorem cntC_nil (h l : BitVec 64) : cntC h l [] = 0 := rfl
theorem cntC_cons (h l : BitVec 64) (c : Cb) (L : List Cb) : cntC h l (c :: L) = (c.has h l).toNat + cntC h l L := by
  unfold cntC
  rw [List.filter_cons]
  cases x : c.has h l <;> simp [Nat.add_comm]
theorem cntC_snoc (h l : BitVec 64) (c : Cb) (L : List Cb) : cntC h l (L ++ [c]) = cntC h l L + (c.has h l).toNat := by
  unfold cntC
  rw [List.filter_append]
  cases x : c.has h l <;> simp [x]
theorem lessP_count (h l : BitVec 64) (b : Cb) (ks : List Nat) (a : Cb) (ha : a.snd = true) (hf : Free a ks) :
    cntC h l (lessP b a ks) + (a.has h l && ks.all (fun k => hbit h l k == b.V k)).toNat = (a.has h l).toNat := by
  induction ks generalizing a with
  | nil => simp [lessP, cntC_nil]
  | cons k ks ih =>
    obtain ⟨h1, h2, h3, h4⟩ := hf
    rw [lessP, cntC_cons, wOther_has h l h1 ha h2]
    have := ih (wSame a b k) (wSame_snd h1 ha) (h4.same h1 h3)
    rw [wSame_has h l h1 ha h2] at this
    rw [List.all_cons]
    cases x : a.has h l <;> cases y : (hbit h l k == b.V k) <;> simp_all
theorem wit_trans {a b c : Cb} (h1 : a.wit b = true) (h2 : b.wit c = true) : a.wit c = true := by
  rw [Cb.wit_iff] at *
  obtain ⟨p1, p2, p3, p4⟩ := h1
  obtain ⟨q1, q2, q3, q4⟩ := h2
  exact ⟨p1, q2, fun j hj h => p3 j hj (q3 j hj h), fun j hj x y => (p4 j hj x (q3 j hj y)).trans (q4 j hj (q3 j hj y) y)⟩
theorem wSame_wit {a b : Cb} {k : Nat} (hk : k < 128) (ha : a.snd = true) (hn : a.K k = false) : (wSame a b k).wit a = true := by
  rw [Cb.wit_iff]
  refine ⟨wSame_snd hk ha, ha, fun j hj h => by rw [wSame_K _ _ _ _ hk hj, h]; rfl, fun j hj _ h => ?_⟩
  have e : j ≠ k := fun e => by rw [e, hn] at h; cases h
  rw [wSame_V _ _ _ _ hk hj]; simp [e]
theorem wOther_wit {a b : Cb} {k : Nat} (hk : k < 128) (ha : a.snd = true) (hn : a.K k = false) : (wOther a b k).wit a = true := by
  rw [Cb.wit_iff]
  refine ⟨wOther_snd hk ha, ha, fun j hj h => by rw [wOther_K _ _ _ _ hk hj, h]; rfl, fun j hj _ h => ?_⟩
  have e : j ≠ k := fun e => by rw [e, hn] at h; cases h
  rw [wOther_V _ _ _ _ hk hj]; simp [e]
theorem wit_self {a : Cb} (ha : a.snd = true) : a.wit a = true := by
  rw [Cb.wit_iff]; exact ⟨ha, ha, fun _ _ h => h, fun _ _ _ _ => rfl⟩
theorem lessP_wit (b : Cb) (ks : List Nat) (a : Cb) (ha : a.snd = true) (hf : Free a ks) : ∀ c ∈ lessP b a ks, c.wit a = true := by
  induction ks generalizing a with
  | nil => intro c hc; cases hc
  | cons k ks ih =>
    obtain ⟨h1, h2, h3, h4⟩ := hf
    intro c hc
    rw [lessP, List.mem_cons] at hc
    rcases hc with rfl | hc
    · exact wOther_wit h1 ha h2
    · exact wit_trans (ih _ (wSame_snd h1 ha) (h4.same h1 h3) c hc) (wSame_wit h1 ha h2)
/-- The difference of two sound cubes. -/
def lessC (a b : Cb) : List Cb := if a.agr b = true then lessP b a (openBits a b) else [a]
theorem lessC_wit {a b : Cb} (ha : a.snd = true) : ∀ c ∈ lessC a b, c.wit a = true := by
  unfold lessC
  by_cases h : a.agr b = true
  · rw [if_pos h]; exact lessP_wit b _ a ha (open_free a b)
  · rw [if_neg h]; intro c hc; rw [List.mem_singleton] at hc; subst hc; exact wit_self ha
theorem lessC_len {a b : Cb} (ha : a.snd = true) (hb : b.snd = true) : (lessC a b).length = 0 ↔ a.wit b = true := by
  unfold lessC
  rw [Cb.wit_iff]
  by_cases h : a.agr b = true
  · rw [if_pos h, lessP_len, List.length_eq_zero_iff]
    constructor
    · intro e
      refine ⟨ha, hb, fun j hj hk => ?_, (Cb.agr_iff a b).1 h⟩
      cases x : a.K j with
      | true => rfl
      | false => have := (open_iff a b j).2 ⟨hj, hk, x⟩; rw [e] at this; cases this
    · rintro ⟨_, _, h3, _⟩
      cases e : openBits a b with
      | nil => rfl
      | cons k ks =>
        obtain ⟨h1, h2, h4⟩ := (open_iff a b k).1 (by rw [e]; simp)
        rw [h3 k h1 h2] at h4; cases h4
  · rw [if_neg h]
    constructor
    · intro e; simp at e
    · rintro ⟨_, _, _, h4⟩; exact absurd ((Cb.agr_iff a b).2 h4) h
theorem lessC_le (a b : Cb) : (lessC a b).length ≤ 128 := by
  unfold lessC
  by_cases h : a.agr b = true
  · rw [if_pos h, lessP_len]; exact bitsDown_len _ 128
  · rw [if_neg h]; simp
def Cb.met (a b : Cb) : Bool := metB a.vh a.vl a.ch a.cl b.vh b.vl b.ch b.cl
theorem met_eq (a b : Cb) (ha : a.snd = true) (hb : b.snd = true) : a.met b = a.agr b := by
  unfold Cb.met metB
  show (a.snd && (b.snd && a.agr b)) = _
  rw [ha, hb]; rfl
def Cb.join (a b : Cb) : Cb := ⟨a.vh ||| b.vh, a.vl ||| b.vl, a.ch ||| b.ch, a.cl ||| b.cl⟩
theorem join_has {a b : Cb} (h l : BitVec 64) (ha : a.snd = true) (hb : b.snd = true) (hg : a.agr b = true) :
    (a.join b).has h l = (a.has h l && (openBits a b).all (fun k => hbit h l k == b.V k)) := by
  rw [Cb.agr_iff] at hg
  rw [Cb.snd_iff] at ha hb
  rw [Bool.eq_iff_iff, Bool.and_eq_true, List.all_eq_true, Cb.has_iff, Cb.has_iff]
  have jv : ∀ j, (a.join b).V j = (a.V j || b.V j) := fun j => by unfold Cb.V Cb.join; rw [hbit_or]
  have jk : ∀ j, (a.join b).K j = (a.K j || b.K j) := fun j => by unfold Cb.K Cb.join; rw [hbit_or]
  constructor
  · intro H
    refine ⟨fun j hj => ?_, fun k hk => ?_⟩
    · have h1 := H j hj
      rw [jv, jk] at h1
      have h2 := hg j hj
      have h3 := ha j hj
      have h4 := hb j hj
      revert h1 h2 h3 h4
      generalize a.K j = k1
      generalize b.K j = k2
      generalize a.V j = v1
      generalize b.V j = v2
      generalize hbit h l j = t
      cases k1 <;> cases k2 <;> cases v1 <;> cases v2 <;> cases t <;> simp
    · obtain ⟨k1, k2, k3⟩ := (open_iff a b k).1 hk
      have h1 := H k k1
      rw [jv, jk, k2, k3] at h1
      have h3 := ha k k1
      rw [k3] at h3
      cases x3 : a.V k <;> simp_all
  · rintro ⟨H, G⟩ j hj
    rw [jv, jk]
    have h1 := H j hj
    have h2 := hg j hj
    have h3 := ha j hj
    have h4 := hb j hj
    by_cases hk : j ∈ openBits a b
    · have g := G j hk
      obtain ⟨k1, k2, k3⟩ := (open_iff a b j).1 hk
      cases x3 : a.V j <;> cases x4 : b.V j <;> cases x5 : hbit h l j <;> simp_all
    · have nk : ¬ (b.K j = true ∧ a.K j = false) := fun e => hk ((open_iff a b j).2 ⟨hj, e⟩)
      revert h1 h2 h3 h4 nk
      generalize a.K j = k1
      generalize b.K j = k2
      generalize a.V j = v1
      generalize b.V j = v2
      generalize hbit h l j = t
      cases k1 <;> cases k2 <;> cases v1 <;> cases v2 <;> cases t <;> simp
theorem parts_count {a b : Cb} (h l : BitVec 64) (ha : a.snd = true) (hb : b.snd = true) :
    (a.met b && (a.join b).has h l).toNat + cntC h l (lessC a b) = (a.has h l).toNat := by
  rw [met_eq a b ha hb]
  unfold lessC
  by_cases hg : a.agr b = true
  · rw [if_pos hg, hg, Bool.true_and, join_has h l ha hb hg, Nat.add_comm]
    exact lessP_count h l b _ a ha (open_free a b)
  · rw [if_neg hg, show a.agr b = false by simpa using hg, cntC_cons, cntC_nil]; simp
end Go.Proofs.Hd

namespace Go.Proofs
open Go.RowKit Go.Proofs.Hd
attribute [local go_sem] uv_nonneg eq4_self eq2_self
attribute [local go_sem high] run_eq2 run_eq4
theorem csound (x : Bool) (c : Cb) (w : World) (h : c.snd = x) : Calls Tryz.prog 27 #[.agg #[.int .u64 (uv c.vh), .int .u64 (uv c.vl), .int .u64 (uv c.ch), .int .u64 (uv c.cl)]] w fun e w' => e = .returned (.bool x) ∧ Below w.heap.size w w' := by
  subst h; exact sound_c _ _ _ _ _
theorem chas (x : Bool) (c : Cb) (hh hl : BitVec 64) (w : World) (h : c.has hh hl = x) : Calls Tryz.prog 54 #[.agg #[.int .u64 (uv c.vh), .int .u64 (uv c.vl), .int .u64 (uv c.ch), .int .u64 (uv c.cl)], .agg #[.int .u64 (uv hh), .int .u64 (uv hl)]] w fun e w' => e = .returned (.bool x) ∧ Below w.heap.size w w' := by
  subst h; exact has_c _ _ _ _ _ _ _
theorem cwithin (x : Bool) (c a : Cb) (w : World) (h : c.wit a = x) : Calls Tryz.prog 71 #[.agg #[.int .u64 (uv c.vh), .int .u64 (uv c.vl), .int .u64 (uv c.ch), .int .u64 (uv c.cl)], .agg #[.int .u64 (uv a.vh), .int .u64 (uv a.vl), .int .u64 (uv a.ch), .int .u64 (uv a.cl)]] w fun e w' => e = .returned (.bool x) ∧ Below w.heap.size w w' := by
  subst h; exact withinCa_c _ _ _ _ _ _ _ _ _
theorem cmeet (a b : Cb) (w : World) : Calls Tryz.prog 69 #[.agg #[.int .u64 (uv a.vh), .int .u64 (uv a.vl), .int .u64 (uv a.ch), .int .u64 (uv a.cl)], .agg #[.int .u64 (uv b.vh), .int .u64 (uv b.vl), .int .u64 (uv b.ch), .int .u64 (uv b.cl)]] w fun e w' => e = .returned (.tuple #[.agg #[.int .u64 (uv (sel (a.met b) (a.vh ||| b.vh))), .int .u64 (uv (sel (a.met b) (a.vl ||| b.vl))), .int .u64 (uv (sel (a.met b) (a.ch ||| b.ch))), .int .u64 (uv (sel (a.met b) (a.cl ||| b.cl)))], .bool (a.met b)]) ∧ Below w.heap.size w w' :=
  meet_c _ _ _ _ _ _ _ _ _
theorem cless (a b : Cb) (w : World) (ha : a.snd = true) (hb : b.snd = true) : Calls Tryz.prog 109 #[.agg #[.int .u64 (uv a.vh), .int .u64 (uv a.vl), .int .u64 (uv a.ch), .int .u64 (uv a.cl)], .agg #[.int .u64 (uv b.vh), .int .u64 (uv b.vl), .int .u64 (uv b.ch), .int .u64 (uv b.cl)]] w (Got w (lessC a b)) := by
  unfold lessC
  cases h : a.agr b with
  | true => rw [if_pos rfl]; exact less_some a b w ha hb h
  | false => rw [if_neg (by simp)]; exact less_all a b w ha hb h
theorem cless_q (a b : Cb) (Q : List Cb) (w : World) (ha : a.snd = true) (hb : b.snd = true) (hq : lessC a b = Q) : Calls Tryz.prog 109 #[.agg #[.int .u64 (uv a.vh), .int .u64 (uv a.vl), .int .u64 (uv a.ch), .int .u64 (uv a.cl)], .agg #[.int .u64 (uv b.vh), .int .u64 (uv b.vl), .int .u64 (uv b.ch), .int .u64 (uv b.cl)]] w (Got w Q) := by
  subst hq; exact cless a b w ha hb
theorem cmeet_t (a b : Cb) (w : World) (h : a.met b = true) : Calls Tryz.prog 69 #[.agg #[.int .u64 (uv a.vh), .int .u64 (uv a.vl), .int .u64 (uv a.ch), .int .u64 (uv a.cl)], .agg #[.int .u64 (uv b.vh), .int .u64 (uv b.vl), .int .u64 (uv b.ch), .int .u64 (uv b.cl)]] w fun e w' => e = .returned (.tuple #[.agg #[.int .u64 (uv (a.vh ||| b.vh)), .int .u64 (uv (a.vl ||| b.vl)), .int .u64 (uv (a.ch ||| b.ch)), .int .u64 (uv (a.cl ||| b.cl))], .bool true]) ∧ Below w.heap.size w w' := by
  have c := cmeet a b w
  rw [h] at c
  simp only [sel_t] at c
  exact c
theorem cmeet_f (a b : Cb) (w : World) (h : a.met b = false) : Calls Tryz.prog 69 #[.agg #[.int .u64 (uv a.vh), .int .u64 (uv a.vl), .int .u64 (uv a.ch), .int .u64 (uv a.cl)], .agg #[.int .u64 (uv b.vh), .int .u64 (uv b.vl), .int .u64 (uv b.ch), .int .u64 (uv b.cl)]] w fun e w' => e = .returned (.tuple #[.agg #[.int .u64 0, .int .u64 0, .int .u64 0, .int .u64 0], .bool false]) ∧ Below w.heap.size w w' := by
  have c := cmeet a b w
  rw [h] at c
  simp only [sel_f] at c
  exact c
theorem chas_j (x : Bool) (a b : Cb) (hh hl : BitVec 64) (w : World) (h : (a.join b).has hh hl = x) : Calls Tryz.prog 54 #[.agg #[.int .u64 (uv (a.vh ||| b.vh)), .int .u64 (uv (a.vl ||| b.vl)), .int .u64 (uv (a.ch ||| b.ch)), .int .u64 (uv (a.cl ||| b.cl))], .agg #[.int .u64 (uv hh), .int .u64 (uv hl)]] w fun e w' => e = .returned (.bool x) ∧ Below w.heap.size w w' :=
  chas x (a.join b) hh hl w h
theorem flat_get (L : List Cb) (k : Nat) (hk : k < L.length) (j : Nat) (hj : j < 4) : (flat L)[k * 4 + j]? = (L[k]).cells[j]? := by
  induction L generalizing k with
  | nil => simp at hk
  | cons c L ih =>
    have e : flat (c :: L) = c.cells ++ flat L := by simp [flat]
    rw [e]
    cases k with
    | zero => rw [Nat.zero_mul, Nat.zero_add, List.getElem?_append_left (by simp [Cb.cells]; omega)]; rfl
    | succ k =>
      rw [List.getElem?_append_right (by simp [Cb.cells]; omega), show (k + 1) * 4 + j - c.cells.length = k * 4 + j by simp [Cb.cells]; omega]
      exact ih k (by simpa using hk)
theorem own_get {w : World} {base g cap : Nat} {t : TypeId} {L : List Cb} (h : w.ownsRow base t 4 (.slice (some ⟨g, 0, none⟩) L.length cap) L.length (flat L)) (k : Nat) (hk : k < L.length) (j : Nat) (hj : j < 4) : w.cell? ⟨g, k * 4 + j, none⟩ = (L[k]).cells[j]? :=
  (h.cellAt (k * 4 + j) (by omega)).trans (flat_get L k hk j hj)
theorem own_at {w : World} {base g cap : Nat} {t : TypeId} {L : List Cb} {c : Cb} (h : w.ownsRow base t 4 (.slice (some ⟨g, 0, none⟩) L.length cap) L.length (flat L)) (k : Nat) (hc : L[k]? = some c) (j : Nat) (hj : j < 4) : w.cell? ⟨g, k * 4 + j, none⟩ = c.cells[j]? := by
  obtain ⟨hk, rfl⟩ := List.getElem?_eq_some_iff.1 hc
  exact own_get h k hk j hj
theorem take_count (h l : BitVec 64) (L : List Cb) (k : Nat) (c : Cb) (hc : L[k]? = some c) : cntC h l (L.take (k + 1)) = cntC h l (L.take k) + (c.has h l).toNat := by
  obtain ⟨hk, rfl⟩ := List.getElem?_eq_some_iff.1 hc
  rw [List.take_succ_eq_append_getElem hk, cntC_snoc]
theorem cntC_le (h l : BitVec 64) (L : List Cb) : cntC h l L ≤ L.length := List.length_filter_le _ _
theorem own_form {w : World} {base : Nat} {t : TypeId} {size n : Nat} {v : Value} {xs : List Value} (h : w.ownsRow base t size v n xs) : ∃ A cap, v = .slice A n cap ∧ (0 < n → ∃ g, A = some ⟨g, 0, none⟩) := by
  rcases h.2 with ⟨rfl, rfl⟩ | ⟨g, cap, cur, rfl, _⟩
  · exact ⟨none, 0, rfl, fun h => by omega⟩
  · exact ⟨_, cap, rfl, fun _ => ⟨g, rfl⟩⟩
end Go.Proofs

namespace Go.Proofs.Hd
open Go.RowKit
def Cb.same (a b : Cb) : Bool := (a.vh == b.vh && a.vl == b.vl) && (a.ch == b.ch && a.cl == b.cl)
theorem Cb.same_iff (a b : Cb) : a.same b = true ↔ a = b := by
  cases a; cases b
  simp [Cb.same, and_assoc]
/-- How many bits a cube cares for. -/
def Cb.size (c : Cb) : Nat := cnt c.K 128
theorem cnt_le_of {p q : Nat → Bool} (n : Nat) (h : ∀ j, j < n → p j = true → q j = true) : cnt p n ≤ cnt q n := by
  induction n with
  | zero => exact Nat.le_refl _
  | succ n ih =>
    rw [cnt, cnt]
    have h1 := ih (fun j hj => h j (by omega))
    have h2 := h n (by omega)
    cases hp : p n with
    | false => simp; omega
    | true => rw [h2 hp]; omega
theorem cnt_eq_of {p q : Nat → Bool} (n : Nat) (h : ∀ j, j < n → p j = true → q j = true) (he : cnt p n = cnt q n) : ∀ j, j < n → p j = q j := by
  induction n with
  | zero => intro j hj; omega
  | succ n ih =>
    rw [cnt, cnt] at he
    have h1 := cnt_le_of n (fun j hj => h j (by omega))
    have h2 := h n (by omega)
    have h3 : p n = q n := by
      cases hp : p n with
      | true => rw [h2 hp]
      | false => cases hq : q n with
        | false => rfl
        | true => rw [hp, hq] at he; simp at he; omega
    intro j hj
    by_cases e : j = n
    · subst e; exact h3
    · exact ih (fun j hj => h j (by omega)) (by rw [h3] at he; omega) j (by omega)
theorem wit_size {a b : Cb} (h : a.wit b = true) : b.size ≤ a.size := cnt_le_of 128 ((Cb.wit_iff a b).1 h).2.2.1
theorem cb_ext {a b : Cb} (hv : ∀ j, j < 128 → a.V j = b.V j) (hk : ∀ j, j < 128 → a.K j = b.K j) : a = b := by
  obtain ⟨e1, e2⟩ := head_ext hv
  obtain ⟨e3, e4⟩ := head_ext hk
  cases a; cases b; simp_all
theorem wit_same_size {a b : Cb} (h : a.wit b = true) (he : b.size = a.size) : a = b := by
  obtain ⟨h1, h2, h3, h4⟩ := (Cb.wit_iff a b).1 h
  have hk := cnt_eq_of 128 h3 he
  refine cb_ext (fun j hj => ?_) (fun j hj => (hk j hj).symm)
  cases hb : b.K j with
  | true => exact h4 j hj (h3 j hj hb) hb
  | false =>
    have ha : a.K j = false := by rw [← hk j hj, hb]
    rw [open_V hj h1 ha, open_V hj h2 hb]
theorem wit_has {a b : Cb} (x y : BitVec 64) (h : a.wit b = true) (hh : a.has x y = true) : b.has x y = true := by
  obtain ⟨h1, h2, h3, h4⟩ := (Cb.wit_iff a b).1 h
  rw [Cb.has_iff] at *
  intro j hj
  have g := hh j hj
  cases hb : b.K j with
  | true =>
    have ha := h3 j hj hb
    rw [ha, Bool.and_true] at g
    rw [Bool.and_true, g, h4 j hj ha hb]
  | false => rw [open_V hj h2 hb, Bool.and_false]
/-- Cube a, number i, is not wanted beside cube b, number k. -/
def spareBy (a : Cb) (i : Nat) (b : Cb) (k : Nat) : Bool := (k != i) && (a.wit b && (!a.same b || decide (k < i)))
/-- Number i of L is not wanted. -/
def spare (L : List Cb) (i : Nat) : Bool := (List.range L.length).any fun k => match L[i]?, L[k]? with
  | some a, some b => spareBy a i b k
  | _, _ => false
def leanL (L : List Cb) : List Cb := (List.range L.length).filterMap fun i => if spare L i = true then none else L[i]?
theorem leanL_mem {L : List Cb} {c : Cb} : c ∈ leanL L ↔ ∃ i, L[i]? = some c ∧ spare L i = false := by
  unfold leanL
  rw [List.mem_filterMap]
  constructor
  · rintro ⟨i, _, h⟩
    by_cases hs : spare L i = true
    · rw [if_pos hs] at h; cases h
    · rw [if_neg hs] at h; exact ⟨i, h, by simpa using hs⟩
  · rintro ⟨i, h, hs⟩
    exact ⟨i, List.mem_range.2 (List.getElem?_eq_some_iff.1 h).1, by rw [hs]; simpa using h⟩
theorem spare_iff {L : List Cb} {i : Nat} {a : Cb} (ha : L[i]? = some a) : spare L i = true ↔ ∃ k b, L[k]? = some b ∧ k ≠ i ∧ a.wit b = true ∧ (a ≠ b ∨ k < i) := by
  unfold spare
  rw [List.any_eq_true]
  constructor
  · rintro ⟨k, hk, h⟩
    rw [ha] at h
    cases hb : L[k]? with
    | none => rw [hb] at h; cases h
    | some b =>
      rw [hb] at h
      simp only [spareBy, Bool.and_eq_true, Bool.or_eq_true, bne_iff_ne, ne_eq, Bool.not_eq_true', decide_eq_true_eq] at h
      refine ⟨k, b, hb, h.1, h.2.1, h.2.2.imp (fun e c => ?_) id⟩
      rw [(Cb.same_iff a b).2 c] at e; cases e
  · rintro ⟨k, b, hb, h1, h2, h3⟩
    refine ⟨k, List.mem_range.2 (List.getElem?_eq_some_iff.1 hb).1, ?_⟩
    rw [ha, hb]
    simp only [spareBy, Bool.and_eq_true, Bool.or_eq_true, bne_iff_ne, ne_eq, Bool.not_eq_true', decide_eq_true_eq]
    refine ⟨h1, h2, h3.imp (fun c => ?_) id⟩
    cases e : a.same b with
    | false => rfl
    | true => exact absurd ((Cb.same_iff a b).1 e) c
/-- Each sound cube of a list lies within one that is kept. -/
theorem kept_over {L : List Cb} (s : Nat) : ∀ (i : Nat) (a : Cb), a.size ≤ s → L[i]? = some a → a.snd = true → ∃ b ∈ leanL L, a.wit b = true := by
  induction s with
  | zero =>
    intro i
    induction i using Nat.strongRecOn with
    | ind i ih =>
      intro a hs ha hsnd
      cases hsp : spare L i with
      | false => exact ⟨a, leanL_mem.2 ⟨i, ha, hsp⟩, wit_self hsnd⟩
      | true =>
        obtain ⟨k, b, hb, _, hw, hor⟩ := (spare_iff ha).1 hsp
        have hz := wit_size hw
        have e := wit_same_size hw (by omega)
        subst e
        exact ih k (hor.resolve_left (fun h => h rfl)) a hs hb hsnd
  | succ s ihs =>
    intro i
    induction i using Nat.strongRecOn with
    | ind i ih =>
      intro a hs ha hsnd
      cases hsp : spare L i with
      | false => exact ⟨a, leanL_mem.2 ⟨i, ha, hsp⟩, wit_self hsnd⟩
      | true =>
        obtain ⟨k, b, hb, _, hw, hor⟩ := (spare_iff ha).1 hsp
        have hz := wit_size hw
        by_cases e : a = b
        · subst e
          exact ih k (hor.resolve_left (fun h => h rfl)) a hs hb hsnd
        · have hlt : b.size < a.size := Nat.lt_of_le_of_ne hz (fun c => e (wit_same_size hw c))
          obtain ⟨c, hc, hwc⟩ := ihs k b (by omega) hb ((Cb.wit_iff a b).1 hw).2.1
          exact ⟨c, hc, wit_trans hw hwc⟩
def anyHas (L : List Cb) (x y : BitVec 64) : Bool := L.any fun c => c.has x y
/-- A list of sound cubes has the headers that it has without its spare cubes. -/
theorem lean_has {L : List Cb} (hs : ∀ c ∈ L, c.snd = true) (x y : BitVec 64) : anyHas (leanL L) x y = anyHas L x y := by
  rw [Bool.eq_iff_iff]
  unfold anyHas
  rw [List.any_eq_true, List.any_eq_true]
  constructor
  · rintro ⟨c, hc, h⟩
    obtain ⟨i, hi, _⟩ := leanL_mem.1 hc
    exact ⟨c, List.mem_of_getElem? hi, h⟩
  · rintro ⟨c, hc, h⟩
    obtain ⟨i, hi⟩ := List.mem_iff_getElem?.1 hc
    obtain ⟨b, hb, hw⟩ := kept_over c.size i c (Nat.le_refl _) hi (hs c hc)
    exact ⟨b, hb, wit_has x y hw h⟩
theorem lean_sub {L : List Cb} {c : Cb} (h : c ∈ leanL L) : c ∈ L := by
  obtain ⟨i, hi, _⟩ := leanL_mem.1 h
  exact List.mem_of_getElem? hi
end Go.Proofs.Hd

namespace Go.Proofs.Hd
open Go.RowKit
/-- The four words of a cube lie in block b from place o on. -/
def At4 (w : World) (b o : Nat) (c : Cb) : Prop := w.cell? ⟨b, o, none⟩ = some (.int .u64 (uv c.vh)) ∧ w.cell? ⟨b, o + 1, none⟩ = some (.int .u64 (uv c.vl)) ∧ w.cell? ⟨b, o + 2, none⟩ = some (.int .u64 (uv c.ch)) ∧ w.cell? ⟨b, o + 3, none⟩ = some (.int .u64 (uv c.cl))
theorem At4.on {w w' : World} {b o : Nat} {c : Cb} (h : At4 w b o c) (hb : Below w.heap.size w w') : At4 w' b o c := ⟨on_some hb h.1, on_some hb h.2.1, on_some hb h.2.2.1, on_some hb h.2.2.2⟩
/-- v is a slice that reads as the cubes L. -/
def Pl (w : World) (v : Value) (L : List Cb) : Prop := (L = [] ∧ ∃ A cap, v = .slice A 0 cap) ∨ ∃ b off cap, v = .slice (some ⟨b, off, none⟩) L.length cap ∧ L.length ≤ maxLen ∧ b < w.heap.size ∧ ∀ k c, L[k]? = some c → At4 w b (off + k * 4) c
theorem Pl.on {w w' : World} {v : Value} {L : List Cb} (h : Pl w v L) (hb : Below w.heap.size w w') : Pl w' v L := by
  rcases h with h | ⟨b, off, cap, e, hl, hs, h⟩
  · exact .inl h
  · exact .inr ⟨b, off, cap, e, hl, Nat.lt_of_lt_of_le hs hb.size, fun k c hk => (h k c hk).on hb⟩
/-- What an index says: the first place at which q holds, or -1. -/
def IdxIs {α : Type} (q : α → Bool) (L : List α) (r : Int) : Prop := (r = -1 ∧ ∀ (k : Nat) (c : α), L[k]? = some c → q c = false) ∨ ∃ (k : Nat) (c : α), r = k ∧ L[k]? = some c ∧ q c = true ∧ ∀ (j : Nat) (d : α), j < k → L[j]? = some d → q d = false
theorem IdxIs.ex {α : Type} (q : α → Bool) (L : List α) : ∃ r, IdxIs q L r := by
  by_cases h : ∃ (k : Nat) (c : α), L[k]? = some c ∧ q c = true
  · have : ∃ k : Nat, ∃ c, L[k]? = some c ∧ q c = true := h
    classical
    obtain ⟨k, ⟨c, hc, hq⟩, hmin⟩ : ∃ k : Nat, (∃ c, L[k]? = some c ∧ q c = true) ∧ ∀ j, j < k → ¬ ∃ c, L[j]? = some c ∧ q c = true := by
      obtain ⟨k, hk⟩ := this
      induction k using Nat.strongRecOn with
      | ind k ih =>
        by_cases hj : ∃ j, j < k ∧ ∃ c, L[j]? = some c ∧ q c = true
        · obtain ⟨j, hj, hc⟩ := hj; exact ih j hj hc
        · exact ⟨k, hk, fun j hjk hc => hj ⟨j, hjk, hc⟩⟩
    refine ⟨k, .inr ⟨k, c, rfl, hc, hq, fun j d hj hd => ?_⟩⟩
    cases e : q d with
    | false => rfl
    | true => exact absurd ⟨d, hd, e⟩ (hmin j hj)
  · refine ⟨-1, .inl ⟨rfl, fun k c hc => ?_⟩⟩
    cases e : q c with
    | false => rfl
    | true => exact absurd ⟨k, c, hc, e⟩ h
theorem IdxIs.hit {α : Type} {q : α → Bool} {L : List α} {r : Int} (h : IdxIs q L r) {k : Nat} {c : α} (hc : L[k]? = some c) (hq : q c = true) (hb : ∀ (j : Nat) (d : α), j < k → L[j]? = some d → q d = false) : r = k := by
  rcases h with ⟨_, h⟩ | ⟨k', c', rfl, hc', hq', hb'⟩
  · rw [h k c hc] at hq; cases hq
  · rcases Nat.lt_trichotomy k k' with hlt | rfl | hlt
    · rw [hb' k c hlt hc] at hq; cases hq
    · rfl
    · rw [hb k' c' hlt hc'] at hq'; cases hq'
theorem IdxIs.miss {α : Type} {q : α → Bool} {L : List α} {r : Int} (h : IdxIs q L r) (hb : ∀ (j : Nat) (d : α), L[j]? = some d → q d = false) : r = -1 := by
  rcases h with ⟨e, _⟩ | ⟨k', c', rfl, hc', hq', hb'⟩
  · exact e
  · rw [hb k' c' hc'] at hq'; cases hq'
theorem IdxIs.any {α : Type} {q : α → Bool} {L : List α} {r : Int} (h : IdxIs q L r) : L.any q = decide (0 ≤ r) := by
  rcases h with ⟨rfl, h⟩ | ⟨k', c', rfl, hc', hq', hb'⟩
  · rw [show decide ((0 : Int) ≤ -1) = false by decide, List.any_eq_false]
    intro c hc
    obtain ⟨k, hk⟩ := List.mem_iff_getElem?.1 hc
    rw [h k c hk]; simp
  · rw [show decide ((0 : Int) ≤ (k' : Int)) = true by simp, List.any_eq_true]
    exact ⟨c', List.mem_of_getElem? hc', hq'⟩
end Go.Proofs.Hd
namespace Go.Proofs
open Go.RowKit Go.Proofs.Hd Go.Shelf Go.Lib
attribute [local go_sem] uv_nonneg

set_option maxHeartbeats 2000000 in
set_option maxRecDepth 100000 in
theorem idx_cubes (g : Nat) (lb : Array Value) (q : Cb → Bool) (eg : ∀ args w, (callFunc g args).run Tryz.prog w = .ok (.enter g args) w) (v : Value) (L : List Cb) (w : World) (r : Int) (hr : IdxIs q L r)
    (hp : ∀ W c, c ∈ L → Below w.heap.size w W → Calls Tryz.prog g (#[.agg #[.int .u64 (uv c.vh), .int .u64 (uv c.vl), .int .u64 (uv c.ch), .int .u64 (uv c.cl)]] ++ lb) W fun e w' => e = .returned (.bool (q c)) ∧ Below w.heap.size w w') (hv : Pl w v L) :
    Calls Tryz.prog 49 #[v, .func (.func g) #[] lb] w fun e w' => e = .returned (.int .i64 r) ∧ Below w.heap.size w w' := by
  rcases hv with ⟨rfl, A, cap, rfl⟩ | ⟨b, off, cap, rfl, hlen, hb, hc⟩
  · obtain rfl : r = -1 := hr.miss (fun j d h => by simp at h)
    clear hp hr
    go_enter Tryz.func49, Tryz.ntmps49
    go_wp2
    refine wp_loop_rounds 1 ?_
    rw [rounds_succ]
    go_wp2
    go_ret
    exact ⟨rfl, Below.refl _ _⟩
  · have HR := Lib.hid hr
    have HC := Lib.hid hc
    have HP := Lib.hid hp
    have hl : (L.length : Int) ≤ 9223372036854775807 := by unfold maxLen at hlen; omega
    clear hr hc hp
    go_enter Tryz.func49, Tryz.ntmps49
    go_wp2
    go_loopg [5, 8] L.length (fun gg _ s8 wr => ∃ kk : Nat, kk ≤ L.length ∧ L.length - kk ≤ gg ∧ s8 = .int .i64 kk ∧ Hid (Below w.heap.size w wr) ∧ Hid (∀ (j : Nat) (d : Cb), j < kk → L[j]? = some d → q d = false))
    case atStart => exact ⟨0, Nat.zero_le _, by omega, rfl, Below.refl _ w, fun j d hj => absurd hj (Nat.not_lt_zero _)⟩
    case round =>
      obtain ⟨kk, hkk, hg, rfl, BW, A⟩ := hrel
      by_cases hlt : kk < L.length
      · have hltz : (kk : Int) < (L.length : Int) := by omega
        obtain ⟨c, hc⟩ : ∃ c, L[kk]? = some c := ⟨_, List.getElem?_eq_getElem hlt⟩
        obtain ⟨c0, c1, c2, c3⟩ := (HC.out kk c hc).on (w' := wr) BW.out
        have hcall := HP.out wr c (List.mem_of_getElem? hc) BW.out
        have B := Lib.hid hc
        clear HP HC hc
        cases hq : q c with
        | true =>
          rw [hq] at hcall
          go_wp2_with (go_at_fn g; refine hcall.mono ?_; rintro e w' ⟨rfl, hb'⟩)
          go_ret
          exact ⟨by rw [HR.out.hit B.out hq A.out]; rfl, hb'⟩
        | false =>
          rw [hq] at hcall
          go_wp2_with (go_at_fn g; refine hcall.mono ?_; rintro e w' ⟨rfl, hb'⟩)
          go_roundg (L.length - (kk + 1))
          case measure => omega
          case rel =>
            refine ⟨kk + 1, by omega, by omega, by go_num, hb', fun j d hj hd => ?_⟩
            by_cases e : j = kk
            · subst e
              have := B.out
              rw [hd] at this; injection this with this; subst this; exact hq
            · exact A.out j d (by omega) hd
      · have hltz : ¬ (kk : Int) < (L.length : Int) := by omega
        have hk : kk = L.length := by omega
        have := HR.out.miss (fun j d hd => A.out j d (by rw [hk]; exact (List.getElem?_eq_some_iff.1 hd).1) hd)
        subst this
        go_wp2
        go_ret
        exact ⟨rfl, BW.out⟩
theorem cont_cubes (g : Nat) (lb : Array Value) (q : Cb → Bool) (eg : ∀ args w, (callFunc g args).run Tryz.prog w = .ok (.enter g args) w) (v : Value) (L : List Cb) (w : World) (x : Bool) (hx : L.any q = x)
    (hp : ∀ W c, c ∈ L → Below w.heap.size w W → Calls Tryz.prog g (#[.agg #[.int .u64 (uv c.vh), .int .u64 (uv c.vl), .int .u64 (uv c.ch), .int .u64 (uv c.cl)]] ++ lb) W fun e w' => e = .returned (.bool (q c)) ∧ Below w.heap.size w w') (hv : Pl w v L) :
    Calls Tryz.prog 28 #[v, .func (.func g) #[] lb] w fun e w' => e = .returned (.bool x) ∧ Below w.heap.size w w' := by
  obtain ⟨r, hr⟩ := IdxIs.ex q L
  have hcon := idx_cubes g lb q eg v L w r hr hp hv
  have ha := hr.any
  rw [hx] at ha
  subst ha
  clear hr hx hp hv
  go_enter Tryz.func28, Tryz.ntmps28
  go_wp2_with (go_at_call 49; refine hcon.mono ?_; rintro e w' ⟨rfl, hb'⟩)
  go_ret
  exact ⟨rfl, hb'⟩
theorem psound1_c (c : Cb) (w : World) : Calls Tryz.prog 76 #[.agg #[.int .u64 (uv c.vh), .int .u64 (uv c.vl), .int .u64 (uv c.ch), .int .u64 (uv c.cl)]] w fun e w' => e = .returned (.bool (!c.snd)) ∧ Below w.heap.size w w' := by
  have B0 := below1 w (.cells #[.int .u64 (uv c.vh), .int .u64 (uv c.vl), .int .u64 (uv c.ch), .int .u64 (uv c.cl)] 53)
  go_enter Tryz.func76, Tryz.ntmps76
  go_wp2_with fail
  (with_reducible refine (csound _ c _ rfl).mono ?_)
  rintro e w1 ⟨rfl, hb⟩
  have L := B0.trans (hb.mono B0.size)
  clear B0 hb
  go_wp2
  go_ret
  exact ⟨rfl, L⟩
theorem phas1_c (c : Cb) (hh hl : BitVec 64) (b : Nat) (w : World) (hc : w.cell? ⟨b, 0, none⟩ = some (.int .u64 (uv hh)) ∧ w.cell? ⟨b, 1, none⟩ = some (.int .u64 (uv hl))) :
    Calls Tryz.prog 53 #[.agg #[.int .u64 (uv c.vh), .int .u64 (uv c.vl), .int .u64 (uv c.ch), .int .u64 (uv c.cl)], .pointer (some ⟨b, 0, none⟩)] w fun e w' => e = .returned (.bool (c.has hh hl)) ∧ Below w.heap.size w w' := by
  have B0 := below1 w (.cells #[.int .u64 (uv c.vh), .int .u64 (uv c.vl), .int .u64 (uv c.ch), .int .u64 (uv c.cl)] 53)
  have h0 := on_some B0 hc.1
  have h1 := on_some B0 hc.2
  clear hc
  go_enter Tryz.func53, Tryz.ntmps53
  go_wp2_with fail
  (with_reducible refine (chas _ c _ _ _ rfl).mono ?_)
  rintro e w1 ⟨rfl, hb⟩
  have L := B0.trans (hb.mono B0.size)
  clear B0 hb
  go_wp2
  go_ret
  exact ⟨rfl, L⟩
/-- Is a list of cubes sound? -/
def sndL (L : List Cb) : Bool := decide (L.length ≤ 200) && L.all Cb.snd
theorem any_not (L : List Cb) : (L.any fun c => !c.snd) = !L.all Cb.snd := by induction L <;> simp_all
theorem psound_c (x : Bool) (v : Value) (L : List Cb) (w : World) (hx : sndL L = x) (hv : Pl w v L) : Calls Tryz.prog 57 #[v] w fun e w' => e = .returned (.bool x) ∧ Below w.heap.size w w' := by
  have eg : ∀ args w, (callFunc 76 args).run Tryz.prog w = .ok (.enter 76 args) w := enters_of Tryz.func76 (by kernel_rfl) rfl
  have hcon := cont_cubes 76 #[] (fun c => !c.snd) eg v L w (!L.all Cb.snd) (any_not L) (fun W c _ hb => (psound1_c c W).mono fun e w' h => ⟨h.1, hb.trans (h.2.mono hb.size)⟩) hv
  obtain ⟨A, cap, hA⟩ : ∃ A cap, v = .slice A L.length cap := by
    rcases hv with ⟨rfl, A, cap, rfl⟩ | ⟨b, off, cap, rfl, _⟩ <;> exact ⟨_, _, rfl⟩
  subst hA
  clear hv
  unfold sndL at hx
  subst hx
  generalize L.all Cb.snd = y at hcon ⊢
  by_cases hl : L.length ≤ 200
  · have hz : (L.length : Int) ≤ 200 := by omega
    rw [show decide (L.length ≤ 200) = true by simpa using hl]
    go_enter Tryz.func57, Tryz.ntmps57
    go_wp2_with (go_at_call 28; refine hcon.mono ?_; rintro e w' ⟨rfl, hb'⟩)
    go_ret
    exact ⟨by simp, hb'⟩
  · have hz : ¬ (L.length : Int) ≤ 200 := by omega
    rw [show decide (L.length ≤ 200) = false by simpa using hl]
    go_enter Tryz.func57, Tryz.ntmps57
    go_wp2
    go_ret
    exact ⟨by simp, Below.refl _ _⟩
theorem phas_c (x : Bool) (v : Value) (L : List Cb) (hh hl : BitVec 64) (w : World) (hx : anyHas L hh hl = x) (hv : Pl w v L) : Calls Tryz.prog 34 #[v, .agg #[.int .u64 (uv hh), .int .u64 (uv hl)]] w fun e w' => e = .returned (.bool x) ∧ Below w.heap.size w w' := by
  have eg : ∀ args w, (callFunc 53 args).run Tryz.prog w = .ok (.enter 53 args) w := enters_of Tryz.func53 (by kernel_rfl) rfl
  have B0 := below1 w (.cells #[.int .u64 (uv hh), .int .u64 (uv hl)] 25)
  have hcell : (w.alloc (.cells #[.int .u64 (uv hh), .int .u64 (uv hl)] 25)).cell? ⟨w.heap.size, 0, none⟩ = some (.int .u64 (uv hh)) ∧ (w.alloc (.cells #[.int .u64 (uv hh), .int .u64 (uv hl)] 25)).cell? ⟨w.heap.size, 1, none⟩ = some (.int .u64 (uv hl)) := ⟨by simp, by simp⟩
  have hcon := cont_cubes 53 #[.pointer (some ⟨w.heap.size, 0, none⟩)] (fun c => c.has hh hl) eg v L (w.alloc (.cells #[.int .u64 (uv hh), .int .u64 (uv hl)] 25)) x hx
    (fun W c _ hb => (phas1_c c hh hl w.heap.size W ⟨on_some hb hcell.1, on_some hb hcell.2⟩).mono fun e w' h => ⟨h.1, hb.trans (h.2.mono hb.size)⟩) (hv.on B0)
  clear hv hcell hx
  go_enter Tryz.func34, Tryz.ntmps34
  go_wp2_with (go_at_call 28; refine hcon.mono ?_; rintro e w' ⟨rfl, hb'⟩)
  go_ret
  exact ⟨rfl, B0.trans (hb'.mono B0.size)⟩
end Go.Proofs

namespace Go.Proofs.YtpmgbofnikmhgaaGreat
open Go.ChangeShapes Go.WideShapes Go.ChangeAt Go.RowKit Go.Joins Go.Deep Go.Proofs.Hd
theorem four_at {w : World} {b off n : Nat} {c : Cb} (h : Four w ((⟨b, off, none⟩ : Addr).add n) c) : At4 w b (off + n) c := by
  obtain ⟨h0, h1, h2, h3⟩ := h
  have e : (⟨b, off, none⟩ : Addr).add n = ⟨b, off + n, none⟩ := by unfold Addr.add; by_cases hn : n = 0 <;> simp [hn]
  rw [e] at h0 h1 h2 h3
  exact ⟨by simpa [Addr.add] using h0, by simpa [Addr.add] using h1, by simpa [Addr.add] using h2, by simpa [Addr.add] using h3⟩
set_option maxRecDepth 100000 in
theorem open_pl {H : Type} {enc : TypeId × Value → H} {W : World} {base : Nat} {v : Value} {d : DataW H} {p : List MemPlace} (hok : Value.okWide Tryz.prog W .any base 22 v)
    (h0 : DataW.Trod enc Tryz.prog W 0 (fun _ => true) true 22 v d p) : ∃ (A : Option Addr) (cap : Nat) (L : List Cb), v = .slice A L.length cap ∧ L.length ≤ cap ∧ cap ≤ maxLen ∧ Pl W v L := by
  rcases open_cubes hok h0 with rfl | ⟨a, cap, L, rfl, hl, hm, hc⟩
  · exact ⟨none, 0, [], rfl, Nat.le_refl _, Nat.zero_le _, .inl ⟨rfl, none, 0, rfl⟩⟩
  · refine ⟨some a, cap, L, rfl, hl, hm, ?_⟩
    cases L with
    | nil => exact .inl ⟨rfl, some a, cap, rfl⟩
    | cons c L =>
      have h1 := hc 0 c rfl
      obtain ⟨b, off, spot⟩ := a
      have hs : spot = none := by
        have := World.cell?_spot h1.1
        simpa [Addr.add] using this
      subst hs
      refine .inr ⟨b, off, cap, rfl, Nat.le_trans hl hm, ?_, fun k d hk => four_at (hc k d hk)⟩
      have := h1.block
      simpa [Addr.add] using this
set_option maxRecDepth 100000 in
/-- How long the datum of such a slice is. -/
theorem open_len {H : Type} {enc : TypeId × Value → H} {W : World} {base : Nat} {v : Value} {d : DataW H} {p : List MemPlace} (hok : Value.okWide Tryz.prog W .any base 22 v)
    (h0 : DataW.Trod enc Tryz.prog W 0 (fun _ => true) true 22 v d p) : ∀ (A : Option Addr) (n cap : Nat), v = .slice A n cap → n = 0 ∨ ∃ el sp, d = .slice el sp ∧ el.length = n := by
  intro A n cap e
  obtain ⟨fuel, hf⟩ := h0
  obtain ⟨va, vl, vc, rfl⟩ := okWide_slice Tryz.underlying22 hok
  injection e with e1 e2 e3
  subst e1 e2 e3
  rcases open_slice Tryz.underlying22 hf with ⟨h1, _⟩ | ⟨a, len, cap, m, n, D, Pl, hcs, _, hlc, hcm, hm, hx, hel⟩
  · left
    have : va = none ∧ vl = 0 ∧ vc = 0 := by simpa [Value.cells] using h1
    exact this.2.1
  · right
    have hv : va = some a ∧ vl = len ∧ vc = cap := by simpa [Value.cells] using hcs
    obtain ⟨rfl, rfl, rfl⟩ := hv
    have hd := congrArg Prod.fst hx
    exact ⟨_, _, hd, by simp⟩
end Go.Proofs.YtpmgbofnikmhgaaGreat

namespace Go.Proofs.Hd
/-- An atom: its numbers, its head, its pile. -/
structure Atm (P H : Type) where
  ids : List Int
  hd : H
  pl : P
section
variable {P H X : Type}
/-- The numbers of the atoms that have a header. -/
def idsAt (has : P → X → Bool) (al : List (Atm P H)) (x : X) : List (List Int) := (al.filter fun a => has a.pl x).map Atm.ids
theorem idsAt_nil (has : P → X → Bool) (x : X) : idsAt has ([] : List (Atm P H)) x = [] := rfl
theorem idsAt_app (has : P → X → Bool) (al bs : List (Atm P H)) (x : X) : idsAt has (al ++ bs) x = idsAt has al x ++ idsAt has bs x := by simp [idsAt]
theorem idsAt_cons (has : P → X → Bool) (a : Atm P H) (al : List (Atm P H)) (x : X) : idsAt has (a :: al) x = (if has a.pl x = true then [a.ids] else []) ++ idsAt has al x := by
  unfold idsAt
  rw [List.filter_cons]
  split <;> simp
/-- The parts of one atom. -/
def prt (emp : P → Bool) (top : P → H) (id : Int) (I : List Int) (m l : P) : List (Atm P H) :=
  (if emp m = true then [] else [⟨I ++ [id], top m, m⟩]) ++ (if emp l = true then [] else [⟨I, top l, l⟩])
theorem prt_ids {has : P → X → Bool} {emp : P → Bool} {top : P → H} {id : Int} {I : List Int} {m l p : P} {x : X} {c : Bool} (hm : has m x = (has p x && c)) (hl : has l x = (has p x && !c)) (he : ∀ q, emp q = true → has q x = false) :
    idsAt has (prt emp top id I m l) x = if has p x = true then [if c = true then I ++ [id] else I] else [] := by
  unfold prt
  rw [idsAt_app]
  have hem : emp m = true → has m x = false := he m
  have hel : emp l = true → has l x = false := he l
  have e1 : idsAt has (if emp m = true then [] else [(⟨I ++ [id], top m, m⟩ : Atm P H)]) x = if has m x = true then [I ++ [id]] else [] := by
    by_cases h : emp m = true
    · rw [if_pos h, hem h, if_neg (by simp)]; rfl
    · rw [if_neg h, idsAt_cons, idsAt_nil, List.append_nil]
  have e2 : idsAt has (if emp l = true then [] else [(⟨I, top l, l⟩ : Atm P H)]) x = if has l x = true then [I] else [] := by
    by_cases h : emp l = true
    · rw [if_pos h, hel h, if_neg (by simp)]; rfl
    · rw [if_neg h, idsAt_cons, idsAt_nil, List.append_nil]
  rw [e1, e2, hm, hl]
  cases has p x <;> cases c <;> simp
/-- Splitting, where an intersection or a difference may be too large. -/
def splO (me le : P → Option P) (emp : P → Bool) (top : P → H) (id : Int) : List (Atm P H) → Option (List (Atm P H))
  | [] => some []
  | a :: al => match me a.pl, le a.pl, splO me le emp top id al with
    | some m, some l, some bs => some (prt emp top id a.ids m l ++ bs)
    | _, _, _ => none
theorem splO_cons {me le : P → Option P} {emp : P → Bool} {top : P → H} {id : Int} {a : Atm P H} {al bs : List (Atm P H)} (h : splO me le emp top id (a :: al) = some bs) :
    ∃ m l cs, me a.pl = some m ∧ le a.pl = some l ∧ splO me le emp top id al = some cs ∧ bs = prt emp top id a.ids m l ++ cs := by
  rw [splO] at h
  split at h
  · rename_i m l cs e1 e2 e3
    injection h with h
    exact ⟨m, l, cs, e1, e2, e3, h.symm⟩
  · cases h
/-- Behind a split each header is in the part on its side. -/
theorem spl_ids {has : P → X → Bool} {me le : P → Option P} {emp : P → Bool} {top : P → H} {id : Int} {x : X} {c : Bool} (he : ∀ q, emp q = true → has q x = false) : ∀ {al bs : List (Atm P H)},
    (∀ a ∈ al, (∀ m, me a.pl = some m → has m x = (has a.pl x && c)) ∧ ∀ l, le a.pl = some l → has l x = (has a.pl x && !c)) → splO me le emp top id al = some bs →
    idsAt has bs x = (idsAt has al x).map fun I => if c = true then I ++ [id] else I
  | [], bs, _, h => by
    rw [splO] at h
    injection h with h
    subst h
    rfl
  | a :: al, bs, hp, h => by
    obtain ⟨m, l, cs, e1, e2, e3, rfl⟩ := splO_cons h
    have h1 := hp a (List.mem_cons_self ..)
    rw [idsAt_app, idsAt_cons, List.map_append, prt_ids (h1.1 m e1) (h1.2 l e2) he, spl_ids he (fun b hb => hp b (List.mem_cons_of_mem _ hb)) e3]
    by_cases hx : has a.pl x = true
    · rw [if_pos hx, if_pos hx]; rfl
    · rw [if_neg hx, if_neg hx]; rfl
/-- What an atom behind a split is. -/
theorem spl_mem {me le : P → Option P} {emp : P → Bool} {top : P → H} {id : Int} : ∀ {al bs : List (Atm P H)}, splO me le emp top id al = some bs → ∀ b ∈ bs, ∃ a ∈ al,
    (b.ids = a.ids ++ [id] ∧ me a.pl = some b.pl ∨ b.ids = a.ids ∧ le a.pl = some b.pl) ∧ b.hd = top b.pl ∧ emp b.pl = false
  | [], bs, h, b, hb => by
    rw [splO] at h
    injection h with h
    subst h
    simp at hb
  | a :: al, bs, h, b, hb => by
    obtain ⟨m, l, cs, e1, e2, e3, rfl⟩ := splO_cons h
    rw [List.mem_append] at hb
    rcases hb with hb | hb
    · unfold prt at hb
      rw [List.mem_append] at hb
      rcases hb with hb | hb
      · split at hb
        · simp at hb
        · rename_i he
          rw [List.mem_singleton] at hb
          subst hb
          exact ⟨a, List.mem_cons_self .., .inl ⟨rfl, e1⟩, rfl, by simpa using he⟩
      · split at hb
        · simp at hb
        · rename_i he
          rw [List.mem_singleton] at hb
          subst hb
          exact ⟨a, List.mem_cons_self .., .inr ⟨rfl, e2⟩, rfl, by simpa using he⟩
    · obtain ⟨a', ha', h'⟩ := spl_mem e3 b hb
      exact ⟨a', List.mem_cons_of_mem _ ha', h'⟩
/-- No two atoms have the same numbers. -/
def Dst (al : List (Atm P H)) : Prop := al.Pairwise fun a b => a.ids ≠ b.ids
theorem spl_dst {me le : P → Option P} {emp : P → Bool} {top : P → H} {id : Int} : ∀ {al bs : List (Atm P H)}, Dst al → (∀ a ∈ al, id ∉ a.ids) → splO me le emp top id al = some bs → Dst bs
  | [], bs, _, _, h => by
    rw [splO] at h
    injection h with h
    subst h
    exact List.Pairwise.nil
  | a :: al, bs, hd, hn, h => by
    obtain ⟨m, l, cs, e1, e2, e3, rfl⟩ := splO_cons h
    rw [Dst, List.pairwise_cons] at hd
    have hn' : ∀ b ∈ al, id ∉ b.ids := fun b hb => hn b (List.mem_cons_of_mem _ hb)
    have hna : id ∉ a.ids := hn a (List.mem_cons_self ..)
    have hcs := spl_dst hd.2 hn' e3
    rw [Dst, List.pairwise_append]
    refine ⟨?_, hcs, ?_⟩
    · unfold prt
      split <;> split
      · simp
      · simp
      · simp
      · simp
    · intro b hb c hc
      have hbi : b.ids = a.ids ++ [id] ∨ b.ids = a.ids := by
        unfold prt at hb
        rw [List.mem_append] at hb
        rcases hb with hb | hb
        · split at hb
          · simp at hb
          · rw [List.mem_singleton] at hb; subst hb; exact .inl rfl
        · split at hb
          · simp at hb
          · rw [List.mem_singleton] at hb; subst hb; exact .inr rfl
      obtain ⟨a', ha', h', _, _⟩ := spl_mem e3 c hc
      have hne := hd.1 a' ha'
      have hna' := hn' a' ha'
      intro e
      rcases hbi with h1 | h1 <;> rcases h' with h2 | h2
      · rw [h1, h2.1] at e
        exact hne (List.append_cancel_right e)
      · rw [h1, h2.1] at e
        exact hna' (e ▸ by simp)
      · rw [h1, h2.1] at e
        exact hna (e ▸ by simp)
      · rw [h1, h2.1] at e
        exact hne e
/-- One atom more, among merged ones. -/
def putO (jn : P → P → Option P) (a : Atm P H) : List (Atm P H) → Option (List (Atm P H))
  | [] => some [a]
  | b :: out => if b.ids = a.ids then (match jn b.pl a.pl with
      | some p => some (⟨b.ids, b.hd, p⟩ :: out)
      | none => none)
    else (match putO jn a out with
      | some r => some (b :: r)
      | none => none)
/-- Merging, one by one. -/
def mrgO (jn : P → P → Option P) : List (Atm P H) → List (Atm P H) → Option (List (Atm P H))
  | out, [] => some out
  | out, a :: al => match putO jn a out with
    | some r => mrgO jn r al
    | none => none
theorem putO_cases {jn : P → P → Option P} {a : Atm P H} : ∀ {out r : List (Atm P H)}, putO jn a out = some r →
    (r = out ++ [a] ∧ ∀ b ∈ out, b.ids ≠ a.ids) ∨ ∃ u b v p, out = u ++ b :: v ∧ (∀ c ∈ u, c.ids ≠ a.ids) ∧ b.ids = a.ids ∧ jn b.pl a.pl = some p ∧ r = u ++ ⟨b.ids, b.hd, p⟩ :: v
  | [], r, h => by
    rw [putO] at h
    injection h with h
    exact .inl ⟨h.symm, by simp⟩
  | b :: out, r, h => by
    rw [putO] at h
    by_cases e : b.ids = a.ids
    · rw [if_pos e] at h
      split at h
      · rename_i p hp
        injection h with h
        exact .inr ⟨[], b, out, p, rfl, by simp, e, hp, h.symm⟩
      · cases h
    · rw [if_neg e] at h
      split at h
      · rename_i r' hr
        injection h with h
        rcases putO_cases hr with ⟨h1, h2⟩ | ⟨u, b', v, p, h1, h2, h3, h4, h5⟩
        · refine .inl ⟨by rw [← h, h1]; rfl, fun c hc => ?_⟩
          rcases List.mem_cons.1 hc with rfl | hc
          · exact e
          · exact h2 c hc
        · refine .inr ⟨b :: u, b', v, p, by rw [h1]; rfl, fun c hc => ?_, h3, h4, by rw [← h, h5]; rfl⟩
          rcases List.mem_cons.1 hc with rfl | hc
          · exact e
          · exact h2 c hc
      · cases h
theorem put_dst {jn : P → P → Option P} {a : Atm P H} {out r : List (Atm P H)} (hd : Dst out) (h : putO jn a out = some r) : Dst r := by
  rcases putO_cases h with ⟨rfl, h2⟩ | ⟨u, b, v, p, rfl, h2, h3, h4, rfl⟩
  · rw [Dst, List.pairwise_append]
    exact ⟨hd, by simp, fun b hb c hc => by rw [List.mem_singleton] at hc; subst hc; exact h2 b hb⟩
  · rw [Dst, List.pairwise_append, List.pairwise_cons] at hd ⊢
    refine ⟨hd.1, ⟨fun c hc => hd.2.1.1 c hc, hd.2.1.2⟩, fun c hc d hdm => ?_⟩
    rcases List.mem_cons.1 hdm with rfl | hdm
    · exact hd.2.2 c hc b (List.mem_cons_self ..)
    · exact hd.2.2 c hc d (List.mem_cons_of_mem _ hdm)
theorem mrg_dst {jn : P → P → Option P} : ∀ {al out r : List (Atm P H)}, Dst out → mrgO jn out al = some r → Dst r
  | [], out, r, hd, h => by
    rw [mrgO] at h
    injection h with h
    exact h ▸ hd
  | a :: al, out, r, hd, h => by
    rw [mrgO] at h
    split at h
    · rename_i r' hr
      exact mrg_dst (put_dst hd hr) h
    · cases h
/-- What holds of each atom, and is kept by joining, holds of each merged one. -/
theorem mrg_all {jn : P → P → Option P} {G : Atm P H → Prop} (hj : ∀ (b a : Atm P H) p, G b → G a → b.ids = a.ids → jn b.pl a.pl = some p → G ⟨b.ids, b.hd, p⟩) : ∀ {al out r : List (Atm P H)}, (∀ b ∈ out, G b) → (∀ a ∈ al, G a) → mrgO jn out al = some r → ∀ b ∈ r, G b
  | [], out, r, ho, _, h => by
    rw [mrgO] at h
    injection h with h
    exact h ▸ ho
  | a :: al, out, r, ho, ha, h => by
    rw [mrgO] at h
    split at h
    · rename_i r' hr
      refine mrg_all hj ?_ (fun b hb => ha b (List.mem_cons_of_mem _ hb)) h
      have ha0 := ha a (List.mem_cons_self ..)
      rcases putO_cases hr with ⟨rfl, _⟩ | ⟨u, b, v, p, rfl, _, h3, h4, rfl⟩
      · intro c hc
        rcases List.mem_append.1 hc with hc | hc
        · exact ho c hc
        · rw [List.mem_singleton] at hc; subst hc; exact ha0
      · intro c hc
        rcases List.mem_append.1 hc with hc | hc
        · exact ho c (List.mem_append_left _ hc)
        · rcases List.mem_cons.1 hc with rfl | hc
          · exact hj b a p (ho b (List.mem_append_right _ (List.mem_cons_self ..))) ha0 h3 h4
          · exact ho c (List.mem_append_right _ (List.mem_cons_of_mem _ hc))
    · cases h
/-- A header that one atom has, of all that are merged, one merged atom has, with the same numbers. -/
theorem put_ids {has : P → X → Bool} {jn : P → P → Option P} {a : Atm P H} {out r : List (Atm P H)} {x : X} (hj : ∀ b ∈ out, b.ids = a.ids → ∀ p, jn b.pl a.pl = some p → has p x = (has b.pl x || has a.pl x)) (h : putO jn a out = some r) (hx : has a.pl x = false ∨ idsAt has out x = []) :
    idsAt has r x = idsAt has out x ++ (if has a.pl x = true then [a.ids] else []) := by
  rcases putO_cases h with ⟨rfl, _⟩ | ⟨u, b, v, p, rfl, _, h3, h4, rfl⟩
  · rw [idsAt_app, idsAt_cons, idsAt_nil, List.append_nil]
  · have hp := hj b (List.mem_append_right _ (List.mem_cons_self ..)) h3 p h4
    rw [idsAt_app, idsAt_cons, idsAt_app, idsAt_cons]
    rcases hx with hx | hx
    · rw [hx] at hp ⊢
      rw [Bool.or_false] at hp
      show idsAt has u x ++ ((if has p x = true then [b.ids] else []) ++ idsAt has v x) = _
      rw [hp, if_neg (by simp : ¬ (false = true)), List.append_nil]
    · rw [idsAt_app, idsAt_cons] at hx
      have hu : idsAt has u x = [] := (List.append_eq_nil_iff.1 hx).1
      have hr := (List.append_eq_nil_iff.1 hx).2
      have hb : (if has b.pl x = true then [b.ids] else []) = [] := (List.append_eq_nil_iff.1 hr).1
      have hv : idsAt has v x = [] := (List.append_eq_nil_iff.1 hr).2
      have hbx : has b.pl x = false := by
        cases hq : has b.pl x with
        | false => rfl
        | true => rw [hq, if_pos rfl] at hb; cases hb
      show idsAt has u x ++ ((if has p x = true then [b.ids] else []) ++ idsAt has v x) = _
      rw [hp, hu, hv, hbx, Bool.false_or, h3]
      simp
theorem mrg_ids {has : P → X → Bool} {jn : P → P → Option P} {x : X} (hj : ∀ q p r, jn q p = some r → has r x = (has q x || has p x)) : ∀ {al out r : List (Atm P H)}, mrgO jn out al = some r → (idsAt has out x ++ idsAt has al x).length ≤ 1 → idsAt has r x = idsAt has out x ++ idsAt has al x
  | [], out, r, h, _ => by
    rw [mrgO] at h
    injection h with h
    subst h
    rw [idsAt_nil, List.append_nil]
  | a :: al, out, r, h, hl => by
    rw [mrgO] at h
    split at h
    · rename_i r' hr
      rw [idsAt_cons] at hl ⊢
      have hx : has a.pl x = false ∨ idsAt has out x = [] := by
        cases hq : has a.pl x with
        | false => exact .inl rfl
        | true =>
          right
          rw [hq, if_pos rfl] at hl
          apply List.eq_nil_of_length_eq_zero
          simp only [List.length_append, List.length_cons] at hl
          omega
      have hp := put_ids (has := has) (fun b _ _ p hb => hj b.pl a.pl p hb) hr hx
      have := mrg_ids hj h (by rw [hp, List.append_assoc]; exact hl)
      rw [this, hp, List.append_assoc]
    · cases h
/-- The place of the first atom that has a header. -/
def fndA (has : P → X → Bool) (al : List (Atm P H)) (x : X) : Option Nat := al.findIdx? fun a => has a.pl x
theorem fnd_ids {has : P → X → Bool} : ∀ {al : List (Atm P H)} {x : X} {I : List Int}, idsAt has al x = [I] → ∃ n a, fndA has al x = some n ∧ al[n]? = some a ∧ a.ids = I ∧ has a.pl x = true
  | [], x, I, h => by cases h
  | a :: al, x, I, h => by
    rw [idsAt_cons] at h
    unfold fndA
    rw [List.findIdx?_cons]
    cases hq : has a.pl x with
    | true =>
      rw [hq, if_pos rfl] at h
      simp only [List.singleton_append, List.cons.injEq] at h
      exact ⟨0, a, rfl, rfl, h.1, hq⟩
    | false =>
      rw [hq, if_neg (by simp), List.nil_append] at h
      obtain ⟨n, b, h1, h2, h3, h4⟩ := fnd_ids h
      unfold fndA at h1
      exact ⟨n + 1, b, by rw [h1]; rfl, h2, h3, h4⟩
/-- Two headers are found at one place just where the atoms that have them have equal numbers. -/
theorem fnd_same {has : P → X → Bool} {al : List (Atm P H)} (hd : Dst al) {x y : X} {I J : List Int} (hx : idsAt has al x = [I]) (hy : idsAt has al y = [J]) {n m : Nat} (h1 : fndA has al x = some n) (h2 : fndA has al y = some m) : n = m ↔ I = J := by
  obtain ⟨n', a, e1, e2, e3, _⟩ := fnd_ids hx
  obtain ⟨m', b, f1, f2, f3, _⟩ := fnd_ids hy
  rw [h1] at e1
  rw [h2] at f1
  injection e1 with e1
  injection f1 with f1
  subst e1 f1
  constructor
  · rintro rfl
    rw [e2] at f2
    injection f2 with f2
    rw [← e3, ← f3, f2]
  · intro hIJ
    obtain ⟨k1, g1⟩ := List.getElem?_eq_some_iff.1 e2
    obtain ⟨k2, g2⟩ := List.getElem?_eq_some_iff.1 f2
    rcases Nat.lt_trichotomy n m with h | h | h
    · have := List.pairwise_iff_getElem.1 hd n m k1 k2 h
      rw [g1, g2, e3, f3] at this
      exact absurd hIJ this
    · exact h
    · have := List.pairwise_iff_getElem.1 hd m n k2 k1 h
      rw [g1, g2, e3, f3] at this
      exact absurd hIJ.symm this
/-- The places of the atoms that have a number. -/
def ofA (al : List (Atm P H)) (id : Int) : List Nat := (List.range al.length).filter fun n => match al[n]? with
  | some a => decide (id ∈ a.ids)
  | none => false
end
end Go.Proofs.Hd

namespace Go.Proofs.Hd
open Go.RowKit Go.Sort
/-- World w' is W behind some draws, with some blocks laid behind it. -/
def Grew (W w' : World) : Prop := ∃ q os, w' = grow (W.drewN q) os
theorem Grew.refl (W : World) : Grew W W := ⟨0, #[], by rw [grow_empty]; rfl⟩
theorem Grew.trans {a b c : World} (h : Grew a b) (k : Grew b c) : Grew a c := by
  obtain ⟨q, os, rfl⟩ := h
  obtain ⟨q', os', rfl⟩ := k
  exact ⟨q + q', os ++ os', by show grow (grow ((a.drewN q).drewN q') os) os' = _; rw [grow_grow, World.drewN_drewN]⟩
theorem Grew.drew1 (W : World) : Grew W W.drew := ⟨1, #[], by rw [grow_empty]; rfl⟩
theorem Grew.alloc1 (W : World) (o : Obj) : Grew W (W.alloc o) := ⟨0, #[o], by rw [← alloc_eq_grow]; rfl⟩
theorem Grew.drewN1 (W : World) (n : Nat) : Grew W (W.drewN n) := ⟨n, #[], by rw [grow_empty]⟩
theorem Grew.below {W w' : World} (h : Grew W w') : Below W.heap.size W w' := by
  obtain ⟨q, os, rfl⟩ := h
  exact ⟨rfl, rfl, rfl, by simp [grow], fun k hk => heap_grow_old _ _ hk⟩
/-- What Go's cmp.Compare says of two ints. -/
def icmp (a b : Int) : Int := if a < b then -1 else if b < a then 1 else 0
def or2 (x y : Int) : Int := if x = 0 then y else x
end Go.Proofs.Hd
namespace Go.Proofs
open Go.RowKit Go.Proofs.Hd Go.Sort
attribute [local go_sem] uv_nonneg
theorem nanI_c (a : Int) (w : World) : Calls Tryz.prog 115 #[.int .i64 a] w fun e w' => e = .returned (.bool false) ∧ w = w' := by
  go_enter Tryz.func115, Tryz.ntmps115
  go_wp2
  go_ret
  exact ⟨by simp, rfl⟩
theorem cmpI_g (a b r : Int) (w : World) (hr : icmp a b = r) : Calls Tryz.prog 104 #[.int .i64 a, .int .i64 b] w fun e w' => e = .returned (.int .i64 r) ∧ Grew w w' := by
  unfold icmp at hr
  by_cases h1 : a < b
  · rw [if_pos h1] at hr; subst hr
    go_enter Tryz.func104, Tryz.ntmps104
    go_wp2_with (go_at_call 115; refine (nanI_c _ _).mono ?_; rintro e w' ⟨rfl, rfl⟩)
    go_ret
    exact ⟨rfl, Grew.refl _⟩
  · rw [if_neg h1] at hr
    by_cases h2 : b < a
    · rw [if_pos h2] at hr; subst hr
      go_enter Tryz.func104, Tryz.ntmps104
      go_wp2_with (go_at_call 115; refine (nanI_c _ _).mono ?_; rintro e w' ⟨rfl, rfl⟩)
      go_ret
      exact ⟨rfl, Grew.refl _⟩
    · rw [if_neg h2] at hr; subst hr
      go_enter Tryz.func104, Tryz.ntmps104
      go_wp2_with (go_at_call 115; refine (nanI_c _ _).mono ?_; rintro e w' ⟨rfl, rfl⟩)
      go_ret
      exact ⟨rfl, Grew.refl _⟩
end Go.Proofs

namespace Go.Proofs
open Go.RowKit Go.Proofs.Hd Go.Sort
attribute [local go_sem] uv_nonneg
theorem ones_g (h l : BitVec 64) (r : Int) (w : World) (hr : ((ones h + ones l : Nat) : Int) = r) : Calls Tryz.prog 105 #[.agg #[.int .u64 (uv h), .int .u64 (uv l)]] w fun e w' => e = .returned (.int .i64 r) ∧ Grew w w' := by
  subst hr
  have h1 := ones_le h
  have h2 := ones_le l
  have e1 : ((ones h + ones l : Nat) : Int) = (ones h : Int) + (ones l : Int) := by omega
  rw [e1]
  have hw : IntKind.i64.wrap ((ones h : Int) + (ones l : Int)) = (ones h : Int) + (ones l : Int) := by rw [IntKind.wrap_i64]; omega
  go_enter Tryz.func105, Tryz.ntmps105
  go_wp2
  go_quiet ((go_at_call 117; exact Calls.quiet_of_same ((ones64_c _ _).mono fun e w' h => ⟨h.1, h.2.symm⟩)))
  go_wp2
  go_ret
  exact ⟨rfl, (Grew.alloc1 _ _).trans (Grew.drewN1 _ _)⟩
set_option maxHeartbeats 1000000 in
theorem or2_g (x y r : Int) (g : Nat) (w : World) (hr : or2 x y = r) (hc : w.cell? ⟨g, 0, none⟩ = some (.int .i64 x) ∧ w.cell? ⟨g, 1, none⟩ = some (.int .i64 y)) :
    Calls Tryz.prog 103 #[.slice (some ⟨g, 0, none⟩) 2 2] w fun e w' => e = .returned (.int .i64 r) ∧ Grew w w' := by
  obtain ⟨c0, c1⟩ := hc
  unfold or2 at hr
  by_cases hx : x = 0
  · rw [if_pos hx] at hr; subst hr hx
    by_cases hy : y = 0
    · subst hy
      go_enter Tryz.func103, Tryz.ntmps103
      go_wp2
      refine wp_loop_rounds 3 ?_
      rw [rounds_succ]
      go_wp2
      rw [rounds_succ]
      go_wp2
      rw [rounds_succ]
      go_wp2
      go_ret
      exact ⟨rfl, Grew.refl _⟩
    · go_enter Tryz.func103, Tryz.ntmps103
      go_wp2
      refine wp_loop_rounds 3 ?_
      rw [rounds_succ]
      go_wp2
      rw [rounds_succ]
      go_wp2
      go_ret
      exact ⟨rfl, Grew.refl _⟩
  · rw [if_neg hx] at hr; subst hr
    go_enter Tryz.func103, Tryz.ntmps103
    go_wp2
    refine wp_loop_rounds 3 ?_
    rw [rounds_succ]
    go_wp2
    go_ret
    exact ⟨rfl, Grew.refl _⟩
set_option maxHeartbeats 2000000 in
set_option maxRecDepth 100000 in
theorem wide1_g (oi oj x y r : Int) (ci cj : Cb) (i j n b off cap pb : Nat) (w : World) (hi : i < n) (hj : j < n) (hn : n ≤ maxLen) (HI : Hid (((ones ci.ch + ones ci.cl : Nat) : Int) = oi)) (HJ : Hid (((ones cj.ch + ones cj.cl : Nat) : Int) = oj)) (hx : icmp oi oj = x) (hy : icmp (i : Int) (j : Int) = y) (hr : or2 x y = r)
    (hp : w.cell? ⟨pb, 0, none⟩ = some (.slice (some ⟨b, off, none⟩) n cap)) (h1 : At4 w b (off + i * 4) ci) (h2 : At4 w b (off + j * 4) cj) :
    Calls Tryz.prog 102 #[.int .i64 i, .int .i64 j, .pointer (some ⟨pb, 0, none⟩)] w fun e w' => e = .returned (.int .i64 r) ∧ Grew w w' := by
  have hiz : (i : Int) < (n : Int) := by omega
  have hjz : (j : Int) < (n : Int) := by omega
  have hnz : (n : Int) ≤ 9223372036854775807 := by unfold maxLen at hn; omega
  have KEEP : ∀ u1 u2 : World, Grew u1 u2 → (Grew w u1 ∧ u1.cell? ⟨pb, 0, none⟩ = some (.slice (some ⟨b, off, none⟩) n cap) ∧ u1.cell? ⟨b, off + i * 4 + 2, none⟩ = some (.int .u64 (uv ci.ch)) ∧ u1.cell? ⟨b, off + i * 4 + 3, none⟩ = some (.int .u64 (uv ci.cl)) ∧ u1.cell? ⟨b, off + j * 4 + 2, none⟩ = some (.int .u64 (uv cj.ch)) ∧ u1.cell? ⟨b, off + j * 4 + 3, none⟩ = some (.int .u64 (uv cj.cl))) → (Grew w u2 ∧ u2.cell? ⟨pb, 0, none⟩ = some (.slice (some ⟨b, off, none⟩) n cap) ∧ u2.cell? ⟨b, off + i * 4 + 2, none⟩ = some (.int .u64 (uv ci.ch)) ∧ u2.cell? ⟨b, off + i * 4 + 3, none⟩ = some (.int .u64 (uv ci.cl)) ∧ u2.cell? ⟨b, off + j * 4 + 2, none⟩ = some (.int .u64 (uv cj.ch)) ∧ u2.cell? ⟨b, off + j * 4 + 3, none⟩ = some (.int .u64 (uv cj.cl))) := fun _ _ hb h => ⟨h.1.trans hb, on_some hb.below h.2.1, on_some hb.below h.2.2.1, on_some hb.below h.2.2.2.1, on_some hb.below h.2.2.2.2.1, on_some hb.below h.2.2.2.2.2⟩
  have S0 : Grew w w ∧ w.cell? ⟨pb, 0, none⟩ = some (.slice (some ⟨b, off, none⟩) n cap) ∧ w.cell? ⟨b, off + i * 4 + 2, none⟩ = some (.int .u64 (uv ci.ch)) ∧ w.cell? ⟨b, off + i * 4 + 3, none⟩ = some (.int .u64 (uv ci.cl)) ∧ w.cell? ⟨b, off + j * 4 + 2, none⟩ = some (.int .u64 (uv cj.ch)) ∧ w.cell? ⟨b, off + j * 4 + 3, none⟩ = some (.int .u64 (uv cj.cl)) := ⟨Grew.refl _, hp, h1.2.2.1, h1.2.2.2, h2.2.2.1, h2.2.2.2⟩
  clear hp h1 h2
  go_enter Tryz.func102, Tryz.ntmps102
  go_wp2_with fail
  refine wp_region_held_drew (S := fun w' => Grew w w' ∧ w'.cell? ⟨pb, 0, none⟩ = some (.slice (some ⟨b, off, none⟩) n cap) ∧ w'.cell? ⟨b, off + i * 4 + 2, none⟩ = some (.int .u64 (uv ci.ch)) ∧ w'.cell? ⟨b, off + i * 4 + 3, none⟩ = some (.int .u64 (uv ci.cl)) ∧ w'.cell? ⟨b, off + j * 4 + 2, none⟩ = some (.int .u64 (uv cj.ch)) ∧ w'.cell? ⟨b, off + j * 4 + 3, none⟩ = some (.int .u64 (uv cj.cl))) (by kernel_rfl) (KEEP _ _ (Grew.drew1 _) S0) (fun hHeld => ?_)
  clear S0
  refine wpAnyH_take (i := 0) (oi := ⟨some 6, _, _, _, _, _⟩) (v := ?vu0) rfl (by kernel_rfl) (by kernel_rfl) (by kernel_rfl) (fun _ _ _ h => h) (Or.inl ⟨by rfl, ?yu0⟩) hHeld ?ru0
  case yu0 => (intro w' hSw; (try dsimp only at hSw); go_simp; try (with_reducible rfl))
  simp only [Act.put, List.setIfInBounds_toArray, List.set_cons_zero, List.set_cons_succ]
  refine wpAnyH_take (i := 1) (oi := ⟨some 7, _, _, _, _, _⟩) (v := ?vu1) rfl (by kernel_rfl) (by kernel_rfl) (by kernel_rfl) (fun _ _ _ h => h) (Or.inl ⟨by rfl, ?yu1⟩) hHeld ?ru1
  case yu1 => (intro w' hSw; (try dsimp only at hSw); go_simp; try (with_reducible rfl))
  simp only [Act.put, List.setIfInBounds_toArray, List.set_cons_zero, List.set_cons_succ]
  refine wpAnyH_take (i := 2) (oi := ⟨some 8, _, _, _, _, _⟩) (v := ?vu2) rfl (by kernel_rfl) (by kernel_rfl) (by kernel_rfl) (fun _ _ _ h => h) (Or.inl ⟨by rfl, ?yu2⟩) hHeld ?ru2
  case yu2 => (intro w' hSw; (try dsimp only at hSw); go_simp; try (with_reducible rfl))
  simp only [Act.put, List.setIfInBounds_toArray, List.set_cons_zero, List.set_cons_succ]
  refine wpAnyH_take (i := 3) (oi := ⟨some 9, _, _, _, _, _⟩) (v := ?vu3) rfl (by kernel_rfl) (by kernel_rfl) (by kernel_rfl) (fun _ _ _ h => h) (Or.inl ⟨by rfl, ?yu3⟩) hHeld ?ru3
  case yu3 => (intro w' hSw; (try dsimp only at hSw); go_simp; try (with_reducible rfl))
  simp only [Act.put, List.setIfInBounds_toArray, List.set_cons_zero, List.set_cons_succ]
  refine wpAnyH_take (i := 4) (oi := ⟨some 10, _, _, _, _, _⟩) (v := ?vu4) rfl (by kernel_rfl) (by kernel_rfl) (by kernel_rfl) (fun _ _ _ h => h) (Or.inl ⟨by rfl, ?yu4⟩) hHeld ?ru4
  case yu4 => (intro w' hSw; (try dsimp only at hSw); go_simp; try (with_reducible rfl))
  simp only [Act.put, List.setIfInBounds_toArray, List.set_cons_zero, List.set_cons_succ]
  refine wpAnyH_take (i := 6) (oi := ⟨some 12, _, _, _, _, _⟩) (v := ?vu6) rfl (by kernel_rfl) (by kernel_rfl) (by kernel_rfl) (fun _ _ _ h => h) (Or.inl ⟨by rfl, ?yu6⟩) hHeld ?ru6
  case yu6 => (intro w' hSw; (try dsimp only at hSw); go_simp; try (with_reducible rfl))
  simp only [Act.put, List.setIfInBounds_toArray, List.set_cons_zero, List.set_cons_succ]
  refine wpAnyH_take (i := 7) (oi := ⟨some 13, _, _, _, _, _⟩) (v := ?vu7) rfl (by kernel_rfl) (by kernel_rfl) (by kernel_rfl) (fun _ _ _ h => h) (Or.inl ⟨by rfl, ?yu7⟩) hHeld ?ru7
  case yu7 => (intro w' hSw; (try dsimp only at hSw); go_simp; try (with_reducible rfl))
  simp only [Act.put, List.setIfInBounds_toArray, List.set_cons_zero, List.set_cons_succ]
  refine wpAnyH_take (i := 8) (oi := ⟨some 14, _, _, _, _, _⟩) (v := ?vu8) rfl (by kernel_rfl) (by kernel_rfl) (by kernel_rfl) (fun _ _ _ h => h) (Or.inl ⟨by rfl, ?yu8⟩) hHeld ?ru8
  case yu8 => (intro w' hSw; (try dsimp only at hSw); go_simp; try (with_reducible rfl))
  simp only [Act.put, List.setIfInBounds_toArray, List.set_cons_zero, List.set_cons_succ]
  refine wpAnyH_take (i := 9) (oi := ⟨some 15, _, _, _, _, _⟩) (v := ?vu9) rfl (by kernel_rfl) (by kernel_rfl) (by kernel_rfl) (fun _ _ _ h => h) (Or.inl ⟨by rfl, ?yu9⟩) hHeld ?ru9
  case yu9 => (intro w' hSw; (try dsimp only at hSw); go_simp; try (with_reducible rfl))
  simp only [Act.put, List.setIfInBounds_toArray, List.set_cons_zero, List.set_cons_succ]
  refine wpAnyH_take (i := 10) (oi := ⟨some 16, _, _, _, _, _⟩) (v := ?vu10) rfl (by kernel_rfl) (by kernel_rfl) (by kernel_rfl) (fun _ _ _ h => h) (Or.inl ⟨by rfl, ?yu10⟩) hHeld ?ru10
  case yu10 => (intro w' hSw; (try dsimp only at hSw); go_simp; try (with_reducible rfl))
  simp only [Act.put, List.setIfInBounds_toArray, List.set_cons_zero, List.set_cons_succ]
  refine wpAnyH_take (i := 13) (oi := ⟨some 19, _, _, _, _, _⟩) (v := ?vu13) rfl (by kernel_rfl) (by kernel_rfl) (by kernel_rfl) (fun _ _ _ h => h) (Or.inl ⟨by rfl, ?yu13⟩) hHeld ?ru13
  case yu13 => (intro w' hSw; (try dsimp only at hSw); go_simp; try (with_reducible rfl))
  simp only [Act.put, List.setIfInBounds_toArray, List.set_cons_zero, List.set_cons_succ]
  refine wpAnyH_take (i := 14) (oi := ⟨some 20, _, _, _, _, _⟩) (v := ?vu14) rfl (by kernel_rfl) (by kernel_rfl) (by kernel_rfl) (fun _ _ _ h => h) (Or.inl ⟨by rfl, ?yu14⟩) hHeld ?ru14
  case yu14 => (intro w' hSw; (try dsimp only at hSw); go_simp; try (with_reducible rfl))
  simp only [Act.put, List.setIfInBounds_toArray, List.set_cons_zero, List.set_cons_succ]
  refine wpAnyH_ready (rs := [5]) (by kernel_rfl) (by simp) ?_
  refine AllReadyH.cons (o := ⟨some 11, _, _, _, _, _⟩) rfl (fun K hK => ?_) AllReadyH.nil
  go_simp
  (with_reducible refine (ones_g ci.ch ci.cl oi _ HI.out).mono ?_)
  rintro e wq5 ⟨rfl, hb⟩
  (try dsimp only)
  refine hK.out _ _ (KEEP _ _ hb hHeld) (fun hNext => ?_)
  clear hK K hHeld hb
  have hHeld := hNext
  clear hNext
  try simp only [Act.put, List.setIfInBounds_toArray, List.set_cons_zero, List.set_cons_succ]
  refine wpAnyH_ready (rs := [11]) (by kernel_rfl) (by simp) ?_
  refine AllReadyH.cons (o := ⟨some 17, _, _, _, _, _⟩) rfl (fun K hK => ?_) AllReadyH.nil
  go_simp
  (with_reducible refine (ones_g cj.ch cj.cl oj _ HJ.out).mono ?_)
  rintro e wq11 ⟨rfl, hb⟩
  (try dsimp only)
  refine hK.out _ _ (KEEP _ _ hb hHeld) (fun hNext => ?_)
  clear hK K hHeld hb
  have hHeld := hNext
  clear hNext
  try simp only [Act.put, List.setIfInBounds_toArray, List.set_cons_zero, List.set_cons_succ]
  refine wpAnyH_ready (rs := [12]) (by kernel_rfl) (by simp) ?_
  refine AllReadyH.cons (o := ⟨some 18, _, _, _, _, _⟩) rfl (fun K hK => ?_) AllReadyH.nil
  go_simp
  (with_reducible refine (cmpI_g _ _ x _ hx).mono ?_)
  rintro e wq12 ⟨rfl, hb⟩
  (try dsimp only)
  refine hK.out _ _ (KEEP _ _ hb hHeld) (fun hNext => ?_)
  clear hK K hHeld hb
  have hHeld := hNext
  clear hNext
  try simp only [Act.put, List.setIfInBounds_toArray, List.set_cons_zero, List.set_cons_succ]
  refine wpAnyH_ready (rs := [15]) (by kernel_rfl) (by simp) ?_
  refine AllReadyH.cons (o := ⟨some 21, _, _, _, _, _⟩) rfl (fun K hK => ?_) AllReadyH.nil
  go_simp
  (with_reducible refine (cmpI_g _ _ y _ hy).mono ?_)
  rintro e wq15 ⟨rfl, hb⟩
  (try dsimp only)
  refine hK.out _ _ (KEEP _ _ hb hHeld) (fun hNext => ?_)
  clear hK K hHeld hb
  have hHeld := hNext
  clear hNext
  try simp only [Act.put, List.setIfInBounds_toArray, List.set_cons_zero, List.set_cons_succ]
  refine wpAnyH_ready (rs := [16]) (by kernel_rfl) (by simp) ?_
  refine AllReadyH.cons (o := ⟨some 22, _, _, _, _, _⟩) rfl (fun K hK => ?_) AllReadyH.nil
  go_simp
  have hb := Grew.alloc1 wq15 (.cells #[.int .i64 x, .int .i64 y] 3)
  have N : Blk (wq15.alloc (.cells #[.int .i64 x, .int .i64 y] 3)) wq15.heap.size 3 #[.int .i64 x, .int .i64 y] := Blk.new wq15 _ _
  have n0 := N.cell 0
  have n1 := N.cell 1
  refine hK.out _ _ (KEEP _ _ hb hHeld) (fun hNext => ?_)
  clear hK K hHeld hb N
  have hHeld := hNext
  clear hNext
  try simp only [Act.put, List.setIfInBounds_toArray, List.set_cons_zero, List.set_cons_succ]
  refine wpAnyH_ready (rs := [17]) (by kernel_rfl) (by simp) ?_
  refine AllReadyH.cons (o := ⟨some 23, _, _, _, _, _⟩) rfl (fun K hK => ?_) AllReadyH.nil
  go_simp
  (with_reducible refine (or2_g x y r _ _ hr ⟨n0, n1⟩).mono ?_)
  rintro e wq17 ⟨rfl, hb⟩
  (try dsimp only)
  refine hK.out _ _ (KEEP _ _ hb hHeld) (fun hNext => ?_)
  clear hK K hHeld hb
  have hHeld := hNext
  clear hNext
  try simp only [Act.put, List.setIfInBounds_toArray, List.set_cons_zero, List.set_cons_succ]
  refine wpAnyH_take (i := 18) (oi := ⟨some 5, _, _, _, _, _⟩) (v := ?vu18) rfl (by kernel_rfl) (by kernel_rfl) (by kernel_rfl) (fun _ _ _ h => h) (Or.inl ⟨by rfl, ?yu18⟩) hHeld ?ru18
  case yu18 => (intro w' hSw; (try dsimp only at hSw); go_simp; try (with_reducible rfl))
  simp only [Act.put, List.setIfInBounds_toArray, List.set_cons_zero, List.set_cons_succ]
  refine wpAnyH_done (by kernel_rfl) ?_ _
  clear KEEP
  have G := hHeld.1
  clear hHeld
  go_wp2
  go_ret
  exact ⟨rfl, G⟩
end Go.Proofs

namespace Go.Proofs.Hd
open Go.RowKit
/-- Numbers as cells. -/
def ints (ks : List Nat) : List Value := ks.map fun (k : Nat) => Value.int .i64 (k : Int)
theorem ints_len (ks : List Nat) : (ints ks).length = ks.length := by simp [ints]
theorem ints_snoc (ks : List Nat) (k : Nat) : ints (ks ++ [k]) = ints ks ++ [.int .i64 (k : Int)] := by simp [ints]
/-- v is a slice that reads as the numbers ks. -/
def PlI (w : World) (v : Value) (ks : List Nat) : Prop := (ks = [] ∧ ∃ A cap, v = .slice A 0 cap) ∨ ∃ g cap, v = .slice (some ⟨g, 0, none⟩) ks.length cap ∧ g < w.heap.size ∧ ∀ (j k : Nat), ks[j]? = some k → w.cell? ⟨g, j, none⟩ = some (.int .i64 (k : Int))
theorem PlI.on {w w' : World} {v : Value} {ks : List Nat} (h : PlI w v ks) (hb : Below w.heap.size w w') : PlI w' v ks := by
  rcases h with h | ⟨g, cap, e, hg, h⟩
  · exact .inl h
  · exact .inr ⟨g, cap, e, Nat.lt_of_lt_of_le hg hb.size, fun j k hk => on_some hb (h j k hk)⟩
end Go.Proofs.Hd
