/-
  Contract of cube.Less: the difference of two cubes as a list. Conditions as each theorem lists them.
  Contracts of cube.Field: the field's cube, or an error. Conditions as each theorem lists them.
  The function awake of the laws of layer 2 returns true. No conditions.
  The law CubeParts returns true for all cubes and headers, and changes nothing that was there. No conditions.
  Contract of table.Find: the first rule that is tried and whose match has the header. Conditions as each theorem lists them.
  Contracts of slices.insertionSortCmpFunc and slices.pdqsortCmpFunc at ints, by a comparison that is a method bound to its receiver, for at most twelve elements. Conditions as each theorem lists them.
  The library's contracts of slices.SortFunc and slices.Sort lie at this program: their functions' bodies are compared by the kernel. No conditions.
  Contract of (table.rules).tried: the places of at most twelve rules as they are tried. Conditions as each theorem lists them.
  Plain mathematics on lists of cubes: which cubes are spare, and that a list without them has the same headers. No program in sight. Conditions as each theorem lists them.
  A slice of cubes in memory, wherever it lies; contracts of slices.IndexFunc and slices.ContainsFunc over cubes, and of pile.Sound and pile.Has. Conditions as each theorem lists them.
  Contracts of slices.IndexFunc and slices.ContainsFunc at rules, of (table.rules).sound and of slices.Index at ints. Conditions as each theorem lists them.
  The order of pile.widestFirst: contracts of cmp.Compare and cmp.Or at ints, of head.Ones and of the comparing closure, each with what it adds to memory. Conditions as each theorem lists them.
-/
import Derived.Test.YtmlammdipbkkfaaJ5
import Derived.Deep.RegionHeld3
import Derived.Deep.LoopGhost
import Derived.Deep.DeepCutAuto
import Derived.Deep.Light
import Derived.OwnWalk
import Derived.Lib.Hide
import Derived.Shelf.SlSortCmp.Kit1
import Derived.Sort.WalkA
import Derived.Sort.WalkB2
import Derived.Sort.WalkB12
import Derived.Shelf.SlSortCmp.NoneTotal
import Derived.Shelf.Sort.Plain
import Derived.Test.YtmlammdipbkkfaaProg
import Derived.Laws.MakeOwn
import Derived.Deep.AppendLies
import Derived.Shelf.GgClosure.Gives
import Derived.Sort.Grow
namespace Go.Proofs
open Go.RowKit Go.Proofs.Hd
attribute [local go_sem] uv_and uv_or uv_xor uv_andNot uv_shr uv_shl uv_add uv_sub uv_nonneg
attribute [local go_sem high] run_eq2 run_eq4
theorem bdrew (w : World) : Below w.heap.size w w.drew := (Below.refl _ _).drew
theorem infoCube : (Try.prog.info? 51).map (fun i => (i.zero, i.size, i.bytes)) = some (some (.agg #[.int .u64 0, .int .u64 0, .int .u64 0, .int .u64 0]), 4, 32) := by kernel_rfl
set_option maxHeartbeats 2000000 in
theorem less_no1 (a b : Cb) (w : World) (h1 : sndB a.vh a.vl a.ch a.cl = false) :
    Calls Try.prog 70 #[.agg #[.int .u64 (uv a.vh), .int .u64 (uv a.vl), .int .u64 (uv a.ch), .int .u64 (uv a.cl)], .agg #[.int .u64 (uv b.vh), .int .u64 (uv b.vl), .int .u64 (uv b.ch), .int .u64 (uv b.cl)]] w fun e w' => e = .returned (.slice none 0 0) ∧ Below w.heap.size w w' := by
  have T0 := Tw.start w a b
  have E0 := T0.eqs
  go_enter Try.func70, Try.ntmps70
  go_wp2_with fail
  (with_reducible refine (sound_c _ _ _ _ _).mono ?_)
  rintro e w1 ⟨rfl, hb1⟩
  have T1 := T0.on hb1
  have E1 := T1.eqs
  clear hb1 E0
  go_wp2
  go_ret
  exact ⟨rfl, T1.bel⟩

set_option maxHeartbeats 2000000 in
theorem less_no2 (a b : Cb) (w : World) (h1 : sndB a.vh a.vl a.ch a.cl = true) (h2 : sndB b.vh b.vl b.ch b.cl = false) :
    Calls Try.prog 70 #[.agg #[.int .u64 (uv a.vh), .int .u64 (uv a.vl), .int .u64 (uv a.ch), .int .u64 (uv a.cl)], .agg #[.int .u64 (uv b.vh), .int .u64 (uv b.vl), .int .u64 (uv b.ch), .int .u64 (uv b.cl)]] w fun e w' => e = .returned (.slice none 0 0) ∧ Below w.heap.size w w' := by
  have T0 := Tw.start w a b
  have E0 := T0.eqs
  go_enter Try.func70, Try.ntmps70
  go_wp2_with fail
  (with_reducible refine (sound_c _ _ _ _ _).mono ?_)
  rintro e w1 ⟨rfl, hb1⟩
  have T1 := T0.on hb1
  have E1 := T1.eqs
  clear hb1 E0
  go_wp2_with fail
  (with_reducible refine (sound_c _ _ _ _ _).mono ?_)
  rintro e w2 ⟨rfl, hb2⟩
  have T2 := T1.on hb2
  have E2 := T2.eqs
  clear hb2 E1
  go_wp2
  go_ret
  exact ⟨rfl, T2.bel⟩

set_option maxHeartbeats 2000000 in
theorem less_all (a b : Cb) (w : World) (h1 : sndB a.vh a.vl a.ch a.cl = true) (h2 : sndB b.vh b.vl b.ch b.cl = true) (h3 : agrB a.vh a.vl a.ch a.cl b.vh b.vl b.ch b.cl = false) :
    Calls Try.prog 70 #[.agg #[.int .u64 (uv a.vh), .int .u64 (uv a.vl), .int .u64 (uv a.ch), .int .u64 (uv a.cl)], .agg #[.int .u64 (uv b.vh), .int .u64 (uv b.vl), .int .u64 (uv b.ch), .int .u64 (uv b.cl)]] w (Got w [a]) := by
  have T0 := Tw.start w a b
  have E0 := T0.eqs
  go_enter Try.func70, Try.ntmps70
  go_wp2_with fail
  (with_reducible refine (sound_c _ _ _ _ _).mono ?_)
  rintro e w1 ⟨rfl, hb1⟩
  have T1 := T0.on hb1
  have E1 := T1.eqs
  clear hb1 E0
  go_wp2_with fail
  (with_reducible refine (sound_c _ _ _ _ _).mono ?_)
  rintro e w2 ⟨rfl, hb2⟩
  have T2 := T1.on hb2
  have E2 := T2.eqs
  clear hb2 E1
  go_wp2_with fail
  (with_reducible refine (agree_c _ _ _ _ _ _ _ _ _).mono ?_)
  rintro e w3 ⟨rfl, hb3⟩
  have T3 := T2.on hb3
  have E3 := T3.eqs
  clear hb3 E2
  go_wp2

  go_ret
  exact ⟨_, rfl, World.ownsRow_lit w3 a.arr 1 T3.bel.size (by decide) rfl, T3.bel.alloc T3.bel.size _⟩

set_option maxHeartbeats 2000000 in
theorem less_some (a b : Cb) (w : World) (h1 : sndB a.vh a.vl a.ch a.cl = true) (h2 : sndB b.vh b.vl b.ch b.cl = true) (h3 : agrB a.vh a.vl a.ch a.cl b.vh b.vl b.ch b.cl = true) :
    Calls Try.prog 70 #[.agg #[.int .u64 (uv a.vh), .int .u64 (uv a.vl), .int .u64 (uv a.ch), .int .u64 (uv a.cl)], .agg #[.int .u64 (uv b.vh), .int .u64 (uv b.vl), .int .u64 (uv b.ch), .int .u64 (uv b.cl)]] w (Got w (lessP b a (openBits a b))) := by
  obtain ⟨tgt, htgt⟩ : ∃ t, t = lessP b a (openBits a b) := ⟨_, rfl⟩
  rw [← htgt]
  have HTG := Lib.hid htgt
  clear htgt
  have T0 := Tw.start w a b
  have E0 := T0.eqs
  go_enter Try.func70, Try.ntmps70
  go_wp2_with fail
  (with_reducible refine (sound_c _ _ _ _ _).mono ?_)
  rintro e w1 ⟨rfl, hb1⟩
  have T1 := T0.on hb1
  have E1 := T1.eqs
  clear hb1 E0
  go_wp2_with fail
  (with_reducible refine (sound_c _ _ _ _ _).mono ?_)
  rintro e w2 ⟨rfl, hb2⟩
  have T2 := T1.on hb2
  have E2 := T2.eqs
  clear hb2 E1
  go_wp2_with fail
  (with_reducible refine (agree_c _ _ _ _ _ _ _ _ _).mono ?_)
  rintro e w3 ⟨rfl, hb3⟩
  have T3 := T2.on hb3
  have E3 := T3.eqs
  clear hb3 E2
  go_wp2_with fail
  (with_reducible refine (less_c _ _ _ _ _).mono ?_)
  rintro e w4 ⟨rfl, hb4⟩
  have T4 := T3.on hb4
  have E4 := T4.eqs
  clear hb4 E3
  have HT := Lib.hid (T4.loop (b.ch &&& ~~~a.ch) (b.cl &&& ~~~a.cl))
  clear T0 T1 T2 T3 T4 h1 h2 h3 E4
  go_wp2_with fail
  go_loopg [5, 6] (openBits a b).length (fun n v p wr => ∃ (ks : List Nat) (ac : Cb) (L : List Cb) (g : Nat) (lh ll : BitVec 64), n = ks.length ∧ p = .pointer (some ⟨g, 0, none⟩) ∧ Hid (bitsDown (hbit lh ll) 128 = ks) ∧ Hid (L ++ lessP b ac ks = tgt) ∧ L.length + ks.length ≤ 128 ∧ Lw w wr ac b g lh ll v L)
  case atStart => exact ⟨openBits a b, a, [], w4.heap.size, _, _, rfl, rfl, Lib.hid rfl, Lib.hid HTG.out.symm, Nat.le_trans (Nat.le_of_eq (Nat.zero_add _)) (bitsDown_len _ 128), HT.out⟩
  case round =>
    clear HT
    obtain ⟨ks, ac, L, g, lh, ll, rfl, rfl, HK, HL, hlen, H⟩ := hrel
    have E := H.eqs
    cases ks with
    | nil =>
      have z := pair_zero HK.out
      go_wp2
      go_ret
      exact ⟨_, rfl, by have e := HL.out; simp only [lessP, List.append_nil] at e; rw [← e]; exact H.own.mono (by omega), H.bel⟩
    | cons k ks =>
      have z := pair_some HK.out
      go_wp2_with fail
      (with_reducible refine (highest_c lh ll k ks _ HK.out).mono ?_)
      rintro e w5 ⟨rfl, hb5⟩
      have H5 := H.on hb5
      have E5 := H5.eqs
      have L5 : g < w5.heap.size := H5.bg.lt
      have LB : w.heap.size + 1 < w5.heap.size := H5.bb.lt
      clear H E hb5 z
      go_wp2_with fail
      (with_reducible refine (less_c _ _ _ _ _).mono ?_)
      rintro e w6 ⟨rfl, hb6⟩
      have H6 := (H5.on (below1 w5 (.cells #[.int .u64 (uv (oneH k)), .int .u64 (uv (oneL k))] 25))).on hb6
      have X6 : Blk w6 w5.heap.size 25 (hArr (oneH k) (oneL k)) := (Blk.new w5 25 (hArr (oneH k) (oneL k))).on hb6
      have E6 := H6.eqs
      have x6 := X6.two
      clear H5 E5 hb6
      go_upto_region 10 with (fail)
      have n56 : w5.heap.size ≠ g := by omega
      have H7 := H6.setL (lh &&& ~~~oneH k) (ll &&& ~~~oneL k)
      have X7 : Blk ((w6.setCell ⟨g, 0, none⟩ (.int .u64 (uv (lh &&& ~~~oneH k)))).setCell ⟨g, 1, none⟩ (.int .u64 (uv (ll &&& ~~~oneL k)))) w5.heap.size 25 (hArr (oneH k) (oneL k)) := (X6.far n56 _).far n56 _
      generalize ((w6.setCell ⟨g, 0, none⟩ (.int .u64 (uv (lh &&& ~~~oneH k)))).setCell ⟨g, 1, none⟩ (.int .u64 (uv (ll &&& ~~~oneL k)))) = w7 at H7 X7 ⊢
      clear H6 E6 X6 x6
      have E7 := H7.eqs
      have x7 := X7.two
      go_wp2_with fail
      (with_reducible refine (and_c _ _ _ _ _).mono ?_)
      rintro e w8 ⟨rfl, hb8⟩
      have H8 := H7.on hb8
      have X8 := X7.on hb8
      have E8 := H8.eqs
      clear H7 X7 E7 x7 hb8
      go_upto_region 11 with (fail)
      have bl8 := below1 w8 (.cells #[.int .u64 (uv (b.vh &&& oneH k)), .int .u64 (uv (b.vl &&& oneL k))] 25)
      have H9 := H8.on bl8
      have X9 := X8.on bl8
      have Y9 : Blk (w8.alloc (.cells #[.int .u64 (uv (b.vh &&& oneH k)), .int .u64 (uv (b.vl &&& oneL k))] 25)) w8.heap.size 25 (hArr (b.vh &&& oneH k) (b.vl &&& oneL k)) := Blk.new w8 _ _
      generalize (w8.alloc (.cells #[.int .u64 (uv (b.vh &&& oneH k)), .int .u64 (uv (b.vl &&& oneL k))] 25)) = w9 at H9 X9 Y9 ⊢
      clear H8 X8 E8 bl8
      obtain ⟨i0, hi0, hz0, hz1, hz2⟩ := info_parts infoCube
      refine wp_region_held_drew (S := fun w' => Below w.heap.size w w' ∧ w'.cell? ⟨w.heap.size, 0, none⟩ = some (.int .u64 (uv ac.vh)) ∧ w'.cell? ⟨w.heap.size, 1, none⟩ = some (.int .u64 (uv ac.vl)) ∧ w'.cell? ⟨w.heap.size, 2, none⟩ = some (.int .u64 (uv ac.ch)) ∧ w'.cell? ⟨w.heap.size, 3, none⟩ = some (.int .u64 (uv ac.cl)) ∧ w'.cell? ⟨w5.heap.size, 0, none⟩ = some (.int .u64 (uv (oneH k))) ∧ w'.cell? ⟨w5.heap.size, 1, none⟩ = some (.int .u64 (uv (oneL k))) ∧ w'.cell? ⟨w8.heap.size, 0, none⟩ = some (.int .u64 (uv (b.vh &&& oneH k))) ∧ w'.cell? ⟨w8.heap.size, 1, none⟩ = some (.int .u64 (uv (b.vl &&& oneL k)))) (by kernel_rfl) ⟨H9.bel.drew, H9.ba.cell 0, H9.ba.cell 1, H9.ba.cell 2, H9.ba.cell 3, X9.cell 0, X9.cell 1, Y9.cell 0, Y9.cell 1⟩ (fun hHeld => ?_)
      have H10 := H9.on (bdrew w9)
      have X10 := X9.on (bdrew w9)
      have Y10 := Y9.on (bdrew w9)
      clear H9 X9 Y9
      refine wpAnyH_take (i := 0) (oi := ⟨some 40, _, _, _, _, _⟩) (v := ?vq0) rfl (by kernel_rfl) (by kernel_rfl) (by kernel_rfl) (fun _ _ _ h => h) (Or.inl ⟨by rfl, ?yq0⟩) hHeld ?rq0
      case yq0 => (intro w' hSw; (try dsimp only at hSw); go_simp; try (with_reducible rfl))
      simp only [Act.put, List.setIfInBounds_toArray, List.set_cons_zero, List.set_cons_succ]
      refine wpAnyH_take (i := 1) (oi := ⟨some 41, _, _, _, _, _⟩) (v := ?vq1) rfl (by kernel_rfl) (by kernel_rfl) (by kernel_rfl) (fun _ _ _ h => h) (Or.inl ⟨by rfl, ?yq1⟩) hHeld ?rq1
      case yq1 => (intro w' hSw; (try dsimp only at hSw); go_simp; try (with_reducible rfl))
      simp only [Act.put, List.setIfInBounds_toArray, List.set_cons_zero, List.set_cons_succ]
      refine wpAnyH_take (i := 2) (oi := ⟨some 42, _, _, _, _, _⟩) (v := ?vq2) rfl (by kernel_rfl) (by kernel_rfl) (by kernel_rfl) (fun _ _ _ h => h) (Or.inl ⟨by rfl, ?yq2⟩) hHeld ?rq2
      case yq2 => (intro w' hSw; (try dsimp only at hSw); go_simp; try (with_reducible rfl))
      simp only [Act.put, List.setIfInBounds_toArray, List.set_cons_zero, List.set_cons_succ]
      refine wpAnyH_take (i := 3) (oi := ⟨some 43, _, _, _, _, _⟩) (v := ?vq3) rfl (by kernel_rfl) (by kernel_rfl) (by kernel_rfl) (fun _ _ _ h => h) (Or.inl ⟨by rfl, ?yq3⟩) hHeld ?rq3
      case yq3 => (intro w' hSw; (try dsimp only at hSw); go_simp; try (with_reducible rfl))
      simp only [Act.put, List.setIfInBounds_toArray, List.set_cons_zero, List.set_cons_succ]
      refine wpAnyH_take (i := 4) (oi := ⟨some 44, _, _, _, _, _⟩) (v := ?vq4) rfl (by kernel_rfl) (by kernel_rfl) (by kernel_rfl) (fun _ _ _ h => h) (Or.inl ⟨by rfl, ?yq4⟩) hHeld ?rq4
      case yq4 => (intro w' hSw; (try dsimp only at hSw); go_simp; try (with_reducible rfl))
      simp only [Act.put, List.setIfInBounds_toArray, List.set_cons_zero, List.set_cons_succ]
      refine wpAnyH_ready (rs := [5]) (by kernel_rfl) (by simp) ?_
      refine AllReadyH.cons (o := ⟨some 45, _, _, _, _, _⟩) rfl (fun K hK => ?_) AllReadyH.nil
      go_simp
      (with_reducible refine (xor_c _ _ _ _ _).mono ?_)
      rintro e wq5 ⟨rfl, hb⟩
      have H11 := H10.on hb
      have X11 := X10.on hb
      have Y11 := Y10.on hb
      (try dsimp only)
      refine hK.out _ _ (hold8 hb hHeld) (fun hNext => ?_)
      clear hK K hHeld hb
      have hHeld := hNext
      clear hNext
      try simp only [Act.put, List.setIfInBounds_toArray, List.set_cons_zero, List.set_cons_succ]
      refine wpAnyH_ready (rs := [6]) (by kernel_rfl) (by simp) ?_
      refine AllReadyH.cons (o := ⟨some 46, _, _, _, _, _⟩) rfl (fun K hK => ?_) AllReadyH.nil
      go_simp
      (with_reducible refine (withBit_c _ _ _ _ _ _ _ _ _).mono ?_)
      rintro e wq6 ⟨rfl, hb⟩
      have H12 := H11.on hb
      have X12 := X11.on hb
      have Y12 := Y11.on hb
      (try dsimp only)
      refine hK.out _ _ (hold8 hb hHeld) (fun hNext => ?_)
      clear hK K hHeld hb
      have hHeld := hNext
      clear hNext
      try simp only [Act.put, List.setIfInBounds_toArray, List.set_cons_zero, List.set_cons_succ]
      refine wpAnyH_ready (rs := [7]) (by kernel_rfl) (by simp) ?_
      refine AllReadyH.cons (o := ⟨some 47, _, _, _, _, _⟩) rfl (fun K hK => ?_) AllReadyH.nil
      go_simp
      have hb := below1 wq6 (.cells (wOther ac b k).arr 51)
      have H13 := H12.on hb
      have X13 := X12.on hb
      have Y13 := Y12.on hb
      have N13 : Blk (wq6.alloc (.cells (wOther ac b k).arr 51)) wq6.heap.size 51 (wOther ac b k).arr := Blk.new wq6 _ _
      refine hK.out _ _ (hold8 hb hHeld) (fun hNext => ?_)
      clear hb
      clear hK K hHeld
      have hHeld := hNext
      clear hNext
      try simp only [Act.put, List.setIfInBounds_toArray, List.set_cons_zero, List.set_cons_succ]
      refine wpAnyH_ready (rs := [8]) (by kernel_rfl) (by simp) ?_
      refine AllReadyH.cons (o := ⟨some 48, _, _, _, _, _⟩) rfl (fun K hK => ?_) AllReadyH.nil
      refine step_append_lies _ rfl (.tmp 40) (.tmp 47) 44 rfl (w.heap.size + 2) 51 i0 _ 4 32 Try.underlying44 hi0 hz0 hz1 hz2 rfl (by decide) _ L.length (flat L) rfl H13.own ⟨wq6.heap.size, 0, none⟩ 1 1 (wOther ac b k).cells rfl rfl (World.news_of_block N13) (by intro u hu; simp only [Cb.cells, List.mem_cons, List.not_mem_nil, or_false] at hu; rcases hu with rfl | rfl | rfl | rfl <;> rfl) (by omega) (by simp at hlen; unfold maxLen; omega) (by simp at hlen; omega) (Nat.le_trans H13.bb.lt (Nat.le_refl _)) _ rfl ?_
      intro g2 cap w14 hown hgrow hat hlt
      have H14 := H13.append hgrow hown
      have X14 := X13.grown hgrow (own_apart H13.own X13 (by decide))
      have Y14 := Y13.grown hgrow (own_apart H13.own Y13 (by decide))
      refine hK.out _ _ ⟨H14.bel, H14.ba.cell 0, H14.ba.cell 1, H14.ba.cell 2, H14.ba.cell 3, X14.cell 0, X14.cell 1, Y14.cell 0, Y14.cell 1⟩ (fun hNext => ?_)
      clear hK K hHeld
      have hHeld := hNext
      clear hNext
      try simp only [Act.put, List.setIfInBounds_toArray, List.set_cons_zero, List.set_cons_succ]
      refine wpAnyH_take (i := 9) (oi := ⟨some 5, _, _, _, _, _⟩) (v := ?vq9) rfl (by kernel_rfl) (by kernel_rfl) (by kernel_rfl) (fun _ _ _ h => h) (Or.inl ⟨by rfl, ?yq9⟩) hHeld ?rq9
      case yq9 => (intro w' hSw; (try dsimp only at hSw); go_simp; try (with_reducible rfl))
      simp only [Act.put, List.setIfInBounds_toArray, List.set_cons_zero, List.set_cons_succ]
      refine wpAnyH_done (by kernel_rfl) ?_ _
      have E14 := H14.eqs
      have x14 := X14.two
      have y14 := Y14.two
      clear hHeld hi0 hz0 hz1 hz2 H10 X10 Y10 H11 X11 Y11 H12 X12 Y12 H13 X13 Y13 hown hgrow hat hlt
      go_wp2_with fail
      (with_reducible refine (withBit_c _ _ _ _ _ _ _ _ _).mono ?_)
      rintro e w15 ⟨rfl, hb15⟩
      have H15 := H14.on hb15
      have E15 := H15.eqs
      clear H14 X14 Y14 E14 x14 y14 hb15
      go_upto_region 13 with (fail)
      have H16 := H15.setA (wSame ac b k)
      unfold wSame at H16
      dsimp only at H16
      generalize ((((w15.setCell ⟨w.heap.size, 0, none⟩ (.int .u64 (uv (ac.vh ||| (b.vh &&& oneH k))))).setCell ⟨w.heap.size, 1, none⟩ (.int .u64 (uv (ac.vl ||| (b.vl &&& oneL k))))).setCell ⟨w.heap.size, 2, none⟩ (.int .u64 (uv (ac.ch ||| oneH k)))).setCell ⟨w.heap.size, 3, none⟩ (.int .u64 (uv (ac.cl ||| oneL k)))) = w16 at H16 ⊢
      have E16 := H16.eqs
      clear H15 E15
      go_wp2
      go_roundg ks.length
      case measure => simp
      case rel =>
        refine ⟨ks, wSame ac b k, L ++ [wOther ac b k], w16.heap.size, _, _, rfl, rfl, Lib.hid (next_bits HK.out), Lib.hid ?_, ?_, H16.newL _ _ H16.bb.lt⟩
        · have e := HL.out
          rw [lessP] at e
          simpa using e
        · simp at hlen ⊢; omega
end Go.Proofs

namespace Go.Proofs
open Go.RowKit Go.Proofs.Hd
attribute [local go_sem] uv_nonneg

end Go.Proofs

namespace Go.Proofs
open Go.RowKit Go.Proofs.Hd
attribute [local go_sem] uv_nonneg eq4_self
attribute [local go_sem high] run_eq2 run_eq4

theorem k_less (w : World) : Calls Try.prog 70 #[.agg #[.int .u64 0, .int .u64 240, .int .u64 0, .int .u64 240], .agg #[.int .u64 0, .int .u64 1, .int .u64 0, .int .u64 3]] w fun e w' => ∃ g cap, e = .returned (.slice (some ⟨g, 0, none⟩) 2 cap) ∧ Below w.heap.size w w' := by
  have h := less_some ⟨0#64, 240#64, 0#64, 240#64⟩ ⟨0#64, 1#64, 0#64, 3#64⟩ w (by decide +kernel) (by decide +kernel) (by decide +kernel)
  refine Calls.mono h fun e w' hg => ?_
  obtain ⟨v, rfl, ho, hb⟩ := hg
  have e1 : (lessP ⟨0#64, 1#64, 0#64, 3#64⟩ ⟨0#64, 240#64, 0#64, 240#64⟩ (openBits ⟨0#64, 240#64, 0#64, 240#64⟩ ⟨0#64, 1#64, 0#64, 3#64⟩)).length = 2 := by
    rw [lessP_len]; decide +kernel
  rw [e1] at ho
  obtain ⟨g, cap, rfl, _, _⟩ := ho.form (by omega)
  exact ⟨g, cap, rfl, hb⟩
theorem k_has (w : World) : Calls Try.prog 25 #[.agg #[.int .u64 0, .int .u64 240, .int .u64 0, .int .u64 240], .agg #[.int .u64 0, .int .u64 247]] w fun e w' => e = .returned (.bool true) ∧ Below w.heap.size w w' := by
  have h := has_c 0#64 240#64 0#64 240#64 0#64 247#64 w
  rw [show hasB 0#64 240#64 0#64 240#64 0#64 247#64 = true by decide +kernel] at h
  exact h
theorem k_sound (w : World) : Calls Try.prog 40 #[.agg #[.int .u64 0, .int .u64 240, .int .u64 0, .int .u64 240]] w fun e w' => e = .returned (.bool true) ∧ Below w.heap.size w w' := by
  have h := sound_c 0#64 240#64 0#64 240#64 w
  rw [show sndB 0#64 240#64 0#64 240#64 = true by decide +kernel] at h
  exact h
theorem k_within (w : World) : Calls Try.prog 67 #[.agg #[.int .u64 0, .int .u64 51, .int .u64 0, .int .u64 255], .agg #[.int .u64 0, .int .u64 0, .int .u64 0, .int .u64 0]] w fun e w' => e = .returned (.bool true) ∧ Below w.heap.size w w' := by
  have h := within_yes 0#64 51#64 0#64 255#64 0#64 0#64 0#64 0#64 w (by decide +kernel) (by decide +kernel) (by rw [eq2_uv]; decide +kernel)
  rw [show agrB 0#64 51#64 0#64 255#64 0#64 0#64 0#64 0#64 = true by decide +kernel] at h
  exact h

end Go.Proofs

namespace Go.Proofs
open Go.RowKit Go.Proofs.Hd
attribute [local go_sem] uv_nonneg eq4_self eq2_self
attribute [local go_sem high] run_eq2 run_eq4
theorem csound (x : Bool) (c : Cb) (w : World) (h : c.snd = x) : Calls Try.prog 40 #[.agg #[.int .u64 (uv c.vh), .int .u64 (uv c.vl), .int .u64 (uv c.ch), .int .u64 (uv c.cl)]] w fun e w' => e = .returned (.bool x) ∧ Below w.heap.size w w' := by
  subst h; exact sound_c _ _ _ _ _
theorem chas (x : Bool) (c : Cb) (hh hl : BitVec 64) (w : World) (h : c.has hh hl = x) : Calls Try.prog 25 #[.agg #[.int .u64 (uv c.vh), .int .u64 (uv c.vl), .int .u64 (uv c.ch), .int .u64 (uv c.cl)], .agg #[.int .u64 (uv hh), .int .u64 (uv hl)]] w fun e w' => e = .returned (.bool x) ∧ Below w.heap.size w w' := by
  subst h; exact has_c _ _ _ _ _ _ _
theorem cwithin (x : Bool) (c a : Cb) (w : World) (h : c.wit a = x) : Calls Try.prog 67 #[.agg #[.int .u64 (uv c.vh), .int .u64 (uv c.vl), .int .u64 (uv c.ch), .int .u64 (uv c.cl)], .agg #[.int .u64 (uv a.vh), .int .u64 (uv a.vl), .int .u64 (uv a.ch), .int .u64 (uv a.cl)]] w fun e w' => e = .returned (.bool x) ∧ Below w.heap.size w w' := by
  subst h; exact within_c _ _ _ _ _ _ _ _ _
theorem cless (a b : Cb) (w : World) (ha : a.snd = true) (hb : b.snd = true) : Calls Try.prog 70 #[.agg #[.int .u64 (uv a.vh), .int .u64 (uv a.vl), .int .u64 (uv a.ch), .int .u64 (uv a.cl)], .agg #[.int .u64 (uv b.vh), .int .u64 (uv b.vl), .int .u64 (uv b.ch), .int .u64 (uv b.cl)]] w (Got w (lessC a b)) := by
  unfold lessC
  cases h : a.agr b with
  | true => rw [if_pos rfl]; exact less_some a b w ha hb h
  | false => rw [if_neg (by simp)]; exact less_all a b w ha hb h
theorem cless_q (a b : Cb) (Q : List Cb) (w : World) (ha : a.snd = true) (hb : b.snd = true) (hq : lessC a b = Q) : Calls Try.prog 70 #[.agg #[.int .u64 (uv a.vh), .int .u64 (uv a.vl), .int .u64 (uv a.ch), .int .u64 (uv a.cl)], .agg #[.int .u64 (uv b.vh), .int .u64 (uv b.vl), .int .u64 (uv b.ch), .int .u64 (uv b.cl)]] w (Got w Q) := by
  subst hq; exact cless a b w ha hb
theorem chas_j (x : Bool) (a b : Cb) (hh hl : BitVec 64) (w : World) (h : (a.join b).has hh hl = x) : Calls Try.prog 25 #[.agg #[.int .u64 (uv (a.vh ||| b.vh)), .int .u64 (uv (a.vl ||| b.vl)), .int .u64 (uv (a.ch ||| b.ch)), .int .u64 (uv (a.cl ||| b.cl))], .agg #[.int .u64 (uv hh), .int .u64 (uv hl)]] w fun e w' => e = .returned (.bool x) ∧ Below w.heap.size w w' :=
  chas x (a.join b) hh hl w h
theorem flat_get (L : List Cb) (k : Nat) (hk : k < L.length) (j : Nat) (hj : j < 4) : (flat L)[k * 4 + j]? = (L[k]).cells[j]? := by
  induction L generalizing k with
  | nil => simp at hk
  | cons c L ih =>
    have e : flat (c :: L) = c.cells ++ flat L := by simp [flat]
    rw [e]
    cases k with
    | zero => rw [Nat.zero_mul, Nat.zero_add, List.getElem?_append_left (by simp [Cb.cells]; omega)]; rfl
    | succ k =>
      rw [List.getElem?_append_right (by simp [Cb.cells]; omega), show (k + 1) * 4 + j - c.cells.length = k * 4 + j by simp [Cb.cells]; omega]
      exact ih k (by simpa using hk)
theorem own_get {w : World} {base g cap : Nat} {t : TypeId} {L : List Cb} (h : w.ownsRow base t 4 (.slice (some ⟨g, 0, none⟩) L.length cap) L.length (flat L)) (k : Nat) (hk : k < L.length) (j : Nat) (hj : j < 4) : w.cell? ⟨g, k * 4 + j, none⟩ = (L[k]).cells[j]? :=
  (h.cellAt (k * 4 + j) (by omega)).trans (flat_get L k hk j hj)
theorem own_at {w : World} {base g cap : Nat} {t : TypeId} {L : List Cb} {c : Cb} (h : w.ownsRow base t 4 (.slice (some ⟨g, 0, none⟩) L.length cap) L.length (flat L)) (k : Nat) (hc : L[k]? = some c) (j : Nat) (hj : j < 4) : w.cell? ⟨g, k * 4 + j, none⟩ = c.cells[j]? := by
  obtain ⟨hk, rfl⟩ := List.getElem?_eq_some_iff.1 hc
  exact own_get h k hk j hj
theorem take_count (h l : BitVec 64) (L : List Cb) (k : Nat) (c : Cb) (hc : L[k]? = some c) : cntC h l (L.take (k + 1)) = cntC h l (L.take k) + (c.has h l).toNat := by
  obtain ⟨hk, rfl⟩ := List.getElem?_eq_some_iff.1 hc
  rw [List.take_succ_eq_append_getElem hk, cntC_snoc]
theorem cntC_le (h l : BitVec 64) (L : List Cb) : cntC h l L ≤ L.length := List.length_filter_le _ _
theorem own_form {w : World} {base : Nat} {t : TypeId} {size n : Nat} {v : Value} {xs : List Value} (h : w.ownsRow base t size v n xs) : ∃ A cap, v = .slice A n cap ∧ (0 < n → ∃ g, A = some ⟨g, 0, none⟩) := by
  rcases h.2 with ⟨rfl, rfl⟩ | ⟨g, cap, cur, rfl, _⟩
  · exact ⟨none, 0, rfl, fun h => by omega⟩
  · exact ⟨_, cap, rfl, fun _ => ⟨g, rfl⟩⟩
end Go.Proofs

namespace Go.Proofs.Hd
open Go.RowKit Go.Sort
/-- Does the match of rule number k have a header? -/
def hasI (L : List Rl) (x y : BitVec 64) (k : Nat) : Bool := L[k]!.m.has x y
/-- The first rule that is tried and has the header. -/
def fndI (L : List Rl) (x y : BitVec 64) : Option Nat := (ordI L).find? (hasI L x y)
theorem leI_lt {L : List Rl} {a b : Nat} (h : decide (cfB L a b < 0) = true) : leI L a b = true := by
  rw [cfB_lt, decide_eq_true_eq] at h
  unfold leI
  rw [decide_eq_true_eq]
  omega
theorem leI_ge {L : List Rl} {a b : Nat} (h : decide (cfB L a b < 0) = false) : leI L b a = true := by
  rw [cfB_lt, decide_eq_false_iff_not] at h
  unfold leI
  rw [decide_eq_true_eq]
  omega
theorem leI_self (L : List Rl) (a : Nat) : leI L a a = true := by unfold leI; rw [decide_eq_true_eq]; omega
theorem mem_ordI {L : List Rl} {k : Nat} : k ∈ ordI L ↔ k < L.length := by rw [(ordI_perm L).mem_iff, List.mem_range]
theorem fndI_none {L : List Rl} {x y : BitVec 64} (h : ∀ k, k < L.length → hasI L x y k = false) : fndI L x y = none := by
  unfold fndI
  rw [List.find?_eq_none]
  intro k hk
  rw [h k (mem_ordI.1 hk)]
  simp
theorem find_sorted {P : Nat → Bool} {R : Nat → Nat → Prop} (ra : ∀ a b, R a b → R b a → a = b) : ∀ {ks : List Nat} {b : Nat}, ks.Pairwise R → b ∈ ks → P b = true → (∀ k ∈ ks, P k = true → R b k) → ks.find? P = some b := by
  intro ks
  induction ks with
  | nil => intro b _ hb; simp at hb
  | cons a ks ih =>
    intro b hs hb hp hm
    rw [List.pairwise_cons] at hs
    rw [List.find?_cons]
    cases ha : P a with
    | true =>
      rcases List.mem_cons.1 hb with e | hb2
      · rw [e]
      · rw [ra a b (hs.1 b hb2) (hm a (List.mem_cons_self ..) ha)]
    | false =>
      rcases List.mem_cons.1 hb with e | hb2
      · rw [e, ha] at hp; cases hp
      · exact ih hs.2 hb2 hp (fun k hk => hm k (List.mem_cons_of_mem _ hk))
theorem fndI_some {L : List Rl} {x y : BitVec 64} {b : Nat} (hb : b < L.length) (hp : hasI L x y b = true) (h : ∀ k, k < L.length → hasI L x y k = true → leI L b k = true) : fndI L x y = some b :=
  find_sorted (R := fun a b => leI L a b = true) (fun a b => leI_anti L a b) (ordI_sorted L) (mem_ordI.2 hb) hp (fun k hk hpk => h k (mem_ordI.1 hk) hpk)
/-- What stands as the first so far, among the first i rules. -/
def FstIs (L : List Rl) (x y : BitVec 64) (i : Nat) (z : Option Nat) : Prop := (z = none ∧ ∀ j, j < i → hasI L x y j = false) ∨ ∃ b, z = some b ∧ b < i ∧ hasI L x y b = true ∧ ∀ j, j < i → hasI L x y j = true → leI L b j = true
theorem FstIs.zero (L : List Rl) (x y : BitVec 64) : FstIs L x y 0 none := .inl ⟨rfl, fun _ hj => absurd hj (Nat.not_lt_zero _)⟩
theorem FstIs.no {L : List Rl} {x y : BitVec 64} {i : Nat} {z : Option Nat} (h : FstIs L x y i z) (hi : hasI L x y i = false) : FstIs L x y (i + 1) z := by
  rcases h with ⟨e, h⟩ | ⟨b, e, hb, hp, h⟩
  · refine .inl ⟨e, fun j hj => ?_⟩
    rcases Nat.lt_or_ge j i with h1 | h1
    · exact h j h1
    · rw [show j = i by omega]; exact hi
  · refine .inr ⟨b, e, by omega, hp, fun j hj hpj => ?_⟩
    rcases Nat.lt_or_ge j i with h1 | h1
    · exact h j h1 hpj
    · rw [show j = i by omega, hi] at hpj; cases hpj
theorem FstIs.first {L : List Rl} {x y : BitVec 64} {i : Nat} (h : FstIs L x y i none) (hi : hasI L x y i = true) : FstIs L x y (i + 1) (some i) := by
  rcases h with ⟨_, h⟩ | ⟨b, e, _⟩
  · refine .inr ⟨i, rfl, by omega, hi, fun j hj hpj => ?_⟩
    rcases Nat.lt_or_ge j i with h1 | h1
    · rw [h j h1] at hpj; cases hpj
    · rw [show j = i by omega]; exact leI_self L i
  · cases e
theorem FstIs.more {L : List Rl} {x y : BitVec 64} {i b : Nat} (h : FstIs L x y i (some b)) (hi : hasI L x y i = true) (hl : leI L i b = true) : FstIs L x y (i + 1) (some i) := by
  rcases h with ⟨e, _⟩ | ⟨b', e, hb, hp, h⟩
  · cases e
  · injection e with e; subst e
    refine .inr ⟨i, rfl, by omega, hi, fun j hj hpj => ?_⟩
    rcases Nat.lt_or_ge j i with h1 | h1
    · exact leI_trans L _ _ _ hl (h j h1 hpj)
    · rw [show j = i by omega]; exact leI_self L i
theorem FstIs.keep {L : List Rl} {x y : BitVec 64} {i b : Nat} (h : FstIs L x y i (some b)) (hl : leI L b i = true) : FstIs L x y (i + 1) (some b) := by
  rcases h with ⟨e, _⟩ | ⟨b', e, hb, hp, h⟩
  · cases e
  · injection e with e; subst e
    refine .inr ⟨b, rfl, by omega, hp, fun j hj hpj => ?_⟩
    rcases Nat.lt_or_ge j i with h1 | h1
    · exact h j h1 hpj
    · rw [show j = i by omega]; exact hl
theorem FstIs.last {L : List Rl} {x y : BitVec 64} {z : Option Nat} (h : FstIs L x y L.length z) : fndI L x y = z := by
  rcases h with ⟨e, h⟩ | ⟨b, e, hb, hp, h⟩
  · rw [e]; exact fndI_none h
  · rw [e]; exact fndI_some hb hp h
theorem FstIs.lt {L : List Rl} {x y : BitVec 64} {i b : Nat} (h : FstIs L x y i (some b)) : b < i := by
  rcases h with ⟨e, _⟩ | ⟨b', e, hb, _⟩
  · cases e
  · injection e with e; subst e; exact hb
/-- A found place as Find hands it back. -/
def fz : Option Nat → Int | some b => (b : Int) | none => 0
theorem at_pos {L : List Rl} {k : Nat} {r : Rl} (h : L[k]? = some r) : L[k]! = r := by
  obtain ⟨hl, e⟩ := List.getElem?_eq_some_iff.1 h
  rw [getElem!_pos L k hl, e]
theorem hasI_at {L : List Rl} {k : Nat} {r : Rl} (h : L[k]? = some r) (x y : BitVec 64) : hasI L x y k = r.m.has x y := by unfold hasI; rw [at_pos h]
theorem cfB_at {L : List Rl} {i j : Nat} {p q : Rl} (hi : L[i]? = some p) (hj : L[j]? = some q) : cfB L i j = cfP p q i j := by unfold cfB; rw [at_pos hi, at_pos hj]
end Go.Proofs.Hd
namespace Go.Proofs
open Go.RowKit Go.Proofs.Hd Go.Sort Go.Lib
attribute [local go_sem] uv_nonneg
set_option maxHeartbeats 4000000 in
set_option maxRecDepth 100000 in
theorem find_c (v : Value) (L : List Rl) (hh hl : BitVec 64) (w : World) (hn : L.length ≤ 4611686018427387904) (hv : Ru w v L) :
    Calls Try.prog 9 #[v, .agg #[.int .u64 (uv hh), .int .u64 (uv hl)]] w fun e w' => e = .returned (.tuple #[.int .i64 (fz (fndI L hh hl)), .bool (fndI L hh hl).isSome]) ∧ Below w.heap.size w w' := by
  obtain ⟨A, cap, rfl, hA⟩ := hv.form
  have hlz : (L.length : Int) ≤ 4611686018427387904 := by omega
  have HA := Lib.hid hA
  have eg : ∀ args w, (callFunc 24 args).run Try.prog w = .ok (.enter 24 args) w := enters_of Try.func24 (by kernel_rfl) rfl
  have B0 := below1 w (.cells #[.int .u64 (uv hh), .int .u64 (uv hl)] 25)
  have X0 : Blk (w.alloc (.cells #[.int .u64 (uv hh), .int .u64 (uv hl)] 25)) w.heap.size 25 #[.int .u64 (uv hh), .int .u64 (uv hl)] := Blk.new w _ _
  have HB := Lib.hid B0
  have HX := Lib.hid X0
  clear hv hA B0 X0
  go_enter Try.func9, Try.ntmps9
  go_wp2
  go_loopg [7, 8, 9, 10, 15] L.length (fun gk s7 s8 _ _ s15 wr => ∃ (k : Nat) (z : Option Nat), k ≤ L.length ∧ gk = L.length - k ∧ s15 = .int .i64 k ∧ s7 = .int .i64 (fz z) ∧ s8 = .bool z.isSome ∧ Hid (FstIs L hh hl k z) ∧ Hid (Below w.heap.size w wr) ∧ Hid (Blk wr w.heap.size 25 #[.int .u64 (uv hh), .int .u64 (uv hl)]))
  case atStart => exact ⟨0, none, Nat.zero_le _, rfl, rfl, rfl, rfl, FstIs.zero L hh hl, HB, HX⟩
  case round =>
    clear HB HX
    obtain ⟨k, z, hk, rfl, rfl, rfl, rfl, HF, HB, HX⟩ := hrel
    by_cases hlt : k < L.length
    · have hltz : (k : Int) < (L.length : Int) := by omega
      obtain ⟨r, hr⟩ : ∃ r, L[k]? = some r := ⟨_, List.getElem?_eq_getElem hlt⟩
      obtain ⟨b, off, rfl, hb, hpc⟩ := HA.out (by intro h; rw [h] at hlt; simp at hlt)
      obtain ⟨c0, c1, c2, c3, c4, c5, c6, c7, c8, c9, c10, c11⟩ := ((hpc k r hr).on HB.out).out
      have hb1 := below1 wr (.cells #[.int .i64 r.pri, .int .u64 (uv r.m.vh), .int .u64 (uv r.m.vl), .int .u64 (uv r.m.ch), .int .u64 (uv r.m.cl), .int .i64 r.kind, .int .i64 r.port, .int .i64 r.tab, .int .u64 (uv r.s.vh), .int .u64 (uv r.s.vl), .int .u64 (uv r.s.ch), .int .u64 (uv r.s.cl)] 55)
      have HB1 := Lib.hid (HB.out.trans (hb1.mono HB.out.size))
      have HX1 := Lib.hid (HX.out.on hb1)
      have h0 := HX1.out.cell 0
      have h1 := HX1.out.cell 1
      have HR := Lib.hid hr
      have HPC := Lib.hid hpc
      have HI := Lib.hid (hasI_at hr hh hl)
      clear hr hpc hb1 HB HX
      cases hq : r.m.has hh hl with
      | false =>
        go_wp2_with fail
        (with_reducible refine (chas false r.m hh hl _ hq).mono ?_)
        rintro e w2 ⟨rfl, hb2⟩
        have HB2 := Lib.hid (HB1.out.trans (hb2.mono HB1.out.size))
        have HX2 := Lib.hid (HX1.out.on hb2)
        clear HB1 HX1 hb2 h0 h1 c0 c1 c2 c3 c4 c5 c6 c7 c8 c9 c10 c11
        go_wp2
        go_roundg (L.length - (k + 1))
        case measure => omega
        case rel => exact ⟨k + 1, z, by omega, rfl, by go_num, rfl, rfl, HF.out.no (by rw [HI.out, hq]), HB2, HX2⟩
      | true =>
        cases z with
        | none =>
          go_wp2_with fail
          (with_reducible refine (chas true r.m hh hl _ hq).mono ?_)
          rintro e w2 ⟨rfl, hb2⟩
          have HB2 := Lib.hid (HB1.out.trans (hb2.mono HB1.out.size))
          have HX2 := Lib.hid (HX1.out.on hb2)
          clear HB1 HX1 hb2 h0 h1 c0 c1 c2 c3 c4 c5 c6 c7 c8 c9 c10 c11
          go_wp2
          go_roundg (L.length - (k + 1))
          case measure => omega
          case rel => exact ⟨k + 1, some k, by omega, rfl, by go_num, rfl, rfl, HF.out.first (by rw [HI.out, hq]), HB2, HX2⟩
        | some z =>
          have hz := HF.out.lt
          obtain ⟨p, hp⟩ : ∃ p, L[z]? = some p := ⟨_, List.getElem?_eq_getElem (by omega)⟩
          have HP := Lib.hid hp
          clear hp
          obtain ⟨rr, hrr⟩ : ∃ rr, cfP r p k z = rr := ⟨_, rfl⟩
          have HQ : Hid (cfB L k z = rr) := by show _ = _; rw [cfB_at HR.out HP.out, hrr]
          have HRR := Lib.hid hrr
          clear hrr
          go_wp2_with fail
          (with_reducible refine (chas true r.m hh hl _ hq).mono ?_)
          rintro e w2 ⟨rfl, hb2⟩
          have HB2 := Lib.hid (HB1.out.trans (hb2.mono HB1.out.size))
          have HX2 := Lib.hid (HX1.out.on hb2)
          clear HB1 HX1 hb2 h0 h1 c0 c1 c2 c3 c4 c5 c6 c7 c8 c9 c10 c11
          have hcon := tcmp_g r p rr k z L.length b off cap w2 hlt (by omega) hn ((HPC.out k r HR.out).on HB2.out) ((HPC.out z p HP.out).on HB2.out) HRR.out
          cases hd : decide (rr < 0) with
          | true =>
            have hdz : rr < 0 := of_decide_eq_true hd
            go_wp2_with (go_at_fn 24; refine hcon.mono ?_; rintro e w3 ⟨rfl, hb3⟩)
            have HB3 := Lib.hid (HB2.out.trans (hb3.below.mono HB2.out.size))
            have HX3 := Lib.hid (HX2.out.on hb3.below)
            clear HB2 HX2 hb3
            go_roundg (L.length - (k + 1))
            case measure => omega
            case rel => exact ⟨k + 1, some k, by omega, rfl, by go_num, rfl, rfl, HF.out.more (by rw [HI.out, hq]) (leI_lt (by rw [HQ.out]; exact hd)), HB3, HX3⟩
          | false =>
            have hdz : ¬ rr < 0 := of_decide_eq_false hd
            go_wp2_with (go_at_fn 24; refine hcon.mono ?_; rintro e w3 ⟨rfl, hb3⟩)
            have HB3 := Lib.hid (HB2.out.trans (hb3.below.mono HB2.out.size))
            have HX3 := Lib.hid (HX2.out.on hb3.below)
            clear HB2 HX2 hb3
            go_roundg (L.length - (k + 1))
            case measure => omega
            case rel => exact ⟨k + 1, some z, by omega, rfl, by go_num, rfl, rfl, HF.out.keep (leI_ge (by rw [HQ.out]; exact hd)), HB3, HX3⟩
    · have hltz : ¬ (k : Int) < (L.length : Int) := by omega
      obtain rfl : k = L.length := by omega
      have HE : Hid (fndI L hh hl = z) := HF.out.last
      clear HF HA HX
      go_wp2
      go_ret2
      exact ⟨by rw [HE.out]; rfl, HB.out⟩
end Go.Proofs

namespace Go.Proofs
open Go.RowKit Go.Proofs.Hd Go.Sort Go.Shelf Go.Lib
/-- Numbers as cells. -/
def encN {α : Type} (en : α → Nat) (x : α) : Value := .int .i64 (en x : Int)
/-- What is asked of a comparison that is bound to a receiver: in each world of the sort it says cf; it may draw and lay blocks, and turns nothing. -/
def CmpB (g : Nat) (rv : Value) {α : Type} [Inhabited α] (en : α → Nat) (cf : α → α → Int) (blk off size : Nat) (w : World) : Prop :=
  ∀ (m : Nat) (os : Array Obj) (dk : Array α), dk.size = size → ∀ x y : α, Calls Try.prog g #[rv, encN en x, encN en y] (sortWorld (encN en) w blk off m dk os) fun e w' => e = .returned (.int .i64 (cf x y)) ∧ Grew (sortWorld (encN en) w blk off m dk os) w'
theorem cmpB_at {g : Nat} {rv : Value} {α : Type} [Inhabited α] {en : α → Nat} {cf : α → α → Int} {blk off size : Nat} {w W : World} {dk : Array α} (h : SW (encN en) w blk off dk W) (hC : CmpB g rv en cf blk off size w) (hs : dk.size = size) (x y : α) (n : Nat) (os : Array Obj) :
    Calls Try.prog g #[rv, .int .i64 (en x : Int), .int .i64 (en y : Int)] (grow (W.drewN n) os) fun e w' => e = .returned (.int .i64 (cf x y)) ∧ ∃ q os', w' = grow ((grow (W.drewN n) os).drewN q) os' := by
  obtain ⟨m, os0, hw⟩ := h.grown n os
  rw [hw]
  exact hC m os0 dk hs x y
set_option maxHeartbeats 16000000 in
set_option maxRecDepth 1000000 in
theorem insB_c {α : Type} [Inhabited α] (en : α → Nat) (cf : α → α → Int) (g : Nat) (rv : Value) (blk off cap n : Nat) (d0 d : Array α) (w0 w : World) (eg : ∀ args w, (callFunc g args).run Try.prog w = .ok (.enter g args) w)
    (hC : CmpB g rv en cf blk off n w0) (R : Row1 (encN en) w0 blk off d0) (h0 : d0.size = n) (hs : d.size = n) (hS : SW (encN en) w0 blk off d w) (hn : n ≤ 12) :
    Calls Try.prog 71 #[.slice (some ⟨blk, off, none⟩) n cap, .int .i64 0, .int .i64 n, .func (.func g) #[rv] #[]] w fun e w' => e = .returned (.tuple #[]) ∧ SW (encN en) w0 blk off (Sort.insertionSort (ltOf cf) d 0 n) w' := by
  have HC := Lib.hid hC
  have HS := Lib.hid hS
  have mixed : Try.prog.follows Departure.mixedOrders = true := by kernel_rfl
  have hnz : (n : Int) ≤ 12 := by omega
  clear hC hS
  go_enter Try.func71, Try.ntmps71
  go_wp2
  go_loopg [8, 9] n (fun gk s8 _ wr => ∃ (i : Nat) (dk : Array α), s8 = .int .i64 i ∧ 0 < i ∧ i ≤ n + 1 ∧ n + 1 - i ≤ gk + 1 ∧ dk.size = n ∧ Hid (SW (encN en) w0 blk off dk wr) ∧ Hid (insOuter (ltOf cf) 0 n i dk = insOuter (ltOf cf) 0 n 1 d))
  case atStart => exact ⟨1, d, rfl, by omega, by omega, by omega, hs, HS, rfl⟩
  case round =>
    clear HS
    obtain ⟨i, dk, rfl, hi0, hin, hgk, hsk, HW, HO⟩ := hrel
    by_cases hlt : i < n
    · have hltz : (i : Int) < (n : Int) := by omega
      go_wp2
      go_loopg [9] i (fun gj s9 wj => ∃ (j : Nat) (dj : Array α), s9 = .int .i64 j ∧ j ≤ i ∧ j ≤ gj ∧ dj.size = n ∧ Hid (SW (encN en) w0 blk off dj wj) ∧ Hid (insInner (ltOf cf) 0 j dj = insInner (ltOf cf) 0 i dk))
      case atStart => exact ⟨i, dk, rfl, Nat.le_refl _, Nat.le_refl _, hsk, HW, rfl⟩
      case round =>
        clear HW
        obtain ⟨j, dj, rfl, hji, hgj, hsj, HJ, HI⟩ := hrel
        have OUT : Hid ((j ≤ 0 ∨ (ltOf cf) dj[j]! dj[j - 1]! = false) → insOuter (ltOf cf) 0 n (i + 1) dj = insOuter (ltOf cf) 0 n 1 d) := fun h => by
          rw [← HO.out, insOuter_go _ _ _ _ _ hlt, ← HI.out, insInner_stop _ _ _ _ h]
        rcases Nat.eq_zero_or_pos j with hj0 | hj0
        · subst hj0
          go_wp2_with fail
          go_big_region_o
          have H2 : Hid (SW (encN en) w0 blk off dj wr.drew) := HJ.out.drew
          clear HJ
          generalize wr.drew = w2 at H2 ⊢
          go_wp2
          go_roundg (n - (i + 1))
          case measure => omega
          case rel => exact ⟨i + 1, dj, by go_num, by omega, by omega, by omega, hsj, H2, OUT.out (Or.inl (Nat.le_refl _))⟩
        · obtain ⟨p, rfl⟩ : ∃ p, j = p + 1 := ⟨j - 1, by omega⟩
          obtain ⟨q, hq⟩ : ∃ q, q = p + 1 := ⟨_, rfl⟩
          have hqz : (p : Int) + 1 = (q : Int) := by omega
          have zp : (0 : Int) ≤ (p : Int) := by omega
          have zq : ((q : Int)) < (n : Int) := by omega
          have zq0 : (0 : Int) < (q : Int) := by omega
          have zd : decide (0 < q) = true := decide_eq_true (by omega)
          have zq1 : 0 < q := by omega
          have zp2 : ((p : Int)) < (n : Int) := by omega
          have zs : IntKind.i64.wrap ((q : Int) - 1) = (p : Int) := by rw [IntKind.wrap_i64]; omega
          obtain ⟨x, hx⟩ : ∃ x, x = dj[q]! := ⟨_, rfl⟩
          obtain ⟨y, hy⟩ : ∃ y, y = dj[p]! := ⟨_, rfl⟩
          have l1 : ∀ m os, (grow (wr.drewN m) os).cell? ⟨blk, off + q, none⟩ = some (.int .i64 (en x : Int)) := fun m os => by rw [hx]; exact HJ.out.cl R (by omega) q (by omega) m os
          have l2 : ∀ m os, (grow (wr.drewN m) os).cell? ⟨blk, off + p, none⟩ = some (.int .i64 (en y : Int)) := fun m os => by rw [hy]; exact HJ.out.cl R (by omega) p (by omega) m os
          have hc := cmpB_at HJ.out HC.out hsj x y
          have HQ := Lib.hid hq
          have HX := Lib.hid hx
          have HY := Lib.hid hy
          obtain ⟨c, hcv⟩ : ∃ c, cf x y = c := ⟨_, rfl⟩
          rw [hcv] at hc
          have HV := Lib.hid hcv
          have ej : ((p + 1 : Nat) : Int) = (q : Int) := by omega
          rw [ej]
          clear hq hx hy hcv ej hqz
          cases hd : decide (c < 0) with
          | true =>
            have hdz : c < 0 := of_decide_eq_true hd
            have HL : Hid ((ltOf cf) dj[p + 1]! dj[p + 1 - 1]! = true) := by
              show decide (cf _ _ < 0) = true
              rw [Nat.add_sub_cancel, ← HQ.out, ← HX.out, ← HY.out, HV.out]; exact hd
            go_wp2_with fail
            go_quiet_grown (first | (go_at_fn g; refine Calls.grown_of (hc _ _)))
            have H2 : Hid (SW (encN en) w0 blk off dj (grow (wr.drewN nq) osq)) := HJ.out.grown nq osq
            clear l1 l2 hc HJ
            generalize grow (wr.drewN nq) osq = w2 at H2 ⊢
            clear nq osq
            have H3 : Hid (SW (encN en) w0 blk off (swp dj q p) ((w2.setCell ⟨blk, off + q, none⟩ (.int .i64 (en y : Int))).setCell ⟨blk, off + p, none⟩ (.int .i64 (en x : Int))).drew) := by
              show SW _ _ _ _ _ _
              rw [HX.out, HY.out]; exact H2.out.swapped R q p (by omega) (by omega)
            have ca : w2.cell? ⟨blk, off + q, none⟩ = some (.int .i64 (en x : Int)) := by rw [HX.out]; exact H2.out.c1 R (by omega) q (by omega)
            have cb : w2.cell? ⟨blk, off + p, none⟩ = some (.int .i64 (en y : Int)) := by rw [HY.out]; exact H2.out.c1 R (by omega) p (by omega)
            have fa := H2.out.f1 R (by omega) q (by omega)
            have fb := H2.out.f1 R (by omega) p (by omega)
            obtain ⟨u, cc⟩ := H2.out.c2 R (by omega) q p (by omega) (by omega) (.int .i64 (en y : Int))
            clear H2
            go_wp2_with fail
            go_big_region_o
            clear ca cb cc fa fb
            generalize ((w2.setCell ⟨blk, off + q, none⟩ (.int .i64 (en y : Int))).setCell ⟨blk, off + p, none⟩ (.int .i64 (en x : Int))).drew = w3 at H3 ⊢
            go_wp2
            go_roundg p
            case measure => omega
            case rel => exact ⟨p, swp dj q p, by first | rfl | go_num, by omega, Nat.le_refl _, by rw [size_swp]; exact hsj, H3, by show _ = _; rw [← HI.out, insInner_go (ltOf cf) 0 (p + 1) dj (by omega) HL.out, Nat.add_sub_cancel, HQ.out]⟩
          | false =>
            have hdz : ¬ c < 0 := of_decide_eq_false hd
            have HL : (ltOf cf) dj[p + 1]! dj[p + 1 - 1]! = false := by
              show decide (cf _ _ < 0) = false
              rw [Nat.add_sub_cancel, ← HQ.out, ← HX.out, ← HY.out, HV.out]; exact hd
            have HE := Lib.hid (OUT.out (Or.inr HL))
            clear HL OUT
            go_wp2_with fail
            go_quiet_grown (first | (go_at_fn g; refine Calls.grown_of (hc _ _)))
            have H2 : Hid (SW (encN en) w0 blk off dj (grow (wr.drewN nq) osq)) := HJ.out.grown nq osq
            clear l1 l2 hc HJ
            generalize grow (wr.drewN nq) osq = w2 at H2 ⊢
            clear nq osq
            go_wp2
            go_roundg (n - (i + 1))
            case measure => omega
            case rel => exact ⟨i + 1, dj, by go_num, by omega, by omega, by omega, hsj, H2, HE⟩
    · have hltz : ¬ (i : Int) < (n : Int) := by omega
      have HE : Hid (Sort.insertionSort (ltOf cf) d 0 n = dk) := by
        show _ = _
        unfold Sort.insertionSort
        rw [Nat.zero_add, ← HO.out, insOuter_stop _ _ _ _ _ hlt]
      clear HO
      go_wp2
      go_end0
      exact ⟨rfl, by rw [HE.out]; exact HW.out⟩
set_option maxHeartbeats 4000000 in
set_option maxRecDepth 1000000 in
theorem pdqB_c {α : Type} [Inhabited α] (en : α → Nat) (cf : α → α → Int) (g : Nat) (rv : Value) (blk off cap n k : Nat) (d0 d : Array α) (w0 w : World) (eg : ∀ args w, (callFunc g args).run Try.prog w = .ok (.enter g args) w)
    (hC : CmpB g rv en cf blk off n w0) (R : Row1 (encN en) w0 blk off d0) (h0 : d0.size = n) (hs : d.size = n) (hS : SW (encN en) w0 blk off d w) (hn : n ≤ 12) :
    Calls Try.prog 59 #[.slice (some ⟨blk, off, none⟩) n cap, .int .i64 0, .int .i64 n, .int .i64 k, .func (.func g) #[rv] #[]] w fun e w' => e = .returned (.tuple #[]) ∧ SW (encN en) w0 blk off (Sort.insertionSort (ltOf cf) d 0 n) w' := by
  have hcon := insB_c en cf g rv blk off cap n d0 d w0 w eg hC R h0 hs hS hn
  have hnz : (n : Int) ≤ 12 := by omega
  clear hC R hS
  go_enter Try.func59, Try.ntmps59
  go_wp2
  refine wp_loop_rounds 1 ?_
  rw [rounds_succ]
  go_wp2_with (go_at_call 71; refine hcon.mono ?_; rintro e w1 ⟨rfl, hw1⟩)
  refine bodyPost_ret (v := .tuple #[]) (results_none Try.results59 _ _ _) rfl ?_
  exact ⟨rfl, hw1⟩
end Go.Proofs

namespace Go.Proofs
open Go.Shelf
def Try.sortF_ren : Go.Shelf.Ren := ⟨fun | 6 => 46 | 15 => 60 | 14 => 59 | 28 => 79 | 29 => 80 | 20 => 71 | 21 => 72 | 22 => 73 | 23 => 74 | 24 => 75 | 25 => 76 | 26 => 77 | 27 => 78 | 46 => 92 | 47 => 93 | 48 => 94 | 49 => 95 | 50 => 96 | 57 => 111 | n => n, fun | 22 => 36 | 24 => 3 | 25 => 61 | 3 => 3 | 39 => 89 | 0 => 0 | 53 => 122 | 55 => 23 | 4 => 4 | 46 => 116 | 45 => 115 | 50 => 26 | 5 => 5 | 9 => 9 | 66 => 131 | 70 => 135 | 76 => 143 | 77 => 144 | n => n, fun | n => n⟩
theorem Try.sortF : Go.Proofs.SlLaysF.n6 Try.prog Try.sortF_ren := {
  mixed := by kernel_rfl
  f6 := ⟨Try.f46.name, by decide, Try.func46.trans (congrArg some (by kernel_rfl))⟩
  f14 := ⟨Try.f59.name, by decide, Try.func59.trans (congrArg some (by kernel_rfl))⟩
  f15 := Try.func60.trans (congrArg some (by kernel_rfl))
  f20 := ⟨Try.f71.name, by decide, Try.func71.trans (congrArg some (by kernel_rfl))⟩
  f21 := ⟨Try.f72.name, by decide, Try.func72.trans (congrArg some (by kernel_rfl))⟩
  f22 := ⟨Try.f73.name, by decide, Try.func73.trans (congrArg some (by kernel_rfl))⟩
  f23 := ⟨Try.f74.name, by decide, Try.func74.trans (congrArg some (by kernel_rfl))⟩
  f24 := ⟨Try.f75.name, by decide, Try.func75.trans (congrArg some (by kernel_rfl))⟩
  f25 := ⟨Try.f76.name, by decide, Try.func76.trans (congrArg some (by kernel_rfl))⟩
  f26 := ⟨Try.f77.name, by decide, Try.func77.trans (congrArg some (by kernel_rfl))⟩
  f27 := ⟨Try.f78.name, by decide, Try.func78.trans (congrArg some (by kernel_rfl))⟩
  f28 := Try.func79.trans (congrArg some (by kernel_rfl))
  f29 := Try.func80.trans (congrArg some (by kernel_rfl))
  f46 := ⟨Try.f92.name, by decide, Try.func92.trans (congrArg some (by kernel_rfl))⟩
  f47 := Try.func93.trans (congrArg some (by kernel_rfl))
  f48 := Try.func94.trans (congrArg some (by kernel_rfl))
  f49 := ⟨Try.f95.name, by decide, Try.func95.trans (congrArg some (by kernel_rfl))⟩
  f50 := ⟨Try.f96.name, by decide, Try.func96.trans (congrArg some (by kernel_rfl))⟩
  f57 := ⟨Try.f111.name, by decide, Try.func111.trans (congrArg some (by kernel_rfl))⟩
  t0 := Try.underlying0
  a0 := Try.isAgg0
  z0 := Try.sizeOf0
  v0 := Try.zeroValue0
  t3 := Try.underlying3
  a3 := Try.isAgg3
  z3 := Try.sizeOf3
  v3 := Try.zeroValue3
  t4 := Try.underlying4
  a4 := Try.isAgg4
  z4 := Try.sizeOf4
  v4 := Try.zeroValue4
  t5 := Try.underlying5
  a5 := Try.isAgg5
  z5 := Try.sizeOf5
  v5 := Try.zeroValue5
  t9 := Try.underlying9
  a9 := Try.isAgg9
  z9 := Try.sizeOf9
  v9 := Try.zeroValue9
  t22 := Try.underlying36
  a22 := Try.isAgg36
  z22 := Try.sizeOf36
  v22 := Try.zeroValue36
  a24 := Try.isAgg3
  z24 := Try.sizeOf3
  t25 := Try.underlying61
  a25 := Try.isAgg61
  z25 := Try.sizeOf61
  v25 := Try.zeroValue61
  t39 := Try.underlying89
  a39 := Try.isAgg89
  z39 := Try.sizeOf89
  v39 := Try.zeroValue89
  t45 := Try.underlying115
  a45 := Try.isAgg115
  z45 := Try.sizeOf115
  v45 := Try.zeroValue115
  t46 := Try.underlying116
  a46 := Try.isAgg116
  z46 := Try.sizeOf116
  v46 := Try.zeroValue116
  t50 := Try.underlying26
  a50 := Try.isAgg26
  z50 := Try.sizeOf26
  v50 := Try.zeroValue26
  t53 := Try.underlying122
  a53 := Try.isAgg122
  z53 := Try.sizeOf122
  v53 := Try.zeroValue122
  t55 := Try.underlying23
  a55 := Try.isAgg23
  z55 := Try.sizeOf23
  v55 := Try.zeroValue23
  t66 := Try.underlying131
  a66 := Try.isAgg131
  z66 := Try.sizeOf131
  v66 := Try.zeroValue131
  t70 := Try.underlying135
  a70 := Try.isAgg135
  z70 := Try.sizeOf135
  v70 := Try.zeroValue135
  t76 := Try.underlying143
  a76 := Try.isAgg143
  z76 := Try.sizeOf143
  v76 := Try.zeroValue143
  t77 := Try.underlying144
  a77 := Try.isAgg144
  z77 := Try.sizeOf144
  v77 := Try.zeroValue144 }
def Try.sortI_ren : Go.Shelf.Ren := ⟨fun | 189 => 69 | 125 => 60 | 257 => 87 | 128 => 79 | 129 => 80 | 294 => 98 | 295 => 99 | 296 => 100 | 297 => 101 | 298 => 102 | 299 => 103 | 216 => 104 | 300 => 105 | 301 => 106 | 328 => 112 | 329 => 93 | 330 => 94 | 331 => 113 | 332 => 114 | 215 => 48 | 343 => 116 | n => n, fun | 28 => 36 | 3 => 3 | 46 => 89 | 0 => 0 | 51 => 122 | 53 => 23 | 4 => 4 | 183 => 116 | 182 => 115 | 131 => 26 | 5 => 5 | 9 => 9 | 218 => 131 | 222 => 135 | 228 => 143 | 229 => 144 | n => n, fun | n => n⟩
theorem Try.sortI : Go.Proofs.Lays.n189 Try.prog Try.sortI_ren := {
  mixed := by kernel_rfl
  f125 := Try.func60.trans (congrArg some (by kernel_rfl))
  f128 := Try.func79.trans (congrArg some (by kernel_rfl))
  f129 := Try.func80.trans (congrArg some (by kernel_rfl))
  f189 := Try.func69.trans (congrArg some (by kernel_rfl))
  f215 := Try.func48.trans (congrArg some (by kernel_rfl))
  f216 := Try.func104.trans (congrArg some (by kernel_rfl))
  f257 := Try.func87.trans (congrArg some (by kernel_rfl))
  f294 := Try.func98.trans (congrArg some (by kernel_rfl))
  f295 := Try.func99.trans (congrArg some (by kernel_rfl))
  f296 := Try.func100.trans (congrArg some (by kernel_rfl))
  f297 := Try.func101.trans (congrArg some (by kernel_rfl))
  f298 := Try.func102.trans (congrArg some (by kernel_rfl))
  f299 := Try.func103.trans (congrArg some (by kernel_rfl))
  f300 := Try.func105.trans (congrArg some (by kernel_rfl))
  f301 := Try.func106.trans (congrArg some (by kernel_rfl))
  f328 := Try.func112.trans (congrArg some (by kernel_rfl))
  f329 := Try.func93.trans (congrArg some (by kernel_rfl))
  f330 := Try.func94.trans (congrArg some (by kernel_rfl))
  f331 := Try.func113.trans (congrArg some (by kernel_rfl))
  f332 := Try.func114.trans (congrArg some (by kernel_rfl))
  f343 := Try.func116.trans (congrArg some (by kernel_rfl))
  t0 := Try.underlying0
  a0 := Try.isAgg0
  z0 := Try.sizeOf0
  v0 := Try.zeroValue0
  t3 := Try.underlying3
  a3 := Try.isAgg3
  z3 := Try.sizeOf3
  v3 := Try.zeroValue3
  t4 := Try.underlying4
  a4 := Try.isAgg4
  z4 := Try.sizeOf4
  v4 := Try.zeroValue4
  t5 := Try.underlying5
  a5 := Try.isAgg5
  z5 := Try.sizeOf5
  v5 := Try.zeroValue5
  t9 := Try.underlying9
  a9 := Try.isAgg9
  z9 := Try.sizeOf9
  v9 := Try.zeroValue9
  t28 := Try.underlying36
  a28 := Try.isAgg36
  z28 := Try.sizeOf36
  v28 := Try.zeroValue36
  t46 := Try.underlying89
  a46 := Try.isAgg89
  z46 := Try.sizeOf89
  v46 := Try.zeroValue89
  t51 := Try.underlying122
  a51 := Try.isAgg122
  z51 := Try.sizeOf122
  v51 := Try.zeroValue122
  t53 := Try.underlying23
  a53 := Try.isAgg23
  z53 := Try.sizeOf23
  v53 := Try.zeroValue23
  t131 := Try.underlying26
  a131 := Try.isAgg26
  z131 := Try.sizeOf26
  v131 := Try.zeroValue26
  t182 := Try.underlying115
  a182 := Try.isAgg115
  z182 := Try.sizeOf115
  v182 := Try.zeroValue115
  t183 := Try.underlying116
  a183 := Try.isAgg116
  z183 := Try.sizeOf116
  v183 := Try.zeroValue116
  t218 := Try.underlying131
  a218 := Try.isAgg131
  z218 := Try.sizeOf131
  v218 := Try.zeroValue131
  t222 := Try.underlying135
  a222 := Try.isAgg135
  z222 := Try.sizeOf135
  v222 := Try.zeroValue135
  t228 := Try.underlying143
  a228 := Try.isAgg143
  z228 := Try.sizeOf143
  v228 := Try.zeroValue143
  t229 := Try.underlying144
  a229 := Try.isAgg144
  z229 := Try.sizeOf144
  v229 := Try.zeroValue144 }
end Go.Proofs

namespace Go.Proofs
open Go.RowKit Go.Proofs.Hd Go.Sort Go.Shelf Go.Lib
set_option maxHeartbeats 4000000 in
theorem sortB_c {α : Type} [Inhabited α] (en : α → Nat) (cf : α → α → Int) (hO : SWO (ltOf cf)) (g : Nat) (rv : Value) (blk off cap n : Nat) (d : Array α) (w : World) (eg : ∀ args w, (callFunc g args).run Try.prog w = .ok (.enter g args) w)
    (hC : CmpB g rv en cf blk off n w) (hH : Holds (encN en) w blk off d) (hblk : blk < w.heap.size) (hs : d.size = n) (hn : n ≤ 12) :
    Calls Try.prog 46 #[.slice (some ⟨blk, off, none⟩) n cap, .func (.func g) #[rv] #[]] w fun e w' => e = .returned (.tuple #[]) ∧ ∃ d' m os, PermIn 0 n d d' ∧ SortedIn (ltOf cf) 0 n d' ∧ w' = sortWorld (encN en) w blk off m d' os := by
  have hp : ∀ k : Nat, Calls Try.prog 59 #[.slice (some ⟨blk, off, none⟩) n cap, .int .i64 0, .int .i64 n, .int .i64 k, .func (.func g) #[rv] #[]] w fun e w' => e = .returned (.tuple #[]) ∧ SW (encN en) w blk off (Sort.insertionSort (ltOf cf) d 0 n) w' := fun k => pdqB_c en cf g rv blk off cap n k d d w w eg hC ⟨fun _ => rfl, hH, hblk⟩ hs hs (SW.start hH) hn
  have hl : Calls Try.prog 60 #[.int .u64 (n : Int)] w fun e w' => e = .returned (.int .i64 (Lib.bitLen n : Nat)) ∧ w' = w := by
    have h := Any.bits_Len (SlLaysF0.n15.bits (P := Try.prog) (ρ := Try.sortF_ren) { Try.sortF with }) (n : Int) w (by omega) (by omega)
    rw [Int.toNat_natCast] at h
    exact h
  have hq := hp (Lib.bitLen n)
  obtain ⟨k, hk⟩ : ∃ k, Lib.bitLen n = k := ⟨_, rfl⟩
  rw [hk] at hl hq
  have wr : IntKind.u64.wrap (n : Int) = n := by simp [IntKind.wrap, IntKind.bits, IntKind.signed]; omega
  have hnz : (n : Int) ≤ 12 := by omega
  have HZ := insertionSort_holds hO d 0 n (Nat.zero_le _) (by omega)
  clear hC hH hp hk
  go_enter Try.func46, Try.ntmps46
  go_wp2_with (first | (go_at_call 60; refine hl.mono ?_; rintro e w' ⟨rfl, rfl⟩) | (go_at_call 59; refine hq.mono ?_; rintro e w' ⟨rfl, hw1⟩))
  go_end0
  obtain ⟨m, os, rfl⟩ := hw1
  exact ⟨rfl, _, m, os, HZ.1, HZ.2, rfl⟩
end Go.Proofs
namespace Go.Proofs.Hd
open Go.RowKit Go.Sort Go.Shelf Go.Lib
/-- v is a slice that reads as the numbers ks, no longer than its capacity. -/
def PlK (w : World) (v : Value) (ks : List Nat) : Prop := ∃ A cap, v = .slice A ks.length cap ∧ ks.length ≤ cap ∧ cap ≤ maxLen ∧ (ks ≠ [] → ∃ g, A = some ⟨g, 0, none⟩ ∧ g < w.heap.size ∧ ∀ (j k : Nat), ks[j]? = some k → w.cell? ⟨g, j, none⟩ = some (.int .i64 (k : Int)))
theorem PlK.on {w w' : World} {v : Value} {ks : List Nat} (h : PlK w v ks) (hb : Below w.heap.size w w') : PlK w' v ks := by
  obtain ⟨A, cap, e, h1, h2, h⟩ := h
  refine ⟨A, cap, e, h1, h2, fun hne => ?_⟩
  obtain ⟨g, e2, hg, hc⟩ := h hne
  exact ⟨g, e2, Nat.lt_of_lt_of_le hg hb.size, fun j k hk => on_some hb (hc j k hk)⟩
theorem extract_whole {α : Type} (d : Array α) {n : Nat} (h : d.size = n) : (d.extract 0 n).toList = d.toList := by subst h; simp
theorem ordI_nil : ordI [] = [] := List.eq_nil_of_length_eq_zero (ordI_len [])
def cfS (L : List Rl) (x y : {k : Nat // k < L.length}) : Int := cfB L x.1 y.1
theorem ltS (L : List Rl) (x y : {k : Nat // k < L.length}) : ltOf (cfS L) x y = decide (L[y.1]!.pri < L[x.1]!.pri ∨ (L[x.1]!.pri = L[y.1]!.pri ∧ x.1 < y.1)) := cfB_lt L x.1 y.1
theorem swoS (L : List Rl) : SWO (ltOf (cfS L)) where
  irrefl x := by rw [ltS, decide_eq_false_iff_not]; omega
  trans x y z h1 h2 := by rw [ltS, decide_eq_true_eq] at *; omega
  ntrans x y z h1 h2 := by rw [ltS, decide_eq_false_iff_not] at *; omega
theorem sortWorld_cellB {α : Type} [Inhabited α] (enc : α → Value) (w : World) (g off m : Nat) (dk : Array α) (os : Array Obj) (p : Addr) {u : Value} (hp : w.cell? p = some u) (hg : p.block ≠ g) : (sortWorld enc w g off m dk os).cell? p = some u := by
  have hl := World.block_lt_of_cell? w p hp
  unfold sortWorld
  rw [cell?_grow _ _ _ (by rw [size_putRow]; exact hl), cell?_putRow_other _ _ _ _ _ _ (.inl hg), cell?_ahead]
  exact hp
theorem sortWorld_grownB {α : Type} [Inhabited α] (enc : α → Value) (w : World) (g off m : Nat) (dk : Array α) (os : Array Obj) : w.grownBy (sortWorld enc w g off m dk os) (some g) := by
  refine ⟨rfl, rfl, rfl, ?_, fun k hk hne => ?_⟩
  · unfold sortWorld; simp [grow]; try (unfold putRow mapBlock; simp [ahead])
  · unfold sortWorld
    rw [heap_grow_old _ _ (by rw [size_putRow]; exact hk)]
    unfold putRow mapBlock
    simp only [Array.getElem?_modify]
    rw [if_neg (fun e => hne (by rw [e]))]
    rfl
end Go.Proofs.Hd
namespace Go.Proofs
open Go.RowKit Go.Proofs.Hd Go.Sort Go.Shelf Go.Lib
attribute [local go_sem] uv_nonneg
theorem infoIb : (Try.prog.info? 3).map (fun i => (i.zero, i.size, i.bytes)) = some (some (.int .i64 0), 1, 8) := by kernel_rfl
/-- The places of the rules, sorted. -/
theorem tsort_c (L : List Rl) (b o cap g cp base : Nat) (w : World) (hl : L.length ≤ 12) (h0 : L ≠ []) (hc : ∀ k r, L[k]? = some r → AtR w b (o + k * 12) r) (hbg : b ≠ g) (hown : w.ownsRow base 3 1 (.slice (some ⟨g, 0, none⟩) L.length cp) L.length (ints (List.range L.length))) :
    Calls Try.prog 46 #[.slice (some ⟨g, 0, none⟩) L.length cp, .func (.func 24) #[.slice (some ⟨b, o, none⟩) L.length cap] #[]] w fun e w' => e = .returned (.tuple #[]) ∧ w.grownBy w' (some g) ∧ ∀ (j k : Nat), (ordI L)[j]? = some k → w'.cell? ⟨g, j, none⟩ = some (.int .i64 (k : Int)) := by
  have eg : ∀ args w, (callFunc 24 args).run Try.prog w = .ok (.enter 24 args) w := enters_of Try.func24 (by kernel_rfl) rfl
  have hpos : 0 < L.length := List.length_pos_iff.2 h0
  haveI : Inhabited {k : Nat // k < L.length} := ⟨⟨0, hpos⟩⟩
  let d : Array {k : Nat // k < L.length} := ((List.range L.length).pmap (fun k h => ⟨k, h⟩) (fun k hk => by simpa using hk)).toArray
  have dsz : d.size = L.length := by simp [d]
  have dval : d.toList.map (·.1) = List.range L.length := by simp [d, List.map_pmap]
  have dget : ∀ j, j < d.size → (List.range L.length)[j]? = some (d[j]!).1 := fun j hj => by
    rw [← dval, List.getElem?_map, getElem!_pos d j hj]
    simp [hj]
  have hH : Holds (encN (fun x : {k : Nat // k < L.length} => x.1)) w g 0 d := fun j hj => by
    constructor
    · rw [Nat.zero_add, hown.cellAt j (by omega)]
      unfold ints
      rw [List.getElem?_map, dget j hj]; rfl
    · exact hown.frozenAt _
  have hlt : g < w.heap.size := by
    rcases hown.2 with ⟨e, _⟩ | ⟨g', cap', cur, e, hge, hheap, _⟩
    · cases e
    · injection e with e1 _ _
      injection e1 with e1
      injection e1 with e1
      subst e1
      exact (Array.getElem?_eq_some_iff.1 hheap).1
  have hC : CmpB 24 (.slice (some ⟨b, o, none⟩) L.length cap) (fun x : {k : Nat // k < L.length} => x.1) (cfS L) g 0 L.length w := fun m os dk _ x y => by
    obtain ⟨p, hp⟩ : ∃ c, L[x.1]? = some c := ⟨_, List.getElem?_eq_getElem x.2⟩
    obtain ⟨q, hq⟩ : ∃ c, L[y.1]? = some c := ⟨_, List.getElem?_eq_getElem y.2⟩
    refine tcmp_g p q _ x.1 y.1 L.length b o cap _ x.2 y.2 (by omega) (fun j v hv => sortWorld_cellB _ _ _ _ _ _ _ _ (hc _ _ hp j v hv) hbg) (fun j v hv => sortWorld_cellB _ _ _ _ _ _ _ _ (hc _ _ hq j v hv) hbg) ?_
    unfold cfS
    rw [cfB_at hp hq]
  refine (sortB_c (fun x : {k : Nat // k < L.length} => x.1) (cfS L) (swoS L) 24 (.slice (some ⟨b, o, none⟩) L.length cap) g 0 cp L.length d w eg hC hH hlt dsz hl).mono ?_
  rintro e w' ⟨rfl, d', n, os, hperm, hsort, rfl⟩
  obtain ⟨hs1, _, hs3⟩ := hperm
  have hd' : d'.size = L.length := by omega
  have hp3 : d'.toList.Perm d.toList := by
    have e1 : (d'.extract 0 L.length).toList = d'.toList := extract_whole d' hd'
    have e2 : (d.extract 0 L.length).toList = d.toList := extract_whole d dsz
    rw [e1, e2] at hs3; exact hs3
  have hord : d'.toList.map (·.1) = ordI L := by
    refine ordI_unique (by rw [← dval]; exact hp3.map _) ?_
    rw [List.pairwise_map, List.pairwise_iff_getElem]
    intro i j hi hj hij
    have hi' : i < d'.size := by simpa using hi
    have hj' : j < d'.size := by simpa using hj
    have := hsort i j (Nat.zero_le _) hij (by omega)
    rw [ltS, decide_eq_false_iff_not, getElem!_pos d' i hi', getElem!_pos d' j hj'] at this
    simp only [Array.getElem_toList]
    unfold leI
    rw [decide_eq_true_eq]
    omega
  refine ⟨rfl, sortWorld_grownB _ _ _ _ _ _ _, fun j k hk => ?_⟩
  have hjl : j < d'.size := by have := (List.getElem?_eq_some_iff.1 hk).1; rw [ordI_len] at this; omega
  unfold sortWorld
  rw [cell?_grow _ _ _ (by rw [size_putRow]; exact hlt)]
  have := cell?_putRow (encN (fun x : {k : Nat // k < L.length} => x.1)) (Sort.ahead w n) g 0 d d' hH hs1 j hjl
  rw [Nat.zero_add] at this
  rw [this]
  rw [← hord, List.getElem?_map] at hk
  have e : d'.toList[j]? = some d'[j]! := by rw [getElem!_pos d' j hjl]; simp [hjl]
  rw [e] at hk
  simp only [Option.map_some, Option.some.injEq] at hk
  show some (Value.int .i64 ((d'[j]!.val : Nat) : Int)) = _
  rw [hk]
def mkI (n : Nat) : Array Value := madeCells (Value.int .i64 0).cells (n * 1)
theorem mkI_size (n : Nat) : (mkI n).size = n * 1 := size_madeCells _ _
theorem make_i (n : Nat) (hn : n ≤ 1000000) (u : World) : (Instr.makeSlice 36 (.int .i64 0) (.int .i64 (n : Int))).run Try.prog u = .ok (.slice (some ⟨u.heap.size, 0, none⟩) 0 n) (u.alloc (.cells (mkI n) 3)) := by
  obtain ⟨i0, hi0, hz0, hz1, hz2⟩ := info_parts infoIb
  have h := run_make (P := Try.prog) u 36 3 i0 _ Try.underlying36 hi0 hz0 .i64 .i64 0 n (by omega) (by omega) (by rw [hz2]; omega) (by omega)
  rw [hz1] at h
  exact h
theorem own_cap {w : World} {base : Nat} {t : TypeId} {n k g cap : Nat} {xs : List Value} (h : w.ownsRow base t k (.slice (some ⟨g, 0, none⟩) n cap) n xs) : n ≤ cap ∧ cap ≤ maxLen := by
  rcases h.2 with ⟨e, _⟩ | ⟨g', cap', cur, e, _, _, h1, h2, _⟩
  · cases e
  · injection e with _ _ e3
    subst e3
    exact ⟨h1, h2⟩
theorem range_snoc (k : Nat) : ints (List.range (k + 1)) = ints (List.range k) ++ [.int .i64 (k : Int)] := by rw [List.range_succ, ints_snoc]
set_option maxHeartbeats 4000000 in
set_option maxRecDepth 100000 in
theorem tried_c (v : Value) (L : List Rl) (w : World) (hl : L.length ≤ 12) (hv : Ru w v L) : Calls Try.prog 32 #[v] w fun e w' => ∃ s, e = .returned s ∧ PlK w' s (ordI L) ∧ Below w.heap.size w w' := by
  rcases hv with ⟨rfl, A, cap, rfl⟩ | ⟨b, o, cap, rfl, hb, hc⟩
  · have B0 := below1 w (.cells (mkI 0) 3)
    have hmk : ∀ u : World, (Instr.makeSlice 36 (.int .i64 0) (.int .i64 0)).run Try.prog u = .ok (.slice (some ⟨u.heap.size, 0, none⟩) 0 0) (u.alloc (.cells (mkI 0) 3)) := make_i 0 (by omega)
    have hcon := AnyF.slices_SortFunc_none { Try.sortF with } (some ⟨w.heap.size, 0, none⟩) 0 (.func (.func 24) #[.slice A 0 cap] #[]) (w.alloc (.cells (mkI 0) 3))
    change Calls Try.prog 46 _ _ _ at hcon
    go_enter Try.func32, Try.ntmps32
    go_wp2
    refine wp_loop_rounds 1 ?_
    rw [rounds_succ]
    go_wp2_with (go_at_call 46; refine hcon.mono ?_; rintro e w' ⟨rfl, rfl⟩)
    go_ret
    exact ⟨_, rfl, ⟨_, 0, by rw [ordI_nil]; rfl, by rw [ordI_nil]; exact Nat.zero_le _, Nat.zero_le _, fun h => absurd ordI_nil h⟩, B0⟩
  · by_cases h0 : L = []
    · subst h0
      have B0 := below1 w (.cells (mkI 0) 3)
      have hmk : ∀ u : World, (Instr.makeSlice 36 (.int .i64 0) (.int .i64 0)).run Try.prog u = .ok (.slice (some ⟨u.heap.size, 0, none⟩) 0 0) (u.alloc (.cells (mkI 0) 3)) := make_i 0 (by omega)
      have hcon := AnyF.slices_SortFunc_none { Try.sortF with } (some ⟨w.heap.size, 0, none⟩) 0 (.func (.func 24) #[.slice (some ⟨b, o, none⟩) 0 cap] #[]) (w.alloc (.cells (mkI 0) 3))
      change Calls Try.prog 46 _ _ _ at hcon
      clear hc
      go_enter Try.func32, Try.ntmps32
      go_wp2
      refine wp_loop_rounds 1 ?_
      rw [rounds_succ]
      go_wp2_with (go_at_call 46; refine hcon.mono ?_; rintro e w' ⟨rfl, rfl⟩)
      go_ret
      exact ⟨_, rfl, ⟨_, 0, by rw [ordI_nil]; rfl, by rw [ordI_nil]; exact Nat.zero_le _, Nat.zero_le _, fun h => absurd ordI_nil h⟩, B0⟩
    · have hlz : (L.length : Int) ≤ 12 := by omega
      have HC := Lib.hid hc
      have H0 := Lib.hid h0
      obtain ⟨i1, hi1, hz0, hz1, hz2⟩ := info_parts infoIb
      have hmk := make_i L.length (by omega)
      have B0 := Lib.hid (below1 w (.cells (mkI L.length) 3))
      have O0 : Hid ((w.alloc (.cells (mkI L.length) 3)).ownsRow w.heap.size 3 1 (.slice (some ⟨w.heap.size, 0, none⟩) 0 L.length) 0 (ints (List.range 0))) := World.ownsRow_made w _ _ (Nat.le_refl _) (by unfold maxLen; omega) (mkI_size _)
      have HN : Hid (w.heap.size < (w.alloc (.cells (mkI L.length) 3)).heap.size) := by show w.heap.size < _; simp
      clear hc h0
      go_enter Try.func32, Try.ntmps32
      go_wp2
      go_loopg [3, 4, 10] L.length (fun gk s3 _ s10 wr => ∃ (k g cp : Nat), k ≤ L.length ∧ gk = L.length - k ∧ s10 = .int .i64 k ∧ s3 = .slice (some ⟨g, 0, none⟩) k cp ∧ g < wr.heap.size ∧ Below w.heap.size w wr ∧ wr.ownsRow w.heap.size 3 1 (.slice (some ⟨g, 0, none⟩) k cp) k (ints (List.range k)))
      case atStart => exact ⟨0, w.heap.size, L.length, Nat.zero_le _, rfl, rfl, by simp, HN.out, B0.out, O0.out⟩
      case round =>
        clear B0 O0 HN hmk
        obtain ⟨k, g, cp, hk, rfl, rfl, rfl, hgl, B, O⟩ := hrel
        by_cases hlt : k < L.length
        · have hltz : (k : Int) < (L.length : Int) := by omega
          have hb1 := below1 wr (.cells #[.int .i64 (k : Int)] 3)
          have N1 : Blk (wr.alloc (.cells #[.int .i64 (k : Int)] 3)) wr.heap.size 3 #[.int .i64 (k : Int)] := Blk.new wr _ _
          have B1 := B.trans (hb1.mono B.size)
          have O1 := own_on O hb1
          have hz := B.size
          clear B O hb1
          go_wp2_with (at_builtin; refine wpList_append_lies _ rfl (.tmp 13) (.tmp 15) 36 rfl w.heap.size 3 i1 _ 1 8 Try.underlying36 hi1 hz0 hz1 hz2 rfl (by decide) _ k (ints (List.range k)) rfl O1 ⟨wr.heap.size, 0, none⟩ 1 1 [.int .i64 (k : Int)] rfl rfl (World.news_of_block N1) (by intro u hu; simp only [List.mem_singleton] at hu; subst hu; rfl) (by omega) (by unfold maxLen; omega) (by omega) (by simp; omega) _ rfl ?_)
          intro g2 cp2 w4 O4 hg4 _ hlt4
          have B4 := B1.grown hg4 B1.size (fun j hj => by have := (O1.lt j hj).1; omega)
          clear B1 O1 N1 hg4
          go_wp2
          go_roundg (L.length - (k + 1))
          case measure => omega
          case rel => exact ⟨k + 1, g2, cp2, by omega, rfl, by go_num, rfl, hlt4, B4, by rw [range_snoc]; exact O4⟩
        · have hltz : ¬ (k : Int) < (L.length : Int) := by omega
          obtain rfl : k = L.length := by omega
          have hg1 := (O.lt g rfl).1
          have hcap := Lib.hid (own_cap O)
          have hcon := tsort_c L b o cap g cp w.heap.size wr hl H0.out (fun k r h => (HC.out k r h).on B) (by omega) O
          have HB : Hid (∀ w', wr.grownBy w' (some g) → Below w.heap.size w w') := fun w' hg => B.grown hg B.size (fun j hj => by simp at hj; omega)
          clear B O HC
          go_wp2_with (go_at_call 46; refine hcon.mono ?_; rintro e w1 ⟨rfl, hg, hcells⟩)
          go_ret
          exact ⟨_, rfl, ⟨_, cp, by rw [ordI_len]; rfl, by rw [ordI_len]; exact hcap.out.1, hcap.out.2, fun _ => ⟨g, rfl, Nat.lt_of_lt_of_le hgl hg.size, hcells⟩⟩, HB.out _ hg⟩
end Go.Proofs

namespace Go.Proofs.Hd
open Go.RowKit
def Cb.same (a b : Cb) : Bool := (a.vh == b.vh && a.vl == b.vl) && (a.ch == b.ch && a.cl == b.cl)
theorem Cb.same_iff (a b : Cb) : a.same b = true ↔ a = b := by
  cases a; cases b
  simp [Cb.same, and_assoc]
/-- How many bits a cube cares for. -/
def Cb.size (c : Cb) : Nat := cnt c.K 128
theorem cnt_le_of {p q : Nat → Bool} (n : Nat) (h : ∀ j, j < n → p j = true → q j = true) : cnt p n ≤ cnt q n := by
  induction n with
  | zero => exact Nat.le_refl _
  | succ n ih =>
    rw [cnt, cnt]
    have h1 := ih (fun j hj => h j (by omega))
    have h2 := h n (by omega)
    cases hp : p n with
    | false => simp; omega
    | true => rw [h2 hp]; omega
theorem cnt_eq_of {p q : Nat → Bool} (n : Nat) (h : ∀ j, j < n → p j = true → q j = true) (he : cnt p n = cnt q n) : ∀ j, j < n → p j = q j := by
  induction n with
  | zero => intro j hj; omega
  | succ n ih =>
    rw [cnt, cnt] at he
    have h1 := cnt_le_of n (fun j hj => h j (by omega))
    have h2 := h n (by omega)
    have h3 : p n = q n := by
      cases hp : p n with
      | true => rw [h2 hp]
      | false => cases hq : q n with
        | false => rfl
        | true => rw [hp, hq] at he; simp at he; omega
    intro j hj
    by_cases e : j = n
    · subst e; exact h3
    · exact ih (fun j hj => h j (by omega)) (by rw [h3] at he; omega) j (by omega)
theorem wit_size {a b : Cb} (h : a.wit b = true) : b.size ≤ a.size := cnt_le_of 128 ((Cb.wit_iff a b).1 h).2.2.1
theorem cb_ext {a b : Cb} (hv : ∀ j, j < 128 → a.V j = b.V j) (hk : ∀ j, j < 128 → a.K j = b.K j) : a = b := by
  obtain ⟨e1, e2⟩ := head_ext hv
  obtain ⟨e3, e4⟩ := head_ext hk
  cases a; cases b; simp_all
theorem wit_same_size {a b : Cb} (h : a.wit b = true) (he : b.size = a.size) : a = b := by
  obtain ⟨h1, h2, h3, h4⟩ := (Cb.wit_iff a b).1 h
  have hk := cnt_eq_of 128 h3 he
  refine cb_ext (fun j hj => ?_) (fun j hj => (hk j hj).symm)
  cases hb : b.K j with
  | true => exact h4 j hj (h3 j hj hb) hb
  | false =>
    have ha : a.K j = false := by rw [← hk j hj, hb]
    rw [open_V hj h1 ha, open_V hj h2 hb]
theorem wit_has {a b : Cb} (x y : BitVec 64) (h : a.wit b = true) (hh : a.has x y = true) : b.has x y = true := by
  obtain ⟨h1, h2, h3, h4⟩ := (Cb.wit_iff a b).1 h
  rw [Cb.has_iff] at *
  intro j hj
  have g := hh j hj
  cases hb : b.K j with
  | true =>
    have ha := h3 j hj hb
    rw [ha, Bool.and_true] at g
    rw [Bool.and_true, g, h4 j hj ha hb]
  | false => rw [open_V hj h2 hb, Bool.and_false]
/-- Cube a, number i, is not wanted beside cube b, number k. -/
def spareBy (a : Cb) (i : Nat) (b : Cb) (k : Nat) : Bool := (k != i) && (a.wit b && (!a.same b || decide (k < i)))
/-- Number i of L is not wanted. -/
def spare (L : List Cb) (i : Nat) : Bool := (List.range L.length).any fun k => match L[i]?, L[k]? with
  | some a, some b => spareBy a i b k
  | _, _ => false
def leanL (L : List Cb) : List Cb := (List.range L.length).filterMap fun i => if spare L i = true then none else L[i]?
theorem leanL_mem {L : List Cb} {c : Cb} : c ∈ leanL L ↔ ∃ i, L[i]? = some c ∧ spare L i = false := by
  unfold leanL
  rw [List.mem_filterMap]
  constructor
  · rintro ⟨i, _, h⟩
    by_cases hs : spare L i = true
    · rw [if_pos hs] at h; cases h
    · rw [if_neg hs] at h; exact ⟨i, h, by simpa using hs⟩
  · rintro ⟨i, h, hs⟩
    exact ⟨i, List.mem_range.2 (List.getElem?_eq_some_iff.1 h).1, by rw [hs]; simpa using h⟩
theorem spare_iff {L : List Cb} {i : Nat} {a : Cb} (ha : L[i]? = some a) : spare L i = true ↔ ∃ k b, L[k]? = some b ∧ k ≠ i ∧ a.wit b = true ∧ (a ≠ b ∨ k < i) := by
  unfold spare
  rw [List.any_eq_true]
  constructor
  · rintro ⟨k, hk, h⟩
    rw [ha] at h
    cases hb : L[k]? with
    | none => rw [hb] at h; cases h
    | some b =>
      rw [hb] at h
      simp only [spareBy, Bool.and_eq_true, Bool.or_eq_true, bne_iff_ne, ne_eq, Bool.not_eq_true', decide_eq_true_eq] at h
      refine ⟨k, b, hb, h.1, h.2.1, h.2.2.imp (fun e c => ?_) id⟩
      rw [(Cb.same_iff a b).2 c] at e; cases e
  · rintro ⟨k, b, hb, h1, h2, h3⟩
    refine ⟨k, List.mem_range.2 (List.getElem?_eq_some_iff.1 hb).1, ?_⟩
    rw [ha, hb]
    simp only [spareBy, Bool.and_eq_true, Bool.or_eq_true, bne_iff_ne, ne_eq, Bool.not_eq_true', decide_eq_true_eq]
    refine ⟨h1, h2, h3.imp (fun c => ?_) id⟩
    cases e : a.same b with
    | false => rfl
    | true => exact absurd ((Cb.same_iff a b).1 e) c
/-- Each sound cube of a list lies within one that is kept. -/
theorem kept_over {L : List Cb} (s : Nat) : ∀ (i : Nat) (a : Cb), a.size ≤ s → L[i]? = some a → a.snd = true → ∃ b ∈ leanL L, a.wit b = true := by
  induction s with
  | zero =>
    intro i
    induction i using Nat.strongRecOn with
    | ind i ih =>
      intro a hs ha hsnd
      cases hsp : spare L i with
      | false => exact ⟨a, leanL_mem.2 ⟨i, ha, hsp⟩, wit_self hsnd⟩
      | true =>
        obtain ⟨k, b, hb, _, hw, hor⟩ := (spare_iff ha).1 hsp
        have hz := wit_size hw
        have e := wit_same_size hw (by omega)
        subst e
        exact ih k (hor.resolve_left (fun h => h rfl)) a hs hb hsnd
  | succ s ihs =>
    intro i
    induction i using Nat.strongRecOn with
    | ind i ih =>
      intro a hs ha hsnd
      cases hsp : spare L i with
      | false => exact ⟨a, leanL_mem.2 ⟨i, ha, hsp⟩, wit_self hsnd⟩
      | true =>
        obtain ⟨k, b, hb, _, hw, hor⟩ := (spare_iff ha).1 hsp
        have hz := wit_size hw
        by_cases e : a = b
        · subst e
          exact ih k (hor.resolve_left (fun h => h rfl)) a hs hb hsnd
        · have hlt : b.size < a.size := Nat.lt_of_le_of_ne hz (fun c => e (wit_same_size hw c))
          obtain ⟨c, hc, hwc⟩ := ihs k b (by omega) hb ((Cb.wit_iff a b).1 hw).2.1
          exact ⟨c, hc, wit_trans hw hwc⟩
def anyHas (L : List Cb) (x y : BitVec 64) : Bool := L.any fun c => c.has x y
/-- A list of sound cubes has the headers that it has without its spare cubes. -/
theorem lean_has {L : List Cb} (hs : ∀ c ∈ L, c.snd = true) (x y : BitVec 64) : anyHas (leanL L) x y = anyHas L x y := by
  rw [Bool.eq_iff_iff]
  unfold anyHas
  rw [List.any_eq_true, List.any_eq_true]
  constructor
  · rintro ⟨c, hc, h⟩
    obtain ⟨i, hi, _⟩ := leanL_mem.1 hc
    exact ⟨c, List.mem_of_getElem? hi, h⟩
  · rintro ⟨c, hc, h⟩
    obtain ⟨i, hi⟩ := List.mem_iff_getElem?.1 hc
    obtain ⟨b, hb, hw⟩ := kept_over c.size i c (Nat.le_refl _) hi (hs c hc)
    exact ⟨b, hb, wit_has x y hw h⟩
theorem lean_sub {L : List Cb} {c : Cb} (h : c ∈ leanL L) : c ∈ L := by
  obtain ⟨i, hi, _⟩ := leanL_mem.1 h
  exact List.mem_of_getElem? hi
end Go.Proofs.Hd

namespace Go.Proofs.Hd
open Go.RowKit
/-- The four words of a cube lie in block b from place o on. -/
def At4 (w : World) (b o : Nat) (c : Cb) : Prop := w.cell? ⟨b, o, none⟩ = some (.int .u64 (uv c.vh)) ∧ w.cell? ⟨b, o + 1, none⟩ = some (.int .u64 (uv c.vl)) ∧ w.cell? ⟨b, o + 2, none⟩ = some (.int .u64 (uv c.ch)) ∧ w.cell? ⟨b, o + 3, none⟩ = some (.int .u64 (uv c.cl))
theorem At4.on {w w' : World} {b o : Nat} {c : Cb} (h : At4 w b o c) (hb : Below w.heap.size w w') : At4 w' b o c := ⟨on_some hb h.1, on_some hb h.2.1, on_some hb h.2.2.1, on_some hb h.2.2.2⟩
/-- v is a slice that reads as the cubes L. -/
def Pl (w : World) (v : Value) (L : List Cb) : Prop := (L = [] ∧ ∃ A cap, v = .slice A 0 cap) ∨ ∃ b off cap, v = .slice (some ⟨b, off, none⟩) L.length cap ∧ L.length ≤ maxLen ∧ b < w.heap.size ∧ ∀ k c, L[k]? = some c → At4 w b (off + k * 4) c
theorem Pl.on {w w' : World} {v : Value} {L : List Cb} (h : Pl w v L) (hb : Below w.heap.size w w') : Pl w' v L := by
  rcases h with h | ⟨b, off, cap, e, hl, hs, h⟩
  · exact .inl h
  · exact .inr ⟨b, off, cap, e, hl, Nat.lt_of_lt_of_le hs hb.size, fun k c hk => (h k c hk).on hb⟩
/-- What an index says: the first place at which q holds, or -1. -/
def IdxIs {α : Type} (q : α → Bool) (L : List α) (r : Int) : Prop := (r = -1 ∧ ∀ (k : Nat) (c : α), L[k]? = some c → q c = false) ∨ ∃ (k : Nat) (c : α), r = k ∧ L[k]? = some c ∧ q c = true ∧ ∀ (j : Nat) (d : α), j < k → L[j]? = some d → q d = false
theorem IdxIs.ex {α : Type} (q : α → Bool) (L : List α) : ∃ r, IdxIs q L r := by
  by_cases h : ∃ (k : Nat) (c : α), L[k]? = some c ∧ q c = true
  · have : ∃ k : Nat, ∃ c, L[k]? = some c ∧ q c = true := h
    classical
    obtain ⟨k, ⟨c, hc, hq⟩, hmin⟩ : ∃ k : Nat, (∃ c, L[k]? = some c ∧ q c = true) ∧ ∀ j, j < k → ¬ ∃ c, L[j]? = some c ∧ q c = true := by
      obtain ⟨k, hk⟩ := this
      induction k using Nat.strongRecOn with
      | ind k ih =>
        by_cases hj : ∃ j, j < k ∧ ∃ c, L[j]? = some c ∧ q c = true
        · obtain ⟨j, hj, hc⟩ := hj; exact ih j hj hc
        · exact ⟨k, hk, fun j hjk hc => hj ⟨j, hjk, hc⟩⟩
    refine ⟨k, .inr ⟨k, c, rfl, hc, hq, fun j d hj hd => ?_⟩⟩
    cases e : q d with
    | false => rfl
    | true => exact absurd ⟨d, hd, e⟩ (hmin j hj)
  · refine ⟨-1, .inl ⟨rfl, fun k c hc => ?_⟩⟩
    cases e : q c with
    | false => rfl
    | true => exact absurd ⟨k, c, hc, e⟩ h
theorem IdxIs.hit {α : Type} {q : α → Bool} {L : List α} {r : Int} (h : IdxIs q L r) {k : Nat} {c : α} (hc : L[k]? = some c) (hq : q c = true) (hb : ∀ (j : Nat) (d : α), j < k → L[j]? = some d → q d = false) : r = k := by
  rcases h with ⟨_, h⟩ | ⟨k', c', rfl, hc', hq', hb'⟩
  · rw [h k c hc] at hq; cases hq
  · rcases Nat.lt_trichotomy k k' with hlt | rfl | hlt
    · rw [hb' k c hlt hc] at hq; cases hq
    · rfl
    · rw [hb k' c' hlt hc'] at hq'; cases hq'
theorem IdxIs.miss {α : Type} {q : α → Bool} {L : List α} {r : Int} (h : IdxIs q L r) (hb : ∀ (j : Nat) (d : α), L[j]? = some d → q d = false) : r = -1 := by
  rcases h with ⟨e, _⟩ | ⟨k', c', rfl, hc', hq', hb'⟩
  · exact e
  · rw [hb k' c' hc'] at hq'; cases hq'
theorem IdxIs.any {α : Type} {q : α → Bool} {L : List α} {r : Int} (h : IdxIs q L r) : L.any q = decide (0 ≤ r) := by
  rcases h with ⟨rfl, h⟩ | ⟨k', c', rfl, hc', hq', hb'⟩
  · rw [show decide ((0 : Int) ≤ -1) = false by decide, List.any_eq_false]
    intro c hc
    obtain ⟨k, hk⟩ := List.mem_iff_getElem?.1 hc
    rw [h k c hk]; simp
  · rw [show decide ((0 : Int) ≤ (k' : Int)) = true by simp, List.any_eq_true]
    exact ⟨c', List.mem_of_getElem? hc', hq'⟩
end Go.Proofs.Hd
namespace Go.Proofs
open Go.RowKit Go.Proofs.Hd Go.Shelf Go.Lib
attribute [local go_sem] uv_nonneg

set_option maxHeartbeats 2000000 in
set_option maxRecDepth 100000 in
theorem idx_cubes (g : Nat) (lb : Array Value) (q : Cb → Bool) (eg : ∀ args w, (callFunc g args).run Try.prog w = .ok (.enter g args) w) (v : Value) (L : List Cb) (w : World) (r : Int) (hr : IdxIs q L r)
    (hp : ∀ W c, c ∈ L → Below w.heap.size w W → Calls Try.prog g (#[.agg #[.int .u64 (uv c.vh), .int .u64 (uv c.vl), .int .u64 (uv c.ch), .int .u64 (uv c.cl)]] ++ lb) W fun e w' => e = .returned (.bool (q c)) ∧ Below w.heap.size w w') (hv : Pl w v L) :
    Calls Try.prog 81 #[v, .func (.func g) #[] lb] w fun e w' => e = .returned (.int .i64 r) ∧ Below w.heap.size w w' := by
  rcases hv with ⟨rfl, A, cap, rfl⟩ | ⟨b, off, cap, rfl, hlen, hb, hc⟩
  · obtain rfl : r = -1 := hr.miss (fun j d h => by simp at h)
    clear hp hr
    go_enter Try.func81, Try.ntmps81
    go_wp2
    refine wp_loop_rounds 1 ?_
    rw [rounds_succ]
    go_wp2
    go_ret
    exact ⟨rfl, Below.refl _ _⟩
  · have HR := Lib.hid hr
    have HC := Lib.hid hc
    have HP := Lib.hid hp
    have hl : (L.length : Int) ≤ 9223372036854775807 := by unfold maxLen at hlen; omega
    clear hr hc hp
    go_enter Try.func81, Try.ntmps81
    go_wp2
    go_loopg [5, 8] L.length (fun gg _ s8 wr => ∃ kk : Nat, kk ≤ L.length ∧ L.length - kk ≤ gg ∧ s8 = .int .i64 kk ∧ Hid (Below w.heap.size w wr) ∧ Hid (∀ (j : Nat) (d : Cb), j < kk → L[j]? = some d → q d = false))
    case atStart => exact ⟨0, Nat.zero_le _, by omega, rfl, Below.refl _ w, fun j d hj => absurd hj (Nat.not_lt_zero _)⟩
    case round =>
      obtain ⟨kk, hkk, hg, rfl, BW, A⟩ := hrel
      by_cases hlt : kk < L.length
      · have hltz : (kk : Int) < (L.length : Int) := by omega
        obtain ⟨c, hc⟩ : ∃ c, L[kk]? = some c := ⟨_, List.getElem?_eq_getElem hlt⟩
        obtain ⟨c0, c1, c2, c3⟩ := (HC.out kk c hc).on (w' := wr) BW.out
        have hcall := HP.out wr c (List.mem_of_getElem? hc) BW.out
        have B := Lib.hid hc
        clear HP HC hc
        cases hq : q c with
        | true =>
          rw [hq] at hcall
          go_wp2_with (go_at_fn g; refine hcall.mono ?_; rintro e w' ⟨rfl, hb'⟩)
          go_ret
          exact ⟨by rw [HR.out.hit B.out hq A.out]; rfl, hb'⟩
        | false =>
          rw [hq] at hcall
          go_wp2_with (go_at_fn g; refine hcall.mono ?_; rintro e w' ⟨rfl, hb'⟩)
          go_roundg (L.length - (kk + 1))
          case measure => omega
          case rel =>
            refine ⟨kk + 1, by omega, by omega, by go_num, hb', fun j d hj hd => ?_⟩
            by_cases e : j = kk
            · subst e
              have := B.out
              rw [hd] at this; injection this with this; subst this; exact hq
            · exact A.out j d (by omega) hd
      · have hltz : ¬ (kk : Int) < (L.length : Int) := by omega
        have hk : kk = L.length := by omega
        have := HR.out.miss (fun j d hd => A.out j d (by rw [hk]; exact (List.getElem?_eq_some_iff.1 hd).1) hd)
        subst this
        go_wp2
        go_ret
        exact ⟨rfl, BW.out⟩
theorem cont_cubes (g : Nat) (lb : Array Value) (q : Cb → Bool) (eg : ∀ args w, (callFunc g args).run Try.prog w = .ok (.enter g args) w) (v : Value) (L : List Cb) (w : World) (x : Bool) (hx : L.any q = x)
    (hp : ∀ W c, c ∈ L → Below w.heap.size w W → Calls Try.prog g (#[.agg #[.int .u64 (uv c.vh), .int .u64 (uv c.vl), .int .u64 (uv c.ch), .int .u64 (uv c.cl)]] ++ lb) W fun e w' => e = .returned (.bool (q c)) ∧ Below w.heap.size w w') (hv : Pl w v L) :
    Calls Try.prog 64 #[v, .func (.func g) #[] lb] w fun e w' => e = .returned (.bool x) ∧ Below w.heap.size w w' := by
  obtain ⟨r, hr⟩ := IdxIs.ex q L
  have hcon := idx_cubes g lb q eg v L w r hr hp hv
  have ha := hr.any
  rw [hx] at ha
  subst ha
  clear hr hx hp hv
  go_enter Try.func64, Try.ntmps64
  go_wp2_with (go_at_call 81; refine hcon.mono ?_; rintro e w' ⟨rfl, hb'⟩)
  go_ret
  exact ⟨rfl, hb'⟩
theorem psound1_c (c : Cb) (w : World) : Calls Try.prog 63 #[.agg #[.int .u64 (uv c.vh), .int .u64 (uv c.vl), .int .u64 (uv c.ch), .int .u64 (uv c.cl)]] w fun e w' => e = .returned (.bool (!c.snd)) ∧ Below w.heap.size w w' := by
  have B0 := below1 w (.cells #[.int .u64 (uv c.vh), .int .u64 (uv c.vl), .int .u64 (uv c.ch), .int .u64 (uv c.cl)] 51)
  go_enter Try.func63, Try.ntmps63
  go_wp2_with fail
  (with_reducible refine (csound _ c _ rfl).mono ?_)
  rintro e w1 ⟨rfl, hb⟩
  have L := B0.trans (hb.mono B0.size)
  clear B0 hb
  go_wp2
  go_ret
  exact ⟨rfl, L⟩
/-- Is a list of cubes sound? -/
def sndL (L : List Cb) : Bool := decide (L.length ≤ 200) && L.all Cb.snd
theorem any_not (L : List Cb) : (L.any fun c => !c.snd) = !L.all Cb.snd := by induction L <;> simp_all
theorem psound_c (x : Bool) (v : Value) (L : List Cb) (w : World) (hx : sndL L = x) (hv : Pl w v L) : Calls Try.prog 55 #[v] w fun e w' => e = .returned (.bool x) ∧ Below w.heap.size w w' := by
  have eg : ∀ args w, (callFunc 63 args).run Try.prog w = .ok (.enter 63 args) w := enters_of Try.func63 (by kernel_rfl) rfl
  have hcon := cont_cubes 63 #[] (fun c => !c.snd) eg v L w (!L.all Cb.snd) (any_not L) (fun W c _ hb => (psound1_c c W).mono fun e w' h => ⟨h.1, hb.trans (h.2.mono hb.size)⟩) hv
  obtain ⟨A, cap, hA⟩ : ∃ A cap, v = .slice A L.length cap := by
    rcases hv with ⟨rfl, A, cap, rfl⟩ | ⟨b, off, cap, rfl, _⟩ <;> exact ⟨_, _, rfl⟩
  subst hA
  clear hv
  unfold sndL at hx
  subst hx
  generalize L.all Cb.snd = y at hcon ⊢
  by_cases hl : L.length ≤ 200
  · have hz : (L.length : Int) ≤ 200 := by omega
    rw [show decide (L.length ≤ 200) = true by simpa using hl]
    go_enter Try.func55, Try.ntmps55
    go_wp2_with (go_at_call 64; refine hcon.mono ?_; rintro e w' ⟨rfl, hb'⟩)
    go_ret
    exact ⟨by simp, hb'⟩
  · have hz : ¬ (L.length : Int) ≤ 200 := by omega
    rw [show decide (L.length ≤ 200) = false by simpa using hl]
    go_enter Try.func55, Try.ntmps55
    go_wp2
    go_ret
    exact ⟨by simp, Below.refl _ _⟩
end Go.Proofs

namespace Go.Proofs.Hd
open Go.RowKit
/-- Are all matches sound? -/
def sndA (L : List Rl) : Bool := L.all fun r => r.m.snd
theorem any_notR (L : List Rl) : (L.any fun r => !r.m.snd) = !sndA L := by unfold sndA; induction L <;> simp_all
end Go.Proofs.Hd
namespace Go.Proofs
open Go.RowKit Go.Proofs.Hd Go.Sort Go.Shelf Go.Lib
attribute [local go_sem] uv_nonneg
set_option maxHeartbeats 2000000 in
set_option maxRecDepth 100000 in
theorem idx_rules (g : Nat) (lb : Array Value) (q : Rl → Bool) (eg : ∀ args w, (callFunc g args).run Try.prog w = .ok (.enter g args) w) (v : Value) (L : List Rl) (w : World) (r : Int) (hl : L.length ≤ 4611686018427387904) (hr : IdxIs q L r)
    (hp : ∀ W c, c ∈ L → Below w.heap.size w W → Calls Try.prog g (#[.agg #[.int .i64 c.pri, .int .u64 (uv c.m.vh), .int .u64 (uv c.m.vl), .int .u64 (uv c.m.ch), .int .u64 (uv c.m.cl), .int .i64 c.kind, .int .i64 c.port, .int .i64 c.tab, .int .u64 (uv c.s.vh), .int .u64 (uv c.s.vl), .int .u64 (uv c.s.ch), .int .u64 (uv c.s.cl)]] ++ lb) W fun e w' => e = .returned (.bool (q c)) ∧ Below w.heap.size w w') (hv : Ru w v L) :
    Calls Try.prog 54 #[v, .func (.func g) #[] lb] w fun e w' => e = .returned (.int .i64 r) ∧ Below w.heap.size w w' := by
  rcases hv with ⟨rfl, A, cap, rfl⟩ | ⟨b, off, cap, rfl, hb, hc⟩
  · obtain rfl : r = -1 := hr.miss (fun j d h => by simp at h)
    clear hp hr
    go_enter Try.func54, Try.ntmps54
    go_wp2
    refine wp_loop_rounds 1 ?_
    rw [rounds_succ]
    go_wp2
    go_ret
    exact ⟨rfl, Below.refl _ _⟩
  · have HR := Lib.hid hr
    have HC := Lib.hid hc
    have HP := Lib.hid hp
    have hlz : (L.length : Int) ≤ 4611686018427387904 := by omega
    clear hr hc hp
    go_enter Try.func54, Try.ntmps54
    go_wp2
    go_loopg [5, 8] L.length (fun gg _ s8 wr => ∃ kk : Nat, kk ≤ L.length ∧ L.length - kk ≤ gg ∧ s8 = .int .i64 kk ∧ Hid (Below w.heap.size w wr) ∧ Hid (∀ (j : Nat) (d : Rl), j < kk → L[j]? = some d → q d = false))
    case atStart => exact ⟨0, Nat.zero_le _, by omega, rfl, Below.refl _ w, fun j d hj => absurd hj (Nat.not_lt_zero _)⟩
    case round =>
      obtain ⟨kk, hkk, hg, rfl, BW, A⟩ := hrel
      by_cases hlt : kk < L.length
      · have hltz : (kk : Int) < (L.length : Int) := by omega
        obtain ⟨c, hc⟩ : ∃ c, L[kk]? = some c := ⟨_, List.getElem?_eq_getElem hlt⟩
        obtain ⟨c0, c1, c2, c3, c4, c5, c6, c7, c8, c9, c10, c11⟩ := ((HC.out kk c hc).on (w' := wr) BW.out).out
        have hcall := HP.out wr c (List.mem_of_getElem? hc) BW.out
        have B := Lib.hid hc
        clear HP HC hc
        cases hq : q c with
        | true =>
          rw [hq] at hcall
          go_wp2_with (go_at_fn g; refine hcall.mono ?_; rintro e w' ⟨rfl, hb'⟩)
          go_ret
          exact ⟨by rw [HR.out.hit B.out hq A.out]; rfl, hb'⟩
        | false =>
          rw [hq] at hcall
          go_wp2_with (go_at_fn g; refine hcall.mono ?_; rintro e w' ⟨rfl, hb'⟩)
          go_roundg (L.length - (kk + 1))
          case measure => omega
          case rel =>
            refine ⟨kk + 1, by omega, by omega, by go_num, hb', fun j d hj hd => ?_⟩
            by_cases e : j = kk
            · subst e
              have := B.out
              rw [hd] at this; injection this with this; subst this; exact hq
            · exact A.out j d (by omega) hd
      · have hltz : ¬ (kk : Int) < (L.length : Int) := by omega
        have hm : r = -1 := HR.out.miss (fun j d hd => A.out j d (by have := (List.getElem?_eq_some_iff.1 hd).1; omega) hd)
        clear HC HP HR
        subst hm
        go_wp2
        go_ret
        exact ⟨rfl, BW.out⟩
set_option maxRecDepth 100000 in
theorem tsound1_c (r : Rl) (w : World) : Calls Try.prog 43 #[.agg #[.int .i64 r.pri, .int .u64 (uv r.m.vh), .int .u64 (uv r.m.vl), .int .u64 (uv r.m.ch), .int .u64 (uv r.m.cl), .int .i64 r.kind, .int .i64 r.port, .int .i64 r.tab, .int .u64 (uv r.s.vh), .int .u64 (uv r.s.vl), .int .u64 (uv r.s.ch), .int .u64 (uv r.s.cl)]] w fun e w' => e = .returned (.bool (!r.m.snd)) ∧ Below w.heap.size w w' := by
  have B0 := below1 w (.cells #[.int .i64 r.pri, .int .u64 (uv r.m.vh), .int .u64 (uv r.m.vl), .int .u64 (uv r.m.ch), .int .u64 (uv r.m.cl), .int .i64 r.kind, .int .i64 r.port, .int .i64 r.tab, .int .u64 (uv r.s.vh), .int .u64 (uv r.s.vl), .int .u64 (uv r.s.ch), .int .u64 (uv r.s.cl)] 55)
  go_enter Try.func43, Try.ntmps43
  go_wp2_with fail
  (with_reducible refine (csnd_c _ r.m _ rfl).mono ?_)
  rintro e w1 ⟨rfl, hb⟩
  have hL := B0.trans (hb.mono B0.size)
  clear B0 hb
  go_wp2
  go_ret
  exact ⟨rfl, hL⟩
theorem tsound_c (x : Bool) (v : Value) (L : List Rl) (w : World) (hl : L.length ≤ 4611686018427387904) (hx : sndA L = x) (hv : Ru w v L) : Calls Try.prog 30 #[v] w fun e w' => e = .returned (.bool x) ∧ Below w.heap.size w w' := by
  have eg : ∀ args w, (callFunc 43 args).run Try.prog w = .ok (.enter 43 args) w := enters_of Try.func43 (by kernel_rfl) rfl
  obtain ⟨r, hr⟩ := IdxIs.ex (fun r : Rl => !r.m.snd) L
  have hcon := idx_rules 43 #[] (fun r => !r.m.snd) eg v L w r hl hr (fun W c _ hb => (tsound1_c c W).mono fun e w' h => ⟨h.1, hb.trans (h.2.mono hb.size)⟩) hv
  have ha := hr.any
  rw [any_notR, hx] at ha
  have hcon2 : Calls Try.prog 44 #[v, .func (.func 43) #[] #[]] w fun e w' => e = .returned (.bool (!x)) ∧ Below w.heap.size w w' := by
    rw [ha]
    clear hr hx hv ha
    go_enter Try.func44, Try.ntmps44
    go_wp2_with (go_at_call 54; refine hcon.mono ?_; rintro e w' ⟨rfl, hb'⟩)
    go_ret
    exact ⟨rfl, hb'⟩
  clear hcon hr ha hx hv
  go_enter Try.func30, Try.ntmps30
  go_wp2_with (go_at_call 44; refine hcon2.mono ?_; rintro e w' ⟨rfl, hb'⟩)
  go_ret
  exact ⟨by simp, hb'⟩
set_option maxHeartbeats 2000000 in
theorem index_c (v : Value) (ks : List Nat) (n k : Nat) (w : World) (hl : ks.length ≤ 1000000) (hk : ks[k]? = some n) (hb : ∀ (j m : Nat), j < k → ks[j]? = some m → m ≠ n) (hv : PlK w v ks) :
    Calls Try.prog 34 #[v, .int .i64 (n : Int)] w fun e w' => e = .returned (.int .i64 (k : Int)) ∧ w' = w := by
  obtain ⟨A, cap, rfl, hc1, hc2, hf⟩ := hv
  have hkl : k < ks.length := (List.getElem?_eq_some_iff.1 hk).1
  obtain ⟨g, rfl, hg, hc⟩ := hf (by intro e; rw [e] at hkl; simp at hkl)
  have HC := Lib.hid hc
  have HK := Lib.hid hk
  have HB := Lib.hid hb
  have hlz : (ks.length : Int) ≤ 1000000 := by omega
  clear hf hc hk hb
  go_enter Try.func34, Try.ntmps34
  go_wp2
  go_loopg [5, 8] ks.length (fun gg _ s8 wr => ∃ kk : Nat, kk ≤ k ∧ ks.length - kk ≤ gg ∧ s8 = .int .i64 kk ∧ wr = w)
  case atStart => exact ⟨0, Nat.zero_le _, by omega, rfl, rfl⟩
  case round =>
    obtain ⟨kk, hkk, hg2, rfl, rfl⟩ := hrel
    have hltz : (kk : Int) < (ks.length : Int) := by omega
    obtain ⟨m, hm⟩ : ∃ m, ks[kk]? = some m := ⟨_, List.getElem?_eq_getElem (by omega)⟩
    have hcell := HC.out kk m hm
    rcases Nat.lt_or_ge kk k with h1 | h1
    · have hne := HB.out kk m h1 hm
      have hnz : ¬ (n : Int) = (m : Int) := by omega
      have hnn : ¬ n = m := by omega
      clear hm
      go_wp2
      go_roundg (ks.length - (kk + 1))
      case measure => omega
      case rel => exact ⟨kk + 1, by omega, Nat.le_refl _, by go_num, rfl⟩
    · obtain rfl : kk = k := by omega
      have e := HK.out
      rw [hm] at e
      injection e with e
      subst e
      go_wp2
      go_ret
      exact ⟨rfl, rfl⟩
end Go.Proofs

namespace Go.Proofs
open Go.RowKit Go.Proofs.Hd Go.Sort
attribute [local go_sem] uv_nonneg
theorem ones_g (h l : BitVec 64) (r : Int) (w : World) (hr : ((ones h + ones l : Nat) : Int) = r) : Calls Try.prog 84 #[.agg #[.int .u64 (uv h), .int .u64 (uv l)]] w fun e w' => e = .returned (.int .i64 r) ∧ Grew w w' := by
  subst hr
  have h1 := ones_le h
  have h2 := ones_le l
  have e1 : ((ones h + ones l : Nat) : Int) = (ones h : Int) + (ones l : Int) := by omega
  rw [e1]
  have hw : IntKind.i64.wrap ((ones h : Int) + (ones l : Int)) = (ones h : Int) + (ones l : Int) := by rw [IntKind.wrap_i64]; omega
  go_enter Try.func84, Try.ntmps84
  go_wp2
  go_quiet ((go_at_call 97; exact Calls.quiet_of_same ((ones64_c _ _).mono fun e w' h => ⟨h.1, h.2.symm⟩)))
  go_wp2
  go_ret
  exact ⟨rfl, (Grew.alloc1 _ _).trans (Grew.drewN1 _ _)⟩
set_option maxHeartbeats 1000000 in
theorem or2_g (x y r : Int) (g : Nat) (w : World) (hr : or2 x y = r) (hc : w.cell? ⟨g, 0, none⟩ = some (.int .i64 x) ∧ w.cell? ⟨g, 1, none⟩ = some (.int .i64 y)) :
    Calls Try.prog 83 #[.slice (some ⟨g, 0, none⟩) 2 2] w fun e w' => e = .returned (.int .i64 r) ∧ Grew w w' := by
  obtain ⟨c0, c1⟩ := hc
  unfold or2 at hr
  by_cases hx : x = 0
  · rw [if_pos hx] at hr; subst hr hx
    by_cases hy : y = 0
    · subst hy
      go_enter Try.func83, Try.ntmps83
      go_wp2
      refine wp_loop_rounds 3 ?_
      rw [rounds_succ]
      go_wp2
      rw [rounds_succ]
      go_wp2
      rw [rounds_succ]
      go_wp2
      go_ret
      exact ⟨rfl, Grew.refl _⟩
    · go_enter Try.func83, Try.ntmps83
      go_wp2
      refine wp_loop_rounds 3 ?_
      rw [rounds_succ]
      go_wp2
      rw [rounds_succ]
      go_wp2
      go_ret
      exact ⟨rfl, Grew.refl _⟩
  · rw [if_neg hx] at hr; subst hr
    go_enter Try.func83, Try.ntmps83
    go_wp2
    refine wp_loop_rounds 3 ?_
    rw [rounds_succ]
    go_wp2
    go_ret
    exact ⟨rfl, Grew.refl _⟩
set_option maxHeartbeats 2000000 in
set_option maxRecDepth 100000 in
theorem wide1_g (oi oj x y r : Int) (ci cj : Cb) (i j n b off cap pb : Nat) (w : World) (hi : i < n) (hj : j < n) (hn : n ≤ maxLen) (HI : Hid (((ones ci.ch + ones ci.cl : Nat) : Int) = oi)) (HJ : Hid (((ones cj.ch + ones cj.cl : Nat) : Int) = oj)) (hx : icmp oi oj = x) (hy : icmp (i : Int) (j : Int) = y) (hr : or2 x y = r)
    (hp : w.cell? ⟨pb, 0, none⟩ = some (.slice (some ⟨b, off, none⟩) n cap)) (h1 : At4 w b (off + i * 4) ci) (h2 : At4 w b (off + j * 4) cj) :
    Calls Try.prog 82 #[.int .i64 i, .int .i64 j, .pointer (some ⟨pb, 0, none⟩)] w fun e w' => e = .returned (.int .i64 r) ∧ Grew w w' := by
  have hiz : (i : Int) < (n : Int) := by omega
  have hjz : (j : Int) < (n : Int) := by omega
  have hnz : (n : Int) ≤ 9223372036854775807 := by unfold maxLen at hn; omega
  have KEEP : ∀ u1 u2 : World, Grew u1 u2 → (Grew w u1 ∧ u1.cell? ⟨pb, 0, none⟩ = some (.slice (some ⟨b, off, none⟩) n cap) ∧ u1.cell? ⟨b, off + i * 4 + 2, none⟩ = some (.int .u64 (uv ci.ch)) ∧ u1.cell? ⟨b, off + i * 4 + 3, none⟩ = some (.int .u64 (uv ci.cl)) ∧ u1.cell? ⟨b, off + j * 4 + 2, none⟩ = some (.int .u64 (uv cj.ch)) ∧ u1.cell? ⟨b, off + j * 4 + 3, none⟩ = some (.int .u64 (uv cj.cl))) → (Grew w u2 ∧ u2.cell? ⟨pb, 0, none⟩ = some (.slice (some ⟨b, off, none⟩) n cap) ∧ u2.cell? ⟨b, off + i * 4 + 2, none⟩ = some (.int .u64 (uv ci.ch)) ∧ u2.cell? ⟨b, off + i * 4 + 3, none⟩ = some (.int .u64 (uv ci.cl)) ∧ u2.cell? ⟨b, off + j * 4 + 2, none⟩ = some (.int .u64 (uv cj.ch)) ∧ u2.cell? ⟨b, off + j * 4 + 3, none⟩ = some (.int .u64 (uv cj.cl))) := fun _ _ hb h => ⟨h.1.trans hb, on_some hb.below h.2.1, on_some hb.below h.2.2.1, on_some hb.below h.2.2.2.1, on_some hb.below h.2.2.2.2.1, on_some hb.below h.2.2.2.2.2⟩
  have S0 : Grew w w ∧ w.cell? ⟨pb, 0, none⟩ = some (.slice (some ⟨b, off, none⟩) n cap) ∧ w.cell? ⟨b, off + i * 4 + 2, none⟩ = some (.int .u64 (uv ci.ch)) ∧ w.cell? ⟨b, off + i * 4 + 3, none⟩ = some (.int .u64 (uv ci.cl)) ∧ w.cell? ⟨b, off + j * 4 + 2, none⟩ = some (.int .u64 (uv cj.ch)) ∧ w.cell? ⟨b, off + j * 4 + 3, none⟩ = some (.int .u64 (uv cj.cl)) := ⟨Grew.refl _, hp, h1.2.2.1, h1.2.2.2, h2.2.2.1, h2.2.2.2⟩
  clear hp h1 h2
  go_enter Try.func82, Try.ntmps82
  go_wp2_with fail
  refine wp_region_held_drew (S := fun w' => Grew w w' ∧ w'.cell? ⟨pb, 0, none⟩ = some (.slice (some ⟨b, off, none⟩) n cap) ∧ w'.cell? ⟨b, off + i * 4 + 2, none⟩ = some (.int .u64 (uv ci.ch)) ∧ w'.cell? ⟨b, off + i * 4 + 3, none⟩ = some (.int .u64 (uv ci.cl)) ∧ w'.cell? ⟨b, off + j * 4 + 2, none⟩ = some (.int .u64 (uv cj.ch)) ∧ w'.cell? ⟨b, off + j * 4 + 3, none⟩ = some (.int .u64 (uv cj.cl))) (by kernel_rfl) (KEEP _ _ (Grew.drew1 _) S0) (fun hHeld => ?_)
  clear S0
  refine wpAnyH_take (i := 0) (oi := ⟨some 6, _, _, _, _, _⟩) (v := ?vu0) rfl (by kernel_rfl) (by kernel_rfl) (by kernel_rfl) (fun _ _ _ h => h) (Or.inl ⟨by rfl, ?yu0⟩) hHeld ?ru0
  case yu0 => (intro w' hSw; (try dsimp only at hSw); go_simp; try (with_reducible rfl))
  simp only [Act.put, List.setIfInBounds_toArray, List.set_cons_zero, List.set_cons_succ]
  refine wpAnyH_take (i := 1) (oi := ⟨some 7, _, _, _, _, _⟩) (v := ?vu1) rfl (by kernel_rfl) (by kernel_rfl) (by kernel_rfl) (fun _ _ _ h => h) (Or.inl ⟨by rfl, ?yu1⟩) hHeld ?ru1
  case yu1 => (intro w' hSw; (try dsimp only at hSw); go_simp; try (with_reducible rfl))
  simp only [Act.put, List.setIfInBounds_toArray, List.set_cons_zero, List.set_cons_succ]
  refine wpAnyH_take (i := 2) (oi := ⟨some 8, _, _, _, _, _⟩) (v := ?vu2) rfl (by kernel_rfl) (by kernel_rfl) (by kernel_rfl) (fun _ _ _ h => h) (Or.inl ⟨by rfl, ?yu2⟩) hHeld ?ru2
  case yu2 => (intro w' hSw; (try dsimp only at hSw); go_simp; try (with_reducible rfl))
  simp only [Act.put, List.setIfInBounds_toArray, List.set_cons_zero, List.set_cons_succ]
  refine wpAnyH_take (i := 3) (oi := ⟨some 9, _, _, _, _, _⟩) (v := ?vu3) rfl (by kernel_rfl) (by kernel_rfl) (by kernel_rfl) (fun _ _ _ h => h) (Or.inl ⟨by rfl, ?yu3⟩) hHeld ?ru3
  case yu3 => (intro w' hSw; (try dsimp only at hSw); go_simp; try (with_reducible rfl))
  simp only [Act.put, List.setIfInBounds_toArray, List.set_cons_zero, List.set_cons_succ]
  refine wpAnyH_take (i := 4) (oi := ⟨some 10, _, _, _, _, _⟩) (v := ?vu4) rfl (by kernel_rfl) (by kernel_rfl) (by kernel_rfl) (fun _ _ _ h => h) (Or.inl ⟨by rfl, ?yu4⟩) hHeld ?ru4
  case yu4 => (intro w' hSw; (try dsimp only at hSw); go_simp; try (with_reducible rfl))
  simp only [Act.put, List.setIfInBounds_toArray, List.set_cons_zero, List.set_cons_succ]
  refine wpAnyH_take (i := 6) (oi := ⟨some 12, _, _, _, _, _⟩) (v := ?vu6) rfl (by kernel_rfl) (by kernel_rfl) (by kernel_rfl) (fun _ _ _ h => h) (Or.inl ⟨by rfl, ?yu6⟩) hHeld ?ru6
  case yu6 => (intro w' hSw; (try dsimp only at hSw); go_simp; try (with_reducible rfl))
  simp only [Act.put, List.setIfInBounds_toArray, List.set_cons_zero, List.set_cons_succ]
  refine wpAnyH_take (i := 7) (oi := ⟨some 13, _, _, _, _, _⟩) (v := ?vu7) rfl (by kernel_rfl) (by kernel_rfl) (by kernel_rfl) (fun _ _ _ h => h) (Or.inl ⟨by rfl, ?yu7⟩) hHeld ?ru7
  case yu7 => (intro w' hSw; (try dsimp only at hSw); go_simp; try (with_reducible rfl))
  simp only [Act.put, List.setIfInBounds_toArray, List.set_cons_zero, List.set_cons_succ]
  refine wpAnyH_take (i := 8) (oi := ⟨some 14, _, _, _, _, _⟩) (v := ?vu8) rfl (by kernel_rfl) (by kernel_rfl) (by kernel_rfl) (fun _ _ _ h => h) (Or.inl ⟨by rfl, ?yu8⟩) hHeld ?ru8
  case yu8 => (intro w' hSw; (try dsimp only at hSw); go_simp; try (with_reducible rfl))
  simp only [Act.put, List.setIfInBounds_toArray, List.set_cons_zero, List.set_cons_succ]
  refine wpAnyH_take (i := 9) (oi := ⟨some 15, _, _, _, _, _⟩) (v := ?vu9) rfl (by kernel_rfl) (by kernel_rfl) (by kernel_rfl) (fun _ _ _ h => h) (Or.inl ⟨by rfl, ?yu9⟩) hHeld ?ru9
  case yu9 => (intro w' hSw; (try dsimp only at hSw); go_simp; try (with_reducible rfl))
  simp only [Act.put, List.setIfInBounds_toArray, List.set_cons_zero, List.set_cons_succ]
  refine wpAnyH_take (i := 10) (oi := ⟨some 16, _, _, _, _, _⟩) (v := ?vu10) rfl (by kernel_rfl) (by kernel_rfl) (by kernel_rfl) (fun _ _ _ h => h) (Or.inl ⟨by rfl, ?yu10⟩) hHeld ?ru10
  case yu10 => (intro w' hSw; (try dsimp only at hSw); go_simp; try (with_reducible rfl))
  simp only [Act.put, List.setIfInBounds_toArray, List.set_cons_zero, List.set_cons_succ]
  refine wpAnyH_take (i := 13) (oi := ⟨some 19, _, _, _, _, _⟩) (v := ?vu13) rfl (by kernel_rfl) (by kernel_rfl) (by kernel_rfl) (fun _ _ _ h => h) (Or.inl ⟨by rfl, ?yu13⟩) hHeld ?ru13
  case yu13 => (intro w' hSw; (try dsimp only at hSw); go_simp; try (with_reducible rfl))
  simp only [Act.put, List.setIfInBounds_toArray, List.set_cons_zero, List.set_cons_succ]
  refine wpAnyH_take (i := 14) (oi := ⟨some 20, _, _, _, _, _⟩) (v := ?vu14) rfl (by kernel_rfl) (by kernel_rfl) (by kernel_rfl) (fun _ _ _ h => h) (Or.inl ⟨by rfl, ?yu14⟩) hHeld ?ru14
  case yu14 => (intro w' hSw; (try dsimp only at hSw); go_simp; try (with_reducible rfl))
  simp only [Act.put, List.setIfInBounds_toArray, List.set_cons_zero, List.set_cons_succ]
  refine wpAnyH_ready (rs := [5]) (by kernel_rfl) (by simp) ?_
  refine AllReadyH.cons (o := ⟨some 11, _, _, _, _, _⟩) rfl (fun K hK => ?_) AllReadyH.nil
  go_simp
  (with_reducible refine (ones_g ci.ch ci.cl oi _ HI.out).mono ?_)
  rintro e wq5 ⟨rfl, hb⟩
  (try dsimp only)
  refine hK.out _ _ (KEEP _ _ hb hHeld) (fun hNext => ?_)
  clear hK K hHeld hb
  have hHeld := hNext
  clear hNext
  try simp only [Act.put, List.setIfInBounds_toArray, List.set_cons_zero, List.set_cons_succ]
  refine wpAnyH_ready (rs := [11]) (by kernel_rfl) (by simp) ?_
  refine AllReadyH.cons (o := ⟨some 17, _, _, _, _, _⟩) rfl (fun K hK => ?_) AllReadyH.nil
  go_simp
  (with_reducible refine (ones_g cj.ch cj.cl oj _ HJ.out).mono ?_)
  rintro e wq11 ⟨rfl, hb⟩
  (try dsimp only)
  refine hK.out _ _ (KEEP _ _ hb hHeld) (fun hNext => ?_)
  clear hK K hHeld hb
  have hHeld := hNext
  clear hNext
  try simp only [Act.put, List.setIfInBounds_toArray, List.set_cons_zero, List.set_cons_succ]
  refine wpAnyH_ready (rs := [12]) (by kernel_rfl) (by simp) ?_
  refine AllReadyH.cons (o := ⟨some 18, _, _, _, _, _⟩) rfl (fun K hK => ?_) AllReadyH.nil
  go_simp
  (with_reducible refine (cmpI_g _ _ x _ hx).mono ?_)
  rintro e wq12 ⟨rfl, hb⟩
  (try dsimp only)
  refine hK.out _ _ (KEEP _ _ hb hHeld) (fun hNext => ?_)
  clear hK K hHeld hb
  have hHeld := hNext
  clear hNext
  try simp only [Act.put, List.setIfInBounds_toArray, List.set_cons_zero, List.set_cons_succ]
  refine wpAnyH_ready (rs := [15]) (by kernel_rfl) (by simp) ?_
  refine AllReadyH.cons (o := ⟨some 21, _, _, _, _, _⟩) rfl (fun K hK => ?_) AllReadyH.nil
  go_simp
  (with_reducible refine (cmpI_g _ _ y _ hy).mono ?_)
  rintro e wq15 ⟨rfl, hb⟩
  (try dsimp only)
  refine hK.out _ _ (KEEP _ _ hb hHeld) (fun hNext => ?_)
  clear hK K hHeld hb
  have hHeld := hNext
  clear hNext
  try simp only [Act.put, List.setIfInBounds_toArray, List.set_cons_zero, List.set_cons_succ]
  refine wpAnyH_ready (rs := [16]) (by kernel_rfl) (by simp) ?_
  refine AllReadyH.cons (o := ⟨some 22, _, _, _, _, _⟩) rfl (fun K hK => ?_) AllReadyH.nil
  go_simp
  have hb := Grew.alloc1 wq15 (.cells #[.int .i64 x, .int .i64 y] 3)
  have N : Blk (wq15.alloc (.cells #[.int .i64 x, .int .i64 y] 3)) wq15.heap.size 3 #[.int .i64 x, .int .i64 y] := Blk.new wq15 _ _
  have n0 := N.cell 0
  have n1 := N.cell 1
  refine hK.out _ _ (KEEP _ _ hb hHeld) (fun hNext => ?_)
  clear hK K hHeld hb N
  have hHeld := hNext
  clear hNext
  try simp only [Act.put, List.setIfInBounds_toArray, List.set_cons_zero, List.set_cons_succ]
  refine wpAnyH_ready (rs := [17]) (by kernel_rfl) (by simp) ?_
  refine AllReadyH.cons (o := ⟨some 23, _, _, _, _, _⟩) rfl (fun K hK => ?_) AllReadyH.nil
  go_simp
  (with_reducible refine (or2_g x y r _ _ hr ⟨n0, n1⟩).mono ?_)
  rintro e wq17 ⟨rfl, hb⟩
  (try dsimp only)
  refine hK.out _ _ (KEEP _ _ hb hHeld) (fun hNext => ?_)
  clear hK K hHeld hb
  have hHeld := hNext
  clear hNext
  try simp only [Act.put, List.setIfInBounds_toArray, List.set_cons_zero, List.set_cons_succ]
  refine wpAnyH_take (i := 18) (oi := ⟨some 5, _, _, _, _, _⟩) (v := ?vu18) rfl (by kernel_rfl) (by kernel_rfl) (by kernel_rfl) (fun _ _ _ h => h) (Or.inl ⟨by rfl, ?yu18⟩) hHeld ?ru18
  case yu18 => (intro w' hSw; (try dsimp only at hSw); go_simp; try (with_reducible rfl))
  simp only [Act.put, List.setIfInBounds_toArray, List.set_cons_zero, List.set_cons_succ]
  refine wpAnyH_done (by kernel_rfl) ?_ _
  clear KEEP
  have G := hHeld.1
  clear hHeld
  go_wp2
  go_ret
  exact ⟨rfl, G⟩
end Go.Proofs
