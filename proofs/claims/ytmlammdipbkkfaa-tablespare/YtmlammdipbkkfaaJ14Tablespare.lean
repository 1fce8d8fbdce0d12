/-
  The walk of customhouselaw06.TableSpare: it returns true. Conditions as each theorem lists them.
-/
import Derived.Test.YtmlammdipbkkfaaJ13Tablespare
namespace Go.Proofs.Hd
open Go.RowKit
theorem Ru.drop {w : World} {b o n c c' : Nat} {L : List Rl} (h : Ru w (.slice (some ⟨b, o, none⟩) L.length c) L) (hb : b < w.heap.size) : Ru w (.slice (some ⟨b, o + n * 12, none⟩) (L.length - n) c') (L.drop n) := by
  rcases h with ⟨rfl, A', cap', e⟩ | ⟨b', off, cap', e, _, hc⟩
  · exact .inl ⟨by simp, _, _, by simp; exact ⟨rfl, rfl⟩⟩
  · injection e with e1 e2 e3
    injection e1 with e1
    injection e1 with e4 e5
    subst e4 e5
    refine .inr ⟨b, o + n * 12, c', by rw [List.length_drop], hb, fun j r hj => ?_⟩
    rw [List.getElem?_drop] at hj
    have := hc _ r hj
    rwa [show o + (n + j) * 12 = o + n * 12 + j * 12 by omega] at this
end Go.Proofs.Hd
namespace Go.Proofs
open Go.RowKit Go.Proofs.Hd Go.Sort Go.Shelf Go.Lib
attribute [local go_sem] uv_nonneg uv_and uv_or uv_xor uv_andNot eq2_self eqR_self
attribute [local go_sem high] run_eq2 run_eqR
theorem sizeHd : (Try.prog.info? 25).map (·.size) = some 2 := by kernel_rfl
set_option maxHeartbeats 32000000 in
set_option maxRecDepth 100000 in
theorem tpr_early (A : Option Addr) (nn cap : Nat) (M : List Rl) (hh hl : BitVec 64) (wh : Int) (w : World) (hm : M.length ≤ 8) (hf : ∀ W, Below w.heap.size w W → Calls Try.prog 14 #[.slice A nn cap] W fun e w' => e = .returned (.slice A M.length cap) ∧ w' = W) (hv : Ru w (.slice A M.length cap) M) (n0 : Int) (hq : ∀ W, Ru W (.slice A M.length cap) M → Calls Try.prog 15 #[.slice A M.length cap] W fun e w' => ∃ A2 c2, e = .returned (.tuple #[.slice A2 0 c2, .int .i64 n0]) ∧ Below W.heap.size W w') : Calls Try.prog 7 #[.slice A nn cap, .agg #[.int .u64 (uv hh), .int .u64 (uv hl)], .int .u8 wh] w fun e w' => e = .returned (.bool true) ∧ Below w.heap.size w w' := by
  have hmz : (M.length : Int) ≤ 8 := by omega
  have B0 := below1 w (.cells #[.int .u64 (uv hh), .int .u64 (uv hl)] 25)
  have hf0 := hf _ B0
  have hq0 := hq _ (hv.on B0)
  clear hf hq hv
  by_cases hn : n0 = 0
  · subst hn
    go_enter Try.func7, Try.ntmps7
    go_wp2_with fail
    (with_reducible refine hf0.mono ?_)
    rintro e w1 ⟨rfl, rfl⟩
    clear hf0
    go_wp2_with fail
    (with_reducible refine hq0.mono ?_)
    rintro e w2 ⟨A2, c2, rfl, hb⟩
    have B2 := B0.trans (hb.mono B0.size)
    clear hq0 hb B0
    go_wp2_with fail
    (with_reducible refine (awake6_c _).mono ?_)
    rintro e w3 ⟨rfl, hb⟩
    have B3 := B2.trans (hb.mono B2.size)
    clear hb B2
    go_wp2_with fail
    (with_reducible refine (awake6_c _).mono ?_)
    rintro e w4 ⟨rfl, hb⟩
    have B4 := B3.trans (hb.mono B3.size)
    clear hb B3
    go_wp2
    go_ret
    exact ⟨rfl, B4⟩
  · have hnd : decide (n0 = 0) = false := decide_eq_false hn
    go_enter Try.func7, Try.ntmps7
    go_wp2_with fail
    (with_reducible refine hf0.mono ?_)
    rintro e w1 ⟨rfl, rfl⟩
    clear hf0
    go_wp2_with fail
    (with_reducible refine hq0.mono ?_)
    rintro e w2 ⟨A2, c2, rfl, hb⟩
    have B2 := B0.trans (hb.mono B0.size)
    clear hq0 hb B0
    go_wp2_with fail
    (with_reducible refine (awake6_c _).mono ?_)
    rintro e w3 ⟨rfl, hb⟩
    have B3 := B2.trans (hb.mono B2.size)
    clear hb B2
    go_wp2_with fail
    (with_reducible refine (awake6_c _).mono ?_)
    rintro e w4 ⟨rfl, hb⟩
    have B4 := B3.trans (hb.mono B3.size)
    clear hb B3
    go_wp2
    go_ret
    exact ⟨rfl, B4⟩
set_option maxHeartbeats 32000000 in
set_option maxRecDepth 100000 in
theorem tpr_go (A : Option Addr) (nn cap : Nat) (M : List Rl) (hh hl : BitVec 64) (wh : Int) (w : World) (hm : M.length ≤ 8) (hf : ∀ W, Below w.heap.size w W → Calls Try.prog 14 #[.slice A nn cap] W fun e w' => e = .returned (.slice A M.length cap) ∧ w' = W) (hv : Ru w (.slice A M.length cap) M) (hs : sndA M = true) (hb1 : 0 ≤ wh) (hb2 : wh ≤ 255) (hcap : M.length ≤ cap) (xs : List Nat) (hx : idlU M M.length = some xs) (hne : xs ≠ []) : Calls Try.prog 7 #[.slice A nn cap, .agg #[.int .u64 (uv hh), .int .u64 (uv hl)], .int .u8 wh] w fun e w' => e = .returned (.bool true) ∧ Below w.heap.size w w' := by
  have hmz : (M.length : Int) ≤ 8 := by omega
  have B0 := below1 w (.cells #[.int .u64 (uv hh), .int .u64 (uv hl)] 25)
  have hf0 := hf _ B0
  obtain ⟨i1, hi1, hz0, hz1, hz2⟩ := info_parts infoRu
  have hq0 := (idle_any _ M _ (by omega) hs (hv.on B0)).mono fun e w' h => h.1 xs hx
  have hxl := (idlU_len hx).1
  have hxp : 0 < xs.length := List.length_pos_iff.2 hne
  have hxz : (xs.length : Int) ≤ 8 := by omega
  have hxn : ¬ (xs.length : Int) = 0 := by omega
  have hxn2 : ¬ xs.length = 0 := by omega
  obtain ⟨q, hqd⟩ : ∃ q, q = wh.toNat % xs.length := ⟨_, rfl⟩
  have hql : q < xs.length := by rw [hqd]; exact Nat.mod_lt _ hxp
  have hqm : wh % (xs.length : Int) = (q : Int) := by
    obtain ⟨u, hu⟩ : ∃ u : Nat, wh = (u : Int) := ⟨wh.toNat, by omega⟩
    rw [hqd, hu, Int.toNat_natCast]; exact (Int.natCast_emod u xs.length).symm
  have hqt : wh.tmod (xs.length : Int) = (q : Int) := by rw [Int.tmod_eq_emod_of_nonneg hb1, hqm]
  have hqz : (q : Int) < (xs.length : Int) := by omega
  obtain ⟨n, hn⟩ : ∃ n, xs[q]? = some n := ⟨_, List.getElem?_eq_getElem hql⟩
  have hnm : n ∈ xs := List.mem_of_getElem? hn
  have hnl : n < M.length := (idlU_len hx).2 n hnm
  have hnz : (n : Int) < (M.length : Int) := by omega
  have HNF := Lib.hid (idle_not hh hl hs hx hnm)
  have HXQ := Lib.hid hn
  have HVA := Lib.hid hv
  have X0 : Blk (w.alloc (.cells #[.int .u64 (uv hh), .int .u64 (uv hl)] 25)) w.heap.size 25 #[.int .u64 (uv hh), .int .u64 (uv hl)] := Blk.new w _ _
  have HX0 := Lib.hid X0
  obtain ⟨A', c', e', hA⟩ := hv.form
  injection e' with e1 _ e3
  subst e1 e3
  obtain ⟨b, o, rfl, hbl, hpc⟩ := hA (by intro h; rw [h] at hnl; simp at hnl)
  have HPC := Lib.hid hpc
  have hwr : IntKind.i64.wrap wh = wh := by rw [IntKind.wrap_i64]; omega
  clear hf hv hs hx hn hnm hqd X0 hA hpc
  go_enter Try.func7, Try.ntmps7
  go_wp2_with fail
  (with_reducible refine hf0.mono ?_)
  rintro e w1 ⟨rfl, rfl⟩
  clear hf0
  go_wp2_with fail
  (with_reducible refine hq0.mono ?_)
  rintro e w2 ⟨v2, rfl, O2, hb⟩
  have HB2 := Lib.hid (B0.trans (hb.mono B0.size))
  have HH2 := Lib.hid (HX0.out.on hb)
  have HK2 := Lib.hid (own_PlK O2)
  obtain ⟨A2, c2, rfl, _⟩ := own_form O2
  clear hq0 hb B0 HX0 O2
  go_wp2_with fail
  (with_reducible refine (awake6_c _).mono ?_)
  rintro e w4 ⟨rfl, hb⟩
  have HB4 := Lib.hid (HB2.out.trans (hb.mono HB2.out.size))
  have HH4 := Lib.hid (HH2.out.on hb)
  obtain ⟨A3, c3, e3, _, _, hk3⟩ := HK2.out.on hb
  injection e3 with e31 _ e33
  subst e31 e33
  obtain ⟨g2, rfl, _, hcells⟩ := hk3 hne
  have hcell := hcells q n HXQ.out
  clear hb HB2 HH2 HK2 hk3 hcells
  go_upto_region 6 with (fail)
  go_cut [10] (fun i wc => ∃ v9, i = v9 ∧ Below w4.heap.size w4 wc ∧ wc.ownsRow w4.heap.size 55 12 v9 (offI M n).length (flatR (offI M n)))
  case first =>
    have hn1 : IntKind.i64.wrap ((n : Int) + 1) = (n : Int) + 1 := by rw [IntKind.wrap_i64]; omega
    have hnc : (n : Int) ≤ (cap : Int) := by omega
    have hn2 : (n : Int) + 1 ≤ (M.length : Int) := by omega
    have hn3 : (0 : Int) ≤ (n : Int) + 1 := by omega
    have hn4 : (n : Int) ≤ (n : Int) + 1 := by omega
    have hru : Hid (∀ W, Below w4.heap.size w4 W → Ru W (.slice (some ⟨b, o, none⟩) M.length cap) M) := fun W h => (HVA.out.on HB4.out).on h
    have hbw : Hid (∀ W, Below w4.heap.size w4 W → b < W.heap.size) := fun W h => by have h1 := HB4.out.size; have h2 := h.size; omega
    have HS1 : Hid (∀ W, Below w4.heap.size w4 W → Src W 12 (.slice (some ⟨b, o, none⟩) n cap) n (flatR (M.take n))) := fun W h => by
      have := ((hru.out W h).take n).src
      rwa [show (M.take n).length = n by rw [List.length_take]; omega] at this
    have hdl : (M.drop (n + 1)).length = M.length - (n + 1) := List.length_drop
    have hdl2 : (M.drop (n + 1)).length ≤ 8 := by omega
    by_cases hcn : cap = n + 1
    · have hM1 : M.length = n + 1 := by omega
      have HS2 : Hid (∀ W, Below w4.heap.size w4 W → Src W 12 (.slice (some ⟨b, o, none⟩) 0 0) (M.drop (n + 1)).length (flatR (M.drop (n + 1)))) := fun W _ => by
        rw [show M.drop (n + 1) = [] from List.drop_eq_nil_of_le (by omega)]
        exact (show Ru W (.slice (some ⟨b, o, none⟩) 0 0) [] from .inl ⟨rfl, _, _, rfl⟩).src
      clear hM1
      subst hcn
      refine wp_region_held_drew (S := fun w' => Below w4.heap.size w4 w') (by kernel_rfl) (Below.refl _ w4).drew (fun hHeld => ?_)
      generalize w4.drew = u0 at hHeld ⊢
      refine wpAnyH_take (i := 1) (oi := ⟨some 45, _, _, _, _, _⟩) (v := ?vca1) rfl (by kernel_rfl) (by kernel_rfl) (by kernel_rfl) (fun _ _ _ h => h) (Or.inl ⟨by rfl, ?yca1⟩) hHeld ?rca1
      case yca1 => (intro w' hSw; (try dsimp only at hSw); go_simp; try (with_reducible rfl))
      simp only [Act.put, List.setIfInBounds_toArray, List.set_cons_zero, List.set_cons_succ]
      refine wpAnyH_take (i := 2) (oi := ⟨some 46, _, _, _, _, _⟩) (v := ?vca2) rfl (by kernel_rfl) (by kernel_rfl) (by kernel_rfl) (fun _ _ _ h => h) (Or.inl ⟨by rfl, ?yca2⟩) hHeld ?rca2
      case yca2 => (intro w' hSw; (try dsimp only at hSw); go_simp; try (with_reducible rfl))
      simp only [Act.put, List.setIfInBounds_toArray, List.set_cons_zero, List.set_cons_succ]
      refine wpAnyH_take (i := 3) (oi := ⟨some 47, _, _, _, _, _⟩) (v := ?vca3) rfl (by kernel_rfl) (by kernel_rfl) (by kernel_rfl) (fun _ _ _ h => h) (Or.inl ⟨by rfl, ?yca3⟩) hHeld ?rca3
      case yca3 => (intro w' hSw; (try dsimp only at hSw); go_simp; try (with_reducible rfl))
      simp only [Act.put, List.setIfInBounds_toArray, List.set_cons_zero, List.set_cons_succ]
      refine wpAnyH_take (i := 5) (oi := ⟨some 49, _, _, _, _, _⟩) (v := ?vca5) rfl (by kernel_rfl) (by kernel_rfl) (by kernel_rfl) (fun _ _ _ h => h) (Or.inl ⟨by rfl, ?yca5⟩) hHeld ?rca5
      case yca5 => (intro w' hSw; (try dsimp only at hSw); go_simp; try (with_reducible rfl))
      simp only [Act.put, List.setIfInBounds_toArray, List.set_cons_zero, List.set_cons_succ]
      refine wpAnyH_take (i := 6) (oi := ⟨some 50, _, _, _, _, _⟩) (v := ?vca6) rfl (by kernel_rfl) (by kernel_rfl) (by kernel_rfl) (fun _ _ _ h => h) (Or.inl ⟨by rfl, ?yca6⟩) hHeld ?rca6
      case yca6 => (intro w' hSw; (try dsimp only at hSw); go_simp; try (with_reducible rfl))
      simp only [Act.put, List.setIfInBounds_toArray, List.set_cons_zero, List.set_cons_succ]
      refine wpAnyH_take (i := 7) (oi := ⟨some 51, _, _, _, _, _⟩) (v := ?vca7) rfl (by kernel_rfl) (by kernel_rfl) (by kernel_rfl) (fun _ _ _ h => h) (Or.inl ⟨by rfl, ?yca7⟩) hHeld ?rca7
      case yca7 => (intro w' hSw; (try dsimp only at hSw); go_simp; try (with_reducible rfl))
      simp only [Act.put, List.setIfInBounds_toArray, List.set_cons_zero, List.set_cons_succ]
      refine wpAnyH_take (i := 8) (oi := ⟨some 52, _, _, _, _, _⟩) (v := ?vca8) rfl (by kernel_rfl) (by kernel_rfl) (by kernel_rfl) (fun _ _ _ h => h) (Or.inl ⟨by rfl, ?yca8⟩) hHeld ?rca8
      case yca8 => (intro w' hSw; (try dsimp only at hSw); go_simp; try (with_reducible rfl))
      simp only [Act.put, List.setIfInBounds_toArray, List.set_cons_zero, List.set_cons_succ]
      refine wpAnyH_ready (rs := [0]) (by kernel_rfl) (by simp) ?_
      refine AllReadyH.cons (o := ⟨some 44, _, _, _, _, _⟩) rfl (fun K hK => ?_) AllReadyH.nil
      go_simp
      have hb := below1 u0 (.cells #[] 55)
      refine hK.out _ _ (hHeld.trans (hb.mono hHeld.size)) (fun hNext => ?_)
      have O0 : (u0.alloc (.cells #[] 55)).ownsRow w4.heap.size 55 12 (.slice (some ⟨u0.heap.size, 0, none⟩) 0 0) 0 (flatR []) := World.ownsRow_made u0 #[] 0 hHeld.size (Nat.zero_le _) rfl
      clear hK K hHeld
      have hHeld := hNext
      clear hNext
      clear hb
      generalize hgen : (u0.alloc (.cells #[] 55)) = u1 at hHeld O0 ⊢
      clear hgen
      generalize hgen : u0.heap.size = g0 at O0 ⊢
      clear hgen
      try simp only [Act.put, List.setIfInBounds_toArray, List.set_cons_zero, List.set_cons_succ]
      refine wpAnyH_ready (rs := [4]) (by kernel_rfl) (by simp) ?_
      refine AllReadyH.cons (o := ⟨some 48, _, _, _, _, _⟩) rfl (fun K hK => ?_) AllReadyH.nil
      refine step_app _ rfl (.tmp 44) (.tmp 47) 22 rfl w4.heap.size 55 i1 _ 12 96 Try.underlying22 hi1 hz0 hz1 hz2 rfl (by decide) (.slice (some ⟨g0, 0, none⟩) 0 0) 0 (flatR []) rfl O0 (.slice (some ⟨b, o, none⟩) n (n + 1)) n (flatR (M.take n)) rfl (HS1.out _ hHeld) (by unfold maxLen; omega) (by omega) hHeld.size ?_
      intro v2 u2 O2 hg2
      have B2 := hHeld.grown hg2 hHeld.size (fun j hj => (O0.lt j hj).1)
      refine hK.out _ _ B2 (fun hNext => ?_)
      clear hK K hHeld
      have hHeld := hNext
      clear hNext
      clear O0 hg2 B2
      rw [Nat.zero_add] at O2
      simp only [flatR_nil, List.nil_append] at O2
      try simp only [Act.put, List.setIfInBounds_toArray, List.set_cons_zero, List.set_cons_succ]
      refine wpAnyH_ready (rs := [9]) (by kernel_rfl) (by simp) ?_
      refine AllReadyH.cons (o := ⟨some 53, _, _, _, _, _⟩) rfl (fun K hK => ?_) AllReadyH.nil
      refine step_app _ rfl (.tmp 48) (.tmp 52) 22 rfl w4.heap.size 55 i1 _ 12 96 Try.underlying22 hi1 hz0 hz1 hz2 rfl (by decide) v2 n (flatR (M.take n)) rfl O2 (.slice (some ⟨b, o, none⟩) 0 0) (M.drop (n + 1)).length (flatR (M.drop (n + 1))) rfl (HS2.out _ hHeld) (by unfold maxLen; omega) (by omega) hHeld.size ?_
      intro v5 u5 O5 hg5
      have B5 := hHeld.grown hg5 hHeld.size (fun j hj => (O2.lt j hj).1)
      refine hK.out _ _ B5 (fun hNext => ?_)
      clear hK K hHeld
      have hHeld := hNext
      clear hNext
      clear O2 hg5 B5
      try simp only [Act.put, List.setIfInBounds_toArray, List.set_cons_zero, List.set_cons_succ]
      refine wpAnyH_take (i := 10) (oi := ⟨some 10, _, _, _, _, _⟩) (v := ?vca10) rfl (by kernel_rfl) (by kernel_rfl) (by kernel_rfl) (fun _ _ _ h => h) (Or.inl ⟨by rfl, ?yca10⟩) hHeld ?rca10
      case yca10 => (intro w' hSw; (try dsimp only at hSw); go_simp; try (with_reducible rfl))
      simp only [Act.put, List.setIfInBounds_toArray, List.set_cons_zero, List.set_cons_succ]
      refine wpAnyH_done (by kernel_rfl) ?_ _
      go_wp2_with fail
      go_meet
      refine ⟨v5, rfl, hHeld, ?_⟩
      have el : (offI M n).length = n + (M.drop (n + 1)).length := by unfold offI; rw [List.length_append, List.length_take]; omega
      have ef : flatR (offI M n) = flatR (M.take n) ++ flatR (M.drop (n + 1)) := by unfold offI; rw [flatR_append]
      rw [el, ef]
      exact O5
    · have HS2 : Hid (∀ W, Below w4.heap.size w4 W → Src W 12 (.slice (some ⟨b, o + (n + 1) * 12, none⟩) (M.length - (n + 1)) (cap - (n + 1))) (M.drop (n + 1)).length (flatR (M.drop (n + 1)))) := fun W h => ((hru.out W h).drop (hbw.out W h)).src
      refine wp_region_held_drew (S := fun w' => Below w4.heap.size w4 w') (by kernel_rfl) (Below.refl _ w4).drew (fun hHeld => ?_)
      generalize w4.drew = u0 at hHeld ⊢
      refine wpAnyH_take (i := 1) (oi := ⟨some 45, _, _, _, _, _⟩) (v := ?vcb1) rfl (by kernel_rfl) (by kernel_rfl) (by kernel_rfl) (fun _ _ _ h => h) (Or.inl ⟨by rfl, ?ycb1⟩) hHeld ?rcb1
      case ycb1 => (intro w' hSw; (try dsimp only at hSw); go_simp; try (with_reducible rfl))
      simp only [Act.put, List.setIfInBounds_toArray, List.set_cons_zero, List.set_cons_succ]
      refine wpAnyH_take (i := 2) (oi := ⟨some 46, _, _, _, _, _⟩) (v := ?vcb2) rfl (by kernel_rfl) (by kernel_rfl) (by kernel_rfl) (fun _ _ _ h => h) (Or.inl ⟨by rfl, ?ycb2⟩) hHeld ?rcb2
      case ycb2 => (intro w' hSw; (try dsimp only at hSw); go_simp; try (with_reducible rfl))
      simp only [Act.put, List.setIfInBounds_toArray, List.set_cons_zero, List.set_cons_succ]
      refine wpAnyH_take (i := 3) (oi := ⟨some 47, _, _, _, _, _⟩) (v := ?vcb3) rfl (by kernel_rfl) (by kernel_rfl) (by kernel_rfl) (fun _ _ _ h => h) (Or.inl ⟨by rfl, ?ycb3⟩) hHeld ?rcb3
      case ycb3 => (intro w' hSw; (try dsimp only at hSw); go_simp; try (with_reducible rfl))
      simp only [Act.put, List.setIfInBounds_toArray, List.set_cons_zero, List.set_cons_succ]
      refine wpAnyH_take (i := 5) (oi := ⟨some 49, _, _, _, _, _⟩) (v := ?vcb5) rfl (by kernel_rfl) (by kernel_rfl) (by kernel_rfl) (fun _ _ _ h => h) (Or.inl ⟨by rfl, ?ycb5⟩) hHeld ?rcb5
      case ycb5 => (intro w' hSw; (try dsimp only at hSw); go_simp; try (with_reducible rfl))
      simp only [Act.put, List.setIfInBounds_toArray, List.set_cons_zero, List.set_cons_succ]
      refine wpAnyH_take (i := 6) (oi := ⟨some 50, _, _, _, _, _⟩) (v := ?vcb6) rfl (by kernel_rfl) (by kernel_rfl) (by kernel_rfl) (fun _ _ _ h => h) (Or.inl ⟨by rfl, ?ycb6⟩) hHeld ?rcb6
      case ycb6 => (intro w' hSw; (try dsimp only at hSw); go_simp; try (with_reducible rfl))
      simp only [Act.put, List.setIfInBounds_toArray, List.set_cons_zero, List.set_cons_succ]
      refine wpAnyH_take (i := 7) (oi := ⟨some 51, _, _, _, _, _⟩) (v := ?vcb7) rfl (by kernel_rfl) (by kernel_rfl) (by kernel_rfl) (fun _ _ _ h => h) (Or.inl ⟨by rfl, ?ycb7⟩) hHeld ?rcb7
      case ycb7 => (intro w' hSw; (try dsimp only at hSw); go_simp; try (with_reducible rfl))
      simp only [Act.put, List.setIfInBounds_toArray, List.set_cons_zero, List.set_cons_succ]
      refine wpAnyH_take (i := 8) (oi := ⟨some 52, _, _, _, _, _⟩) (v := ?vcb8) rfl (by kernel_rfl) (by kernel_rfl) (by kernel_rfl) (fun _ _ _ h => h) (Or.inl ⟨by rfl, ?ycb8⟩) hHeld ?rcb8
      case ycb8 => (intro w' hSw; (try dsimp only at hSw); go_simp; try (with_reducible rfl))
      simp only [Act.put, List.setIfInBounds_toArray, List.set_cons_zero, List.set_cons_succ]
      refine wpAnyH_ready (rs := [0]) (by kernel_rfl) (by simp) ?_
      refine AllReadyH.cons (o := ⟨some 44, _, _, _, _, _⟩) rfl (fun K hK => ?_) AllReadyH.nil
      go_simp
      have hb := below1 u0 (.cells #[] 55)
      refine hK.out _ _ (hHeld.trans (hb.mono hHeld.size)) (fun hNext => ?_)
      have O0 : (u0.alloc (.cells #[] 55)).ownsRow w4.heap.size 55 12 (.slice (some ⟨u0.heap.size, 0, none⟩) 0 0) 0 (flatR []) := World.ownsRow_made u0 #[] 0 hHeld.size (Nat.zero_le _) rfl
      clear hK K hHeld
      have hHeld := hNext
      clear hNext
      clear hb
      generalize hgen : (u0.alloc (.cells #[] 55)) = u1 at hHeld O0 ⊢
      clear hgen
      generalize hgen : u0.heap.size = g0 at O0 ⊢
      clear hgen
      try simp only [Act.put, List.setIfInBounds_toArray, List.set_cons_zero, List.set_cons_succ]
      refine wpAnyH_ready (rs := [4]) (by kernel_rfl) (by simp) ?_
      refine AllReadyH.cons (o := ⟨some 48, _, _, _, _, _⟩) rfl (fun K hK => ?_) AllReadyH.nil
      refine step_app _ rfl (.tmp 44) (.tmp 47) 22 rfl w4.heap.size 55 i1 _ 12 96 Try.underlying22 hi1 hz0 hz1 hz2 rfl (by decide) (.slice (some ⟨g0, 0, none⟩) 0 0) 0 (flatR []) rfl O0 (.slice (some ⟨b, o, none⟩) n cap) n (flatR (M.take n)) rfl (HS1.out _ hHeld) (by unfold maxLen; omega) (by omega) hHeld.size ?_
      intro v2 u2 O2 hg2
      have B2 := hHeld.grown hg2 hHeld.size (fun j hj => (O0.lt j hj).1)
      refine hK.out _ _ B2 (fun hNext => ?_)
      clear hK K hHeld
      have hHeld := hNext
      clear hNext
      clear O0 hg2 B2
      rw [Nat.zero_add] at O2
      simp only [flatR_nil, List.nil_append] at O2
      try simp only [Act.put, List.setIfInBounds_toArray, List.set_cons_zero, List.set_cons_succ]
      refine wpAnyH_ready (rs := [9]) (by kernel_rfl) (by simp) ?_
      refine AllReadyH.cons (o := ⟨some 53, _, _, _, _, _⟩) rfl (fun K hK => ?_) AllReadyH.nil
      refine step_app _ rfl (.tmp 48) (.tmp 52) 22 rfl w4.heap.size 55 i1 _ 12 96 Try.underlying22 hi1 hz0 hz1 hz2 rfl (by decide) v2 n (flatR (M.take n)) rfl O2 (.slice (some ⟨b, o + (n + 1) * 12, none⟩) (M.length - (n + 1)) (cap - (n + 1))) (M.drop (n + 1)).length (flatR (M.drop (n + 1))) rfl (HS2.out _ hHeld) (by unfold maxLen; omega) (by omega) hHeld.size ?_
      intro v5 u5 O5 hg5
      have B5 := hHeld.grown hg5 hHeld.size (fun j hj => (O2.lt j hj).1)
      refine hK.out _ _ B5 (fun hNext => ?_)
      clear hK K hHeld
      have hHeld := hNext
      clear hNext
      clear O2 hg5 B5
      try simp only [Act.put, List.setIfInBounds_toArray, List.set_cons_zero, List.set_cons_succ]
      refine wpAnyH_take (i := 10) (oi := ⟨some 10, _, _, _, _, _⟩) (v := ?vcb10) rfl (by kernel_rfl) (by kernel_rfl) (by kernel_rfl) (fun _ _ _ h => h) (Or.inl ⟨by rfl, ?ycb10⟩) hHeld ?rcb10
      case ycb10 => (intro w' hSw; (try dsimp only at hSw); go_simp; try (with_reducible rfl))
      simp only [Act.put, List.setIfInBounds_toArray, List.set_cons_zero, List.set_cons_succ]
      refine wpAnyH_done (by kernel_rfl) ?_ _
      go_wp2_with fail
      go_meet
      refine ⟨v5, rfl, hHeld, ?_⟩
      have el : (offI M n).length = n + (M.drop (n + 1)).length := by unfold offI; rw [List.length_append, List.length_take]; omega
      have ef : flatR (offI M n) = flatR (M.take n) ++ flatR (M.drop (n + 1)) := by unfold offI; rw [flatR_append]
      rw [el, ef]
      exact O5
  case rest =>
    obtain ⟨v9, rfl, B5, O9⟩ := hcut
    have HB5 := Lib.hid (HB4.out.trans (B5.mono HB4.out.size))
    have HH5 := Lib.hid (HH4.out.on B5)
    have HV5 := Lib.hid (HVA.out.on HB5.out)
    have HR5 := Lib.hid (own_Ru O9)
    obtain ⟨A9, c9, rfl, _⟩ := own_form O9
    have hol := offI_len hnl
    have holz : ((offI M n).length : Int) ≤ 8 := by omega
    obtain ⟨z, hz⟩ : ∃ z, fndI M hh hl = z := ⟨_, rfl⟩
    have hzr := fnd_off hh hl hnl HNF.out
    rw [hz] at hzr
    have FA : Hid (∀ W v, Ru W v M → Calls Try.prog 9 #[v, .agg #[.int .u64 (uv hh), .int .u64 (uv hl)]] W fun e w' => e = .returned (.tuple #[.int .i64 (fz z), .bool z.isSome]) ∧ Below W.heap.size W w') := fun W v h => by
      have q := find_c v M hh hl W (by omega) h
      rw [hz] at q
      exact q
    have FB : Hid (∀ W v, Ru W v (offI M n) → Calls Try.prog 9 #[v, .agg #[.int .u64 (uv hh), .int .u64 (uv hl)]] W fun e w' => e = .returned (.tuple #[.int .i64 (fz (z.map fun a => if a < n then a else a - 1)), .bool (z.map fun a => if a < n then a else a - 1).isSome]) ∧ Below W.heap.size W w') := fun W v h => by
      have q := find_c v (offI M n) hh hl W (by omega) h
      rw [hzr] at q
      exact q
    have x0 := HH5.out.cell 0
    have x1 := HH5.out.cell 1
    have HZ := Lib.hid hz
    clear hzr hz B5 O9 HB4 HH4 hcell
    cases z with
    | none =>
      have FA2 : Hid (∀ W v, Ru W v M → Calls Try.prog 9 #[v, .agg #[.int .u64 (uv hh), .int .u64 (uv hl)]] W fun e w' => e = .returned (.tuple #[.int .i64 0, .bool false]) ∧ Below W.heap.size W w') := FA
      have FB2 : Hid (∀ W v, Ru W v (offI M n) → Calls Try.prog 9 #[v, .agg #[.int .u64 (uv hh), .int .u64 (uv hl)]] W fun e w' => e = .returned (.tuple #[.int .i64 0, .bool false]) ∧ Below W.heap.size W w') := FB
      clear FA FB HZ
      go_wp2_with fail
      (with_reducible refine (FA2.out _ _ HV5.out).mono ?_)
      rintro e w6 ⟨rfl, hb⟩
      have HB6 := Lib.hid (HB5.out.trans (hb.mono HB5.out.size))
      have HR6 := Lib.hid (HR5.out.on hb)
      have y0 := (HH5.out.on hb).cell 0
      have y1 := (HH5.out.on hb).cell 1
      clear hb HB5 HH5 HV5 HR5 x0 x1 FA2
      go_wp2_with fail
      (with_reducible refine (FB2.out _ _ HR6.out).mono ?_)
      rintro e w7 ⟨rfl, hb⟩
      have B7 := HB6.out.trans (hb.mono HB6.out.size)
      clear hb HB6 HR6 y0 y1 FB2
      go_wp2
      go_ret
      exact ⟨rfl, B7⟩
    | some a =>
      have hal : a < M.length := fndI_lt HZ.out
      have haz : (a : Int) < (M.length : Int) := by omega
      have han : ¬ a = n := fun e => HNF.out (by rw [HZ.out, e])
      have hanz : ¬ (a : Int) = (n : Int) := by omega
      obtain ⟨bb, hbb⟩ : ∃ q, (if a < n then a else a - 1) = q := ⟨_, rfl⟩
      have hbl2 : bb < (offI M n).length := by rw [← hbb]; split <;> omega
      have hblz : (bb : Int) < ((offI M n).length : Int) := by omega
      obtain ⟨p, hp⟩ : ∃ p, M[a]? = some p := ⟨_, List.getElem?_eq_getElem hal⟩
      have hp9 : (offI M n)[bb]? = some p := by
        rw [offI_at hnl, ← hp, ← hbb]
        by_cases h1 : a < n
        · rw [if_pos h1, if_pos h1]
        · rw [if_neg h1, if_neg (by omega)]
          congr 1
          omega
      have FA2 : Hid (∀ W v, Ru W v M → Calls Try.prog 9 #[v, .agg #[.int .u64 (uv hh), .int .u64 (uv hl)]] W fun e w' => e = .returned (.tuple #[.int .i64 (a : Int), .bool true]) ∧ Below W.heap.size W w') := FA
      have FB2 : Hid (∀ W v, Ru W v (offI M n) → Calls Try.prog 9 #[v, .agg #[.int .u64 (uv hh), .int .u64 (uv hl)]] W fun e w' => e = .returned (.tuple #[.int .i64 (bb : Int), .bool true]) ∧ Below W.heap.size W w') := fun W v h => by
        have q := FB.out W v h
        simp only [Option.map_some, hbb] at q
        exact q
      have HP := Lib.hid hp
      have HP9 := Lib.hid hp9
      clear FA FB HZ hp hp9 hbb
      go_wp2_with fail
      (with_reducible refine (FA2.out _ _ HV5.out).mono ?_)
      rintro e w5 ⟨rfl, hb⟩
      have HB6 := Lib.hid (HB5.out.trans (hb.mono HB5.out.size))
      have HR6 := Lib.hid (HR5.out.on hb)
      have HH6 := Lib.hid (HH5.out.on hb)
      have y0 := HH6.out.cell 0
      have y1 := HH6.out.cell 1
      clear hb HB5 HH5 HV5 HR5 x0 x1 FA2
      go_wp2_with fail
      (with_reducible refine (FB2.out _ _ HR6.out).mono ?_)
      rintro e w6 ⟨rfl, hb⟩
      have HB7 := Lib.hid (HB6.out.trans (hb.mono HB6.out.size))
      have HH7 := Lib.hid (HH6.out.on hb)
      obtain ⟨A10, c10, e10, hA10⟩ := (HR6.out.on hb).form
      injection e10 with e11 _ e13
      subst e11 e13
      obtain ⟨b9, o9, rfl, _, hpc9⟩ := hA10 (by intro h; rw [h] at hbl2; simp at hbl2)
      have HAT := Lib.hid ((HPC.out a p HP.out).on HB7.out)
      have HAT9 := Lib.hid (hpc9 bb p HP9.out)
      clear hb HB6 HR6 HH6 y0 y1 FB2 hpc9 hA10
      go_upto_region 11 with (fail)
      go_cut [15, 16] (fun i o wc => ∃ bx by1 : Nat, i = .pointer (some ⟨bx, 0, none⟩) ∧ o = .pointer (some ⟨by1, 0, none⟩) ∧ Below w6.heap.size w6 wc ∧ Blk wc bx 25 #[.int .u64 (uv ((hh &&& ~~~p.s.ch) ||| (p.s.vh &&& p.s.ch))), .int .u64 (uv ((hl &&& ~~~p.s.cl) ||| (p.s.vl &&& p.s.cl)))] ∧ Blk wc by1 25 #[.int .u64 (uv ((hh &&& ~~~p.s.ch) ||| (p.s.vh &&& p.s.ch))), .int .u64 (uv ((hl &&& ~~~p.s.cl) ||| (p.s.vl &&& p.s.cl)))])
      case first =>
        have KP : ∀ W, Below w6.heap.size w6 W → (Below w6.heap.size w6 W ∧ W.cell? ⟨w.heap.size, 0, none⟩ = some (.int .u64 (uv hh)) ∧ W.cell? ⟨w.heap.size, 1, none⟩ = some (.int .u64 (uv hl)) ∧ W.cell? ⟨b, o + a * 12 + 8, none⟩ = some (.int .u64 (uv p.s.vh)) ∧ W.cell? ⟨b, o + a * 12 + 9, none⟩ = some (.int .u64 (uv p.s.vl)) ∧ W.cell? ⟨b, o + a * 12 + 10, none⟩ = some (.int .u64 (uv p.s.ch)) ∧ W.cell? ⟨b, o + a * 12 + 11, none⟩ = some (.int .u64 (uv p.s.cl)) ∧ W.cell? ⟨b9, o9 + bb * 12 + 8, none⟩ = some (.int .u64 (uv p.s.vh)) ∧ W.cell? ⟨b9, o9 + bb * 12 + 9, none⟩ = some (.int .u64 (uv p.s.vl)) ∧ W.cell? ⟨b9, o9 + bb * 12 + 10, none⟩ = some (.int .u64 (uv p.s.ch)) ∧ W.cell? ⟨b9, o9 + bb * 12 + 11, none⟩ = some (.int .u64 (uv p.s.cl))) := fun W hb => by
          obtain ⟨_, _, _, _, _, _, _, _, k8, k9, k10, k11⟩ := (HAT.out.on hb).out
          obtain ⟨_, _, _, _, _, _, _, _, l8, l9, l10, l11⟩ := (HAT9.out.on hb).out
          exact ⟨hb, (HH7.out.on hb).cell 0, (HH7.out.on hb).cell 1, k8, k9, k10, k11, l8, l9, l10, l11⟩
        have HKP := Lib.hid KP
        clear KP
        refine wp_region_held_drew (S := fun w' => Below w6.heap.size w6 w' ∧ w'.cell? ⟨w.heap.size, 0, none⟩ = some (.int .u64 (uv hh)) ∧ w'.cell? ⟨w.heap.size, 1, none⟩ = some (.int .u64 (uv hl)) ∧ w'.cell? ⟨b, o + a * 12 + 8, none⟩ = some (.int .u64 (uv p.s.vh)) ∧ w'.cell? ⟨b, o + a * 12 + 9, none⟩ = some (.int .u64 (uv p.s.vl)) ∧ w'.cell? ⟨b, o + a * 12 + 10, none⟩ = some (.int .u64 (uv p.s.ch)) ∧ w'.cell? ⟨b, o + a * 12 + 11, none⟩ = some (.int .u64 (uv p.s.cl)) ∧ w'.cell? ⟨b9, o9 + bb * 12 + 8, none⟩ = some (.int .u64 (uv p.s.vh)) ∧ w'.cell? ⟨b9, o9 + bb * 12 + 9, none⟩ = some (.int .u64 (uv p.s.vl)) ∧ w'.cell? ⟨b9, o9 + bb * 12 + 10, none⟩ = some (.int .u64 (uv p.s.ch)) ∧ w'.cell? ⟨b9, o9 + bb * 12 + 11, none⟩ = some (.int .u64 (uv p.s.cl))) (by kernel_rfl) (HKP.out _ (Below.refl _ w6).drew) (fun hHeld => ?_)
        generalize w6.drew = u0 at hHeld ⊢
        refine wpAnyH_take (i := 0) (oi := ⟨some 76, _, _, _, _, _⟩) (v := ?vsp0) rfl (by kernel_rfl) (by kernel_rfl) (by kernel_rfl) (fun _ _ _ h => h) (Or.inl ⟨by rfl, ?ysp0⟩) hHeld ?rsp0
        case ysp0 => (intro w' hSw; (try dsimp only at hSw); go_simp; try (with_reducible rfl))
        simp only [Act.put, List.setIfInBounds_toArray, List.set_cons_zero, List.set_cons_succ]
        refine wpAnyH_take (i := 1) (oi := ⟨some 77, _, _, _, _, _⟩) (v := ?vsp1) rfl (by kernel_rfl) (by kernel_rfl) (by kernel_rfl) (fun _ _ _ h => h) (Or.inl ⟨by rfl, ?ysp1⟩) hHeld ?rsp1
        case ysp1 => (intro w' hSw; (try dsimp only at hSw); go_simp; try (with_reducible rfl))
        simp only [Act.put, List.setIfInBounds_toArray, List.set_cons_zero, List.set_cons_succ]
        refine wpAnyH_take (i := 2) (oi := ⟨some 78, _, _, _, _, _⟩) (v := ?vsp2) rfl (by kernel_rfl) (by kernel_rfl) (by kernel_rfl) (fun _ _ _ h => h) (Or.inl ⟨by rfl, ?ysp2⟩) hHeld ?rsp2
        case ysp2 => (intro w' hSw; (try dsimp only at hSw); go_simp; try (with_reducible rfl))
        simp only [Act.put, List.setIfInBounds_toArray, List.set_cons_zero, List.set_cons_succ]
        refine wpAnyH_take (i := 3) (oi := ⟨some 79, _, _, _, _, _⟩) (v := ?vsp3) rfl (by kernel_rfl) (by kernel_rfl) (by kernel_rfl) (fun _ _ _ h => h) (Or.inl ⟨by rfl, ?ysp3⟩) hHeld ?rsp3
        case ysp3 => (intro w' hSw; (try dsimp only at hSw); go_simp; try (with_reducible rfl))
        simp only [Act.put, List.setIfInBounds_toArray, List.set_cons_zero, List.set_cons_succ]
        refine wpAnyH_take (i := 4) (oi := ⟨some 80, _, _, _, _, _⟩) (v := ?vsp4) rfl (by kernel_rfl) (by kernel_rfl) (by kernel_rfl) (fun _ _ _ h => h) (Or.inl ⟨by rfl, ?ysp4⟩) hHeld ?rsp4
        case ysp4 => (intro w' hSw; (try dsimp only at hSw); go_simp; try (with_reducible rfl))
        simp only [Act.put, List.setIfInBounds_toArray, List.set_cons_zero, List.set_cons_succ]
        refine wpAnyH_take (i := 5) (oi := ⟨some 81, _, _, _, _, _⟩) (v := ?vsp5) rfl (by kernel_rfl) (by kernel_rfl) (by kernel_rfl) (fun _ _ _ h => h) (Or.inl ⟨by rfl, ?ysp5⟩) hHeld ?rsp5
        case ysp5 => (intro w' hSw; (try dsimp only at hSw); go_simp; try (with_reducible rfl))
        simp only [Act.put, List.setIfInBounds_toArray, List.set_cons_zero, List.set_cons_succ]
        refine wpAnyH_take (i := 6) (oi := ⟨some 82, _, _, _, _, _⟩) (v := ?vsp6) rfl (by kernel_rfl) (by kernel_rfl) (by kernel_rfl) (fun _ _ _ h => h) (Or.inl ⟨by rfl, ?ysp6⟩) hHeld ?rsp6
        case ysp6 => (intro w' hSw; (try dsimp only at hSw); go_simp; try (with_reducible rfl))
        simp only [Act.put, List.setIfInBounds_toArray, List.set_cons_zero, List.set_cons_succ]
        refine wpAnyH_take (i := 8) (oi := ⟨some 84, _, _, _, _, _⟩) (v := ?vsp8) rfl (by kernel_rfl) (by kernel_rfl) (by kernel_rfl) (fun _ _ _ h => h) (Or.inl ⟨by rfl, ?ysp8⟩) hHeld ?rsp8
        case ysp8 => (intro w' hSw; (try dsimp only at hSw); go_simp; try (with_reducible rfl))
        simp only [Act.put, List.setIfInBounds_toArray, List.set_cons_zero, List.set_cons_succ]
        refine wpAnyH_take (i := 9) (oi := ⟨some 85, _, _, _, _, _⟩) (v := ?vsp9) rfl (by kernel_rfl) (by kernel_rfl) (by kernel_rfl) (fun _ _ _ h => h) (Or.inl ⟨by rfl, ?ysp9⟩) hHeld ?rsp9
        case ysp9 => (intro w' hSw; (try dsimp only at hSw); go_simp; try (with_reducible rfl))
        simp only [Act.put, List.setIfInBounds_toArray, List.set_cons_zero, List.set_cons_succ]
        refine wpAnyH_take (i := 10) (oi := ⟨some 86, _, _, _, _, _⟩) (v := ?vsp10) rfl (by kernel_rfl) (by kernel_rfl) (by kernel_rfl) (fun _ _ _ h => h) (Or.inl ⟨by rfl, ?ysp10⟩) hHeld ?rsp10
        case ysp10 => (intro w' hSw; (try dsimp only at hSw); go_simp; try (with_reducible rfl))
        simp only [Act.put, List.setIfInBounds_toArray, List.set_cons_zero, List.set_cons_succ]
        refine wpAnyH_take (i := 11) (oi := ⟨some 87, _, _, _, _, _⟩) (v := ?vsp11) rfl (by kernel_rfl) (by kernel_rfl) (by kernel_rfl) (fun _ _ _ h => h) (Or.inl ⟨by rfl, ?ysp11⟩) hHeld ?rsp11
        case ysp11 => (intro w' hSw; (try dsimp only at hSw); go_simp; try (with_reducible rfl))
        simp only [Act.put, List.setIfInBounds_toArray, List.set_cons_zero, List.set_cons_succ]
        refine wpAnyH_take (i := 12) (oi := ⟨some 88, _, _, _, _, _⟩) (v := ?vsp12) rfl (by kernel_rfl) (by kernel_rfl) (by kernel_rfl) (fun _ _ _ h => h) (Or.inl ⟨by rfl, ?ysp12⟩) hHeld ?rsp12
        case ysp12 => (intro w' hSw; (try dsimp only at hSw); go_simp; try (with_reducible rfl))
        simp only [Act.put, List.setIfInBounds_toArray, List.set_cons_zero, List.set_cons_succ]
        refine wpAnyH_take (i := 13) (oi := ⟨some 89, _, _, _, _, _⟩) (v := ?vsp13) rfl (by kernel_rfl) (by kernel_rfl) (by kernel_rfl) (fun _ _ _ h => h) (Or.inl ⟨by rfl, ?ysp13⟩) hHeld ?rsp13
        case ysp13 => (intro w' hSw; (try dsimp only at hSw); go_simp; try (with_reducible rfl))
        simp only [Act.put, List.setIfInBounds_toArray, List.set_cons_zero, List.set_cons_succ]
        refine wpAnyH_take (i := 14) (oi := ⟨some 90, _, _, _, _, _⟩) (v := ?vsp14) rfl (by kernel_rfl) (by kernel_rfl) (by kernel_rfl) (fun _ _ _ h => h) (Or.inl ⟨by rfl, ?ysp14⟩) hHeld ?rsp14
        case ysp14 => (intro w' hSw; (try dsimp only at hSw); go_simp; try (with_reducible rfl))
        simp only [Act.put, List.setIfInBounds_toArray, List.set_cons_zero, List.set_cons_succ]
        refine wpAnyH_ready (rs := [7, 16, 17]) (by kernel_rfl) (by simp) ?_
        refine AllReadyH.cons (o := ⟨some 83, _, _, _, _, _⟩) rfl (fun K hK => ?_) ?_
        · go_simp
          (with_reducible refine (rset_c hh hl p.s.vh p.s.vl p.s.ch p.s.cl _).mono ?_)
          rintro e u1 ⟨rfl, hb⟩
          (try dsimp only)
          refine hK.out _ _ (HKP.out _ (hHeld.1.trans (hb.mono hHeld.1.size))) (fun hNext => ?_)
          clear hK K hHeld
          have hHeld := hNext
          clear hNext
          clear hb
          try simp only [Act.put, List.setIfInBounds_toArray, List.set_cons_zero, List.set_cons_succ]
          refine wpAnyH_ready (rs := [15, 16, 17]) (by kernel_rfl) (by simp) ?_
          refine AllReadyH.cons (o := ⟨some 91, _, _, _, _, _⟩) rfl (fun K hK => ?_) ?_
          · go_simp
            (with_reducible refine (rset_c hh hl p.s.vh p.s.vl p.s.ch p.s.cl _).mono ?_)
            rintro e u2 ⟨rfl, hb⟩
            (try dsimp only)
            refine hK.out _ _ (HKP.out _ (hHeld.1.trans (hb.mono hHeld.1.size))) (fun hNext => ?_)
            clear hK K hHeld
            have hHeld := hNext
            clear hNext
            clear hb
            try simp only [Act.put, List.setIfInBounds_toArray, List.set_cons_zero, List.set_cons_succ]
            refine wpAnyH_ready (rs := [16, 17]) (by kernel_rfl) (by simp) ?_
            refine AllReadyH.cons (o := ⟨some 15, _, _, _, _, _⟩) rfl (fun K hK => ?_) ?_
            · go_simp
              have hb := below1 u2 (.cells #[.int .u64 0, .int .u64 0] 25)
              refine hK.out _ _ (HKP.out _ (hHeld.1.trans (hb.mono hHeld.1.size))) (fun hNext => ?_)
              have t16 : Nb w6.heap.size (u2.alloc (.cells #[.int .u64 0, .int .u64 0] 25)) u2.heap.size 25 #[.int .u64 0, .int .u64 0] := Nb.top u2 hHeld.1.size
              clear hK K hHeld hb
              have hHeld := hNext
              clear hNext
              generalize hgen : (u2.alloc (.cells #[.int .u64 0, .int .u64 0] 25)) = u3 at hHeld t16 ⊢
              clear hgen
              generalize hgen : u2.heap.size = b16_3 at t16  ⊢
              clear hgen
              try simp only [Act.put, List.setIfInBounds_toArray, List.set_cons_zero, List.set_cons_succ]
              refine wpAnyH_ready (rs := [17]) (by kernel_rfl) (by simp) ?_
              refine AllReadyH.cons (o := ⟨some 16, _, _, _, _, _⟩) rfl (fun K hK => ?_) AllReadyH.nil
              go_simp
              have hb := below1 u3 (.cells #[.int .u64 0, .int .u64 0] 25)
              refine hK.out _ _ (HKP.out _ (hHeld.1.trans (hb.mono hHeld.1.size))) (fun hNext => ?_)
              have t17 : Nb w6.heap.size (u3.alloc (.cells #[.int .u64 0, .int .u64 0] 25)) u3.heap.size 25 #[.int .u64 0, .int .u64 0] := Nb.top u3 hHeld.1.size
              have ne17_16 : u3.heap.size ≠ b16_3 := t16.ne.symm
              have ne16_17 : b16_3 ≠ u3.heap.size := t16.ne
              replace t16 := t16.on hb
              clear hK K hHeld hb
              have hHeld := hNext
              clear hNext
              generalize hgen : (u3.alloc (.cells #[.int .u64 0, .int .u64 0] 25)) = u4 at hHeld t16 t17 ⊢
              clear hgen
              generalize hgen : u3.heap.size = b17_4 at t17 ne17_16 ne16_17 ⊢
              clear hgen
              try simp only [Act.put, List.setIfInBounds_toArray, List.set_cons_zero, List.set_cons_succ]
              refine wpAnyH_ready (rs := [18]) (by kernel_rfl) (by simp) ?_
              refine AllReadyH.cons (o := ⟨none, _, _, _, _, _⟩) rfl (fun K hK => ?_) AllReadyH.nil
              rw [if_pos (by rfl)]
              refine wp_store_mid 25 _ _ rfl b16_3 0 #[.int .u64 (uv ((hh &&& ~~~p.s.ch) ||| (p.s.vh &&& p.s.ch))), .int .u64 (uv ((hl &&& ~~~p.s.cl) ||| (p.s.vl &&& p.s.cl)))] rfl rfl t16.there sizeHd (by simp [Value.oneCell']) ?_
              (try dsimp only)
              refine hK.out _ _ (HKP.out _ (Below.setCells _ _ _ hHeld.1 t16.2)) (fun hNext => ?_)
              clear hK K hHeld
              have hHeld := hNext
              clear hNext
              replace t17 := t17.far ne16_17 [.int .u64 (uv ((hh &&& ~~~p.s.ch) ||| (p.s.vh &&& p.s.ch))), .int .u64 (uv ((hl &&& ~~~p.s.cl) ||| (p.s.vl &&& p.s.cl)))]
              replace t16 := t16.put [.int .u64 (uv ((hh &&& ~~~p.s.ch) ||| (p.s.vh &&& p.s.ch))), .int .u64 (uv ((hl &&& ~~~p.s.cl) ||| (p.s.vl &&& p.s.cl)))] rfl
              generalize (World.setCells u4 b16_3 0 [.int .u64 (uv ((hh &&& ~~~p.s.ch) ||| (p.s.vh &&& p.s.ch))), .int .u64 (uv ((hl &&& ~~~p.s.cl) ||| (p.s.vl &&& p.s.cl)))]) = u5 at hHeld t16 t17 ⊢
              try simp only [Act.put]
              refine wpAnyH_ready (rs := [19]) (by kernel_rfl) (by simp) ?_
              refine AllReadyH.cons (o := ⟨none, _, _, _, _, _⟩) rfl (fun K hK => ?_) AllReadyH.nil
              rw [if_pos (by rfl)]
              refine wp_store_mid 25 _ _ rfl b17_4 0 #[.int .u64 (uv ((hh &&& ~~~p.s.ch) ||| (p.s.vh &&& p.s.ch))), .int .u64 (uv ((hl &&& ~~~p.s.cl) ||| (p.s.vl &&& p.s.cl)))] rfl rfl t17.there sizeHd (by simp [Value.oneCell']) ?_
              (try dsimp only)
              refine hK.out _ _ (HKP.out _ (Below.setCells _ _ _ hHeld.1 t17.2)) (fun hNext => ?_)
              clear hK K hHeld
              have hHeld := hNext
              clear hNext
              replace t16 := t16.far ne17_16 [.int .u64 (uv ((hh &&& ~~~p.s.ch) ||| (p.s.vh &&& p.s.ch))), .int .u64 (uv ((hl &&& ~~~p.s.cl) ||| (p.s.vl &&& p.s.cl)))]
              replace t17 := t17.put [.int .u64 (uv ((hh &&& ~~~p.s.ch) ||| (p.s.vh &&& p.s.ch))), .int .u64 (uv ((hl &&& ~~~p.s.cl) ||| (p.s.vl &&& p.s.cl)))] rfl
              generalize (World.setCells u5 b17_4 0 [.int .u64 (uv ((hh &&& ~~~p.s.ch) ||| (p.s.vh &&& p.s.ch))), .int .u64 (uv ((hl &&& ~~~p.s.cl) ||| (p.s.vl &&& p.s.cl)))]) = u6 at hHeld t16 t17 ⊢
              try simp only [Act.put]
              refine wpAnyH_done (by kernel_rfl) ?_ _
              go_wp2_with fail
              go_meet
              exact ⟨_, _, rfl, rfl, hHeld.1, t16.1, t17.1⟩
            refine AllReadyH.cons (o := ⟨some 16, _, _, _, _, _⟩) rfl (fun K hK => ?_) AllReadyH.nil
            go_simp
            have hb := below1 u2 (.cells #[.int .u64 0, .int .u64 0] 25)
            refine hK.out _ _ (HKP.out _ (hHeld.1.trans (hb.mono hHeld.1.size))) (fun hNext => ?_)
            have t17 : Nb w6.heap.size (u2.alloc (.cells #[.int .u64 0, .int .u64 0] 25)) u2.heap.size 25 #[.int .u64 0, .int .u64 0] := Nb.top u2 hHeld.1.size
            clear hK K hHeld hb
            have hHeld := hNext
            clear hNext
            generalize hgen : (u2.alloc (.cells #[.int .u64 0, .int .u64 0] 25)) = u7 at hHeld t17 ⊢
            clear hgen
            generalize hgen : u2.heap.size = b17_7 at t17  ⊢
            clear hgen
            try simp only [Act.put, List.setIfInBounds_toArray, List.set_cons_zero, List.set_cons_succ]
            refine wpAnyH_ready (rs := [16]) (by kernel_rfl) (by simp) ?_
            refine AllReadyH.cons (o := ⟨some 15, _, _, _, _, _⟩) rfl (fun K hK => ?_) AllReadyH.nil
            go_simp
            have hb := below1 u7 (.cells #[.int .u64 0, .int .u64 0] 25)
            refine hK.out _ _ (HKP.out _ (hHeld.1.trans (hb.mono hHeld.1.size))) (fun hNext => ?_)
            have t16 : Nb w6.heap.size (u7.alloc (.cells #[.int .u64 0, .int .u64 0] 25)) u7.heap.size 25 #[.int .u64 0, .int .u64 0] := Nb.top u7 hHeld.1.size
            have ne16_17 : u7.heap.size ≠ b17_7 := t17.ne.symm
            have ne17_16 : b17_7 ≠ u7.heap.size := t17.ne
            replace t17 := t17.on hb
            clear hK K hHeld hb
            have hHeld := hNext
            clear hNext
            generalize hgen : (u7.alloc (.cells #[.int .u64 0, .int .u64 0] 25)) = u8 at hHeld t16 t17 ⊢
            clear hgen
            generalize hgen : u7.heap.size = b16_8 at t16 ne16_17 ne17_16 ⊢
            clear hgen
            try simp only [Act.put, List.setIfInBounds_toArray, List.set_cons_zero, List.set_cons_succ]
            refine wpAnyH_ready (rs := [18]) (by kernel_rfl) (by simp) ?_
            refine AllReadyH.cons (o := ⟨none, _, _, _, _, _⟩) rfl (fun K hK => ?_) AllReadyH.nil
            rw [if_pos (by rfl)]
            refine wp_store_mid 25 _ _ rfl b16_8 0 #[.int .u64 (uv ((hh &&& ~~~p.s.ch) ||| (p.s.vh &&& p.s.ch))), .int .u64 (uv ((hl &&& ~~~p.s.cl) ||| (p.s.vl &&& p.s.cl)))] rfl rfl t16.there sizeHd (by simp [Value.oneCell']) ?_
            (try dsimp only)
            refine hK.out _ _ (HKP.out _ (Below.setCells _ _ _ hHeld.1 t16.2)) (fun hNext => ?_)
            clear hK K hHeld
            have hHeld := hNext
            clear hNext
            replace t17 := t17.far ne16_17 [.int .u64 (uv ((hh &&& ~~~p.s.ch) ||| (p.s.vh &&& p.s.ch))), .int .u64 (uv ((hl &&& ~~~p.s.cl) ||| (p.s.vl &&& p.s.cl)))]
            replace t16 := t16.put [.int .u64 (uv ((hh &&& ~~~p.s.ch) ||| (p.s.vh &&& p.s.ch))), .int .u64 (uv ((hl &&& ~~~p.s.cl) ||| (p.s.vl &&& p.s.cl)))] rfl
            generalize (World.setCells u8 b16_8 0 [.int .u64 (uv ((hh &&& ~~~p.s.ch) ||| (p.s.vh &&& p.s.ch))), .int .u64 (uv ((hl &&& ~~~p.s.cl) ||| (p.s.vl &&& p.s.cl)))]) = u9 at hHeld t16 t17 ⊢
            try simp only [Act.put]
            refine wpAnyH_ready (rs := [19]) (by kernel_rfl) (by simp) ?_
            refine AllReadyH.cons (o := ⟨none, _, _, _, _, _⟩) rfl (fun K hK => ?_) AllReadyH.nil
            rw [if_pos (by rfl)]
            refine wp_store_mid 25 _ _ rfl b17_7 0 #[.int .u64 (uv ((hh &&& ~~~p.s.ch) ||| (p.s.vh &&& p.s.ch))), .int .u64 (uv ((hl &&& ~~~p.s.cl) ||| (p.s.vl &&& p.s.cl)))] rfl rfl t17.there sizeHd (by simp [Value.oneCell']) ?_
            (try dsimp only)
            refine hK.out _ _ (HKP.out _ (Below.setCells _ _ _ hHeld.1 t17.2)) (fun hNext => ?_)
            clear hK K hHeld
            have hHeld := hNext
            clear hNext
            replace t16 := t16.far ne17_16 [.int .u64 (uv ((hh &&& ~~~p.s.ch) ||| (p.s.vh &&& p.s.ch))), .int .u64 (uv ((hl &&& ~~~p.s.cl) ||| (p.s.vl &&& p.s.cl)))]
            replace t17 := t17.put [.int .u64 (uv ((hh &&& ~~~p.s.ch) ||| (p.s.vh &&& p.s.ch))), .int .u64 (uv ((hl &&& ~~~p.s.cl) ||| (p.s.vl &&& p.s.cl)))] rfl
            generalize (World.setCells u9 b17_7 0 [.int .u64 (uv ((hh &&& ~~~p.s.ch) ||| (p.s.vh &&& p.s.ch))), .int .u64 (uv ((hl &&& ~~~p.s.cl) ||| (p.s.vl &&& p.s.cl)))]) = u10 at hHeld t16 t17 ⊢
            try simp only [Act.put]
            refine wpAnyH_done (by kernel_rfl) ?_ _
            go_wp2_with fail
            go_meet
            exact ⟨_, _, rfl, rfl, hHeld.1, t16.1, t17.1⟩
          refine AllReadyH.cons (o := ⟨some 15, _, _, _, _, _⟩) rfl (fun K hK => ?_) ?_
          · go_simp
            have hb := below1 u1 (.cells #[.int .u64 0, .int .u64 0] 25)
            refine hK.out _ _ (HKP.out _ (hHeld.1.trans (hb.mono hHeld.1.size))) (fun hNext => ?_)
            have t16 : Nb w6.heap.size (u1.alloc (.cells #[.int .u64 0, .int .u64 0] 25)) u1.heap.size 25 #[.int .u64 0, .int .u64 0] := Nb.top u1 hHeld.1.size
            clear hK K hHeld hb
            have hHeld := hNext
            clear hNext
            generalize hgen : (u1.alloc (.cells #[.int .u64 0, .int .u64 0] 25)) = u11 at hHeld t16 ⊢
            clear hgen
            generalize hgen : u1.heap.size = b16_11 at t16  ⊢
            clear hgen
            try simp only [Act.put, List.setIfInBounds_toArray, List.set_cons_zero, List.set_cons_succ]
            refine wpAnyH_ready (rs := [15, 17]) (by kernel_rfl) (by simp) ?_
            refine AllReadyH.cons (o := ⟨some 91, _, _, _, _, _⟩) rfl (fun K hK => ?_) ?_
            · go_simp
              (with_reducible refine (rset_c hh hl p.s.vh p.s.vl p.s.ch p.s.cl _).mono ?_)
              rintro e u12 ⟨rfl, hb⟩
              (try dsimp only)
              refine hK.out _ _ (HKP.out _ (hHeld.1.trans (hb.mono hHeld.1.size))) (fun hNext => ?_)
              clear hK K hHeld
              have hHeld := hNext
              clear hNext
              replace t16 := t16.on hb
              clear hb
              try simp only [Act.put, List.setIfInBounds_toArray, List.set_cons_zero, List.set_cons_succ]
              refine wpAnyH_ready (rs := [17]) (by kernel_rfl) (by simp) ?_
              refine AllReadyH.cons (o := ⟨some 16, _, _, _, _, _⟩) rfl (fun K hK => ?_) AllReadyH.nil
              go_simp
              have hb := below1 u12 (.cells #[.int .u64 0, .int .u64 0] 25)
              refine hK.out _ _ (HKP.out _ (hHeld.1.trans (hb.mono hHeld.1.size))) (fun hNext => ?_)
              have t17 : Nb w6.heap.size (u12.alloc (.cells #[.int .u64 0, .int .u64 0] 25)) u12.heap.size 25 #[.int .u64 0, .int .u64 0] := Nb.top u12 hHeld.1.size
              have ne17_16 : u12.heap.size ≠ b16_11 := t16.ne.symm
              have ne16_17 : b16_11 ≠ u12.heap.size := t16.ne
              replace t16 := t16.on hb
              clear hK K hHeld hb
              have hHeld := hNext
              clear hNext
              generalize hgen : (u12.alloc (.cells #[.int .u64 0, .int .u64 0] 25)) = u13 at hHeld t16 t17 ⊢
              clear hgen
              generalize hgen : u12.heap.size = b17_13 at t17 ne17_16 ne16_17 ⊢
              clear hgen
              try simp only [Act.put, List.setIfInBounds_toArray, List.set_cons_zero, List.set_cons_succ]
              refine wpAnyH_ready (rs := [18]) (by kernel_rfl) (by simp) ?_
              refine AllReadyH.cons (o := ⟨none, _, _, _, _, _⟩) rfl (fun K hK => ?_) AllReadyH.nil
              rw [if_pos (by rfl)]
              refine wp_store_mid 25 _ _ rfl b16_11 0 #[.int .u64 (uv ((hh &&& ~~~p.s.ch) ||| (p.s.vh &&& p.s.ch))), .int .u64 (uv ((hl &&& ~~~p.s.cl) ||| (p.s.vl &&& p.s.cl)))] rfl rfl t16.there sizeHd (by simp [Value.oneCell']) ?_
              (try dsimp only)
              refine hK.out _ _ (HKP.out _ (Below.setCells _ _ _ hHeld.1 t16.2)) (fun hNext => ?_)
              clear hK K hHeld
              have hHeld := hNext
              clear hNext
              replace t17 := t17.far ne16_17 [.int .u64 (uv ((hh &&& ~~~p.s.ch) ||| (p.s.vh &&& p.s.ch))), .int .u64 (uv ((hl &&& ~~~p.s.cl) ||| (p.s.vl &&& p.s.cl)))]
              replace t16 := t16.put [.int .u64 (uv ((hh &&& ~~~p.s.ch) ||| (p.s.vh &&& p.s.ch))), .int .u64 (uv ((hl &&& ~~~p.s.cl) ||| (p.s.vl &&& p.s.cl)))] rfl
              generalize (World.setCells u13 b16_11 0 [.int .u64 (uv ((hh &&& ~~~p.s.ch) ||| (p.s.vh &&& p.s.ch))), .int .u64 (uv ((hl &&& ~~~p.s.cl) ||| (p.s.vl &&& p.s.cl)))]) = u14 at hHeld t16 t17 ⊢
              try simp only [Act.put]
              refine wpAnyH_ready (rs := [19]) (by kernel_rfl) (by simp) ?_
              refine AllReadyH.cons (o := ⟨none, _, _, _, _, _⟩) rfl (fun K hK => ?_) AllReadyH.nil
              rw [if_pos (by rfl)]
              refine wp_store_mid 25 _ _ rfl b17_13 0 #[.int .u64 (uv ((hh &&& ~~~p.s.ch) ||| (p.s.vh &&& p.s.ch))), .int .u64 (uv ((hl &&& ~~~p.s.cl) ||| (p.s.vl &&& p.s.cl)))] rfl rfl t17.there sizeHd (by simp [Value.oneCell']) ?_
              (try dsimp only)
              refine hK.out _ _ (HKP.out _ (Below.setCells _ _ _ hHeld.1 t17.2)) (fun hNext => ?_)
              clear hK K hHeld
              have hHeld := hNext
              clear hNext
              replace t16 := t16.far ne17_16 [.int .u64 (uv ((hh &&& ~~~p.s.ch) ||| (p.s.vh &&& p.s.ch))), .int .u64 (uv ((hl &&& ~~~p.s.cl) ||| (p.s.vl &&& p.s.cl)))]
              replace t17 := t17.put [.int .u64 (uv ((hh &&& ~~~p.s.ch) ||| (p.s.vh &&& p.s.ch))), .int .u64 (uv ((hl &&& ~~~p.s.cl) ||| (p.s.vl &&& p.s.cl)))] rfl
              generalize (World.setCells u14 b17_13 0 [.int .u64 (uv ((hh &&& ~~~p.s.ch) ||| (p.s.vh &&& p.s.ch))), .int .u64 (uv ((hl &&& ~~~p.s.cl) ||| (p.s.vl &&& p.s.cl)))]) = u15 at hHeld t16 t17 ⊢
              try simp only [Act.put]
              refine wpAnyH_done (by kernel_rfl) ?_ _
              go_wp2_with fail
              go_meet
              exact ⟨_, _, rfl, rfl, hHeld.1, t16.1, t17.1⟩
            refine AllReadyH.cons (o := ⟨some 16, _, _, _, _, _⟩) rfl (fun K hK => ?_) AllReadyH.nil
            go_simp
            have hb := below1 u11 (.cells #[.int .u64 0, .int .u64 0] 25)
            refine hK.out _ _ (HKP.out _ (hHeld.1.trans (hb.mono hHeld.1.size))) (fun hNext => ?_)
            have t17 : Nb w6.heap.size (u11.alloc (.cells #[.int .u64 0, .int .u64 0] 25)) u11.heap.size 25 #[.int .u64 0, .int .u64 0] := Nb.top u11 hHeld.1.size
            have ne17_16 : u11.heap.size ≠ b16_11 := t16.ne.symm
            have ne16_17 : b16_11 ≠ u11.heap.size := t16.ne
            replace t16 := t16.on hb
            clear hK K hHeld hb
            have hHeld := hNext
            clear hNext
            generalize hgen : (u11.alloc (.cells #[.int .u64 0, .int .u64 0] 25)) = u16 at hHeld t16 t17 ⊢
            clear hgen
            generalize hgen : u11.heap.size = b17_16 at t17 ne17_16 ne16_17 ⊢
            clear hgen
            try simp only [Act.put, List.setIfInBounds_toArray, List.set_cons_zero, List.set_cons_succ]
            refine wpAnyH_ready (rs := [15]) (by kernel_rfl) (by simp) ?_
            refine AllReadyH.cons (o := ⟨some 91, _, _, _, _, _⟩) rfl (fun K hK => ?_) AllReadyH.nil
            go_simp
            (with_reducible refine (rset_c hh hl p.s.vh p.s.vl p.s.ch p.s.cl _).mono ?_)
            rintro e u17 ⟨rfl, hb⟩
            (try dsimp only)
            refine hK.out _ _ (HKP.out _ (hHeld.1.trans (hb.mono hHeld.1.size))) (fun hNext => ?_)
            clear hK K hHeld
            have hHeld := hNext
            clear hNext
            replace t16 := t16.on hb
            replace t17 := t17.on hb
            clear hb
            try simp only [Act.put, List.setIfInBounds_toArray, List.set_cons_zero, List.set_cons_succ]
            refine wpAnyH_ready (rs := [18]) (by kernel_rfl) (by simp) ?_
            refine AllReadyH.cons (o := ⟨none, _, _, _, _, _⟩) rfl (fun K hK => ?_) AllReadyH.nil
            rw [if_pos (by rfl)]
            refine wp_store_mid 25 _ _ rfl b16_11 0 #[.int .u64 (uv ((hh &&& ~~~p.s.ch) ||| (p.s.vh &&& p.s.ch))), .int .u64 (uv ((hl &&& ~~~p.s.cl) ||| (p.s.vl &&& p.s.cl)))] rfl rfl t16.there sizeHd (by simp [Value.oneCell']) ?_
            (try dsimp only)
            refine hK.out _ _ (HKP.out _ (Below.setCells _ _ _ hHeld.1 t16.2)) (fun hNext => ?_)
            clear hK K hHeld
            have hHeld := hNext
            clear hNext
            replace t17 := t17.far ne16_17 [.int .u64 (uv ((hh &&& ~~~p.s.ch) ||| (p.s.vh &&& p.s.ch))), .int .u64 (uv ((hl &&& ~~~p.s.cl) ||| (p.s.vl &&& p.s.cl)))]
            replace t16 := t16.put [.int .u64 (uv ((hh &&& ~~~p.s.ch) ||| (p.s.vh &&& p.s.ch))), .int .u64 (uv ((hl &&& ~~~p.s.cl) ||| (p.s.vl &&& p.s.cl)))] rfl
            generalize (World.setCells u17 b16_11 0 [.int .u64 (uv ((hh &&& ~~~p.s.ch) ||| (p.s.vh &&& p.s.ch))), .int .u64 (uv ((hl &&& ~~~p.s.cl) ||| (p.s.vl &&& p.s.cl)))]) = u18 at hHeld t16 t17 ⊢
            try simp only [Act.put]
            refine wpAnyH_ready (rs := [19]) (by kernel_rfl) (by simp) ?_
            refine AllReadyH.cons (o := ⟨none, _, _, _, _, _⟩) rfl (fun K hK => ?_) AllReadyH.nil
            rw [if_pos (by rfl)]
            refine wp_store_mid 25 _ _ rfl b17_16 0 #[.int .u64 (uv ((hh &&& ~~~p.s.ch) ||| (p.s.vh &&& p.s.ch))), .int .u64 (uv ((hl &&& ~~~p.s.cl) ||| (p.s.vl &&& p.s.cl)))] rfl rfl t17.there sizeHd (by simp [Value.oneCell']) ?_
            (try dsimp only)
            refine hK.out _ _ (HKP.out _ (Below.setCells _ _ _ hHeld.1 t17.2)) (fun hNext => ?_)
            clear hK K hHeld
            have hHeld := hNext
            clear hNext
            replace t16 := t16.far ne17_16 [.int .u64 (uv ((hh &&& ~~~p.s.ch) ||| (p.s.vh &&& p.s.ch))), .int .u64 (uv ((hl &&& ~~~p.s.cl) ||| (p.s.vl &&& p.s.cl)))]
            replace t17 := t17.put [.int .u64 (uv ((hh &&& ~~~p.s.ch) ||| (p.s.vh &&& p.s.ch))), .int .u64 (uv ((hl &&& ~~~p.s.cl) ||| (p.s.vl &&& p.s.cl)))] rfl
            generalize (World.setCells u18 b17_16 0 [.int .u64 (uv ((hh &&& ~~~p.s.ch) ||| (p.s.vh &&& p.s.ch))), .int .u64 (uv ((hl &&& ~~~p.s.cl) ||| (p.s.vl &&& p.s.cl)))]) = u19 at hHeld t16 t17 ⊢
            try simp only [Act.put]
            refine wpAnyH_done (by kernel_rfl) ?_ _
            go_wp2_with fail
            go_meet
            exact ⟨_, _, rfl, rfl, hHeld.1, t16.1, t17.1⟩
          refine AllReadyH.cons (o := ⟨some 16, _, _, _, _, _⟩) rfl (fun K hK => ?_) AllReadyH.nil
          go_simp
          have hb := below1 u1 (.cells #[.int .u64 0, .int .u64 0] 25)
          refine hK.out _ _ (HKP.out _ (hHeld.1.trans (hb.mono hHeld.1.size))) (fun hNext => ?_)
          have t17 : Nb w6.heap.size (u1.alloc (.cells #[.int .u64 0, .int .u64 0] 25)) u1.heap.size 25 #[.int .u64 0, .int .u64 0] := Nb.top u1 hHeld.1.size
          clear hK K hHeld hb
          have hHeld := hNext
          clear hNext
          generalize hgen : (u1.alloc (.cells #[.int .u64 0, .int .u64 0] 25)) = u20 at hHeld t17 ⊢
          clear hgen
          generalize hgen : u1.heap.size = b17_20 at t17  ⊢
          clear hgen
          try simp only [Act.put, List.setIfInBounds_toArray, List.set_cons_zero, List.set_cons_succ]
          refine wpAnyH_ready (rs := [15, 16]) (by kernel_rfl) (by simp) ?_
          refine AllReadyH.cons (o := ⟨some 91, _, _, _, _, _⟩) rfl (fun K hK => ?_) ?_
          · go_simp
            (with_reducible refine (rset_c hh hl p.s.vh p.s.vl p.s.ch p.s.cl _).mono ?_)
            rintro e u21 ⟨rfl, hb⟩
            (try dsimp only)
            refine hK.out _ _ (HKP.out _ (hHeld.1.trans (hb.mono hHeld.1.size))) (fun hNext => ?_)
            clear hK K hHeld
            have hHeld := hNext
            clear hNext
            replace t17 := t17.on hb
            clear hb
            try simp only [Act.put, List.setIfInBounds_toArray, List.set_cons_zero, List.set_cons_succ]
            refine wpAnyH_ready (rs := [16]) (by kernel_rfl) (by simp) ?_
            refine AllReadyH.cons (o := ⟨some 15, _, _, _, _, _⟩) rfl (fun K hK => ?_) AllReadyH.nil
            go_simp
            have hb := below1 u21 (.cells #[.int .u64 0, .int .u64 0] 25)
            refine hK.out _ _ (HKP.out _ (hHeld.1.trans (hb.mono hHeld.1.size))) (fun hNext => ?_)
            have t16 : Nb w6.heap.size (u21.alloc (.cells #[.int .u64 0, .int .u64 0] 25)) u21.heap.size 25 #[.int .u64 0, .int .u64 0] := Nb.top u21 hHeld.1.size
            have ne16_17 : u21.heap.size ≠ b17_20 := t17.ne.symm
            have ne17_16 : b17_20 ≠ u21.heap.size := t17.ne
            replace t17 := t17.on hb
            clear hK K hHeld hb
            have hHeld := hNext
            clear hNext
            generalize hgen : (u21.alloc (.cells #[.int .u64 0, .int .u64 0] 25)) = u22 at hHeld t16 t17 ⊢
            clear hgen
            generalize hgen : u21.heap.size = b16_22 at t16 ne16_17 ne17_16 ⊢
            clear hgen
            try simp only [Act.put, List.setIfInBounds_toArray, List.set_cons_zero, List.set_cons_succ]
            refine wpAnyH_ready (rs := [18]) (by kernel_rfl) (by simp) ?_
            refine AllReadyH.cons (o := ⟨none, _, _, _, _, _⟩) rfl (fun K hK => ?_) AllReadyH.nil
            rw [if_pos (by rfl)]
            refine wp_store_mid 25 _ _ rfl b16_22 0 #[.int .u64 (uv ((hh &&& ~~~p.s.ch) ||| (p.s.vh &&& p.s.ch))), .int .u64 (uv ((hl &&& ~~~p.s.cl) ||| (p.s.vl &&& p.s.cl)))] rfl rfl t16.there sizeHd (by simp [Value.oneCell']) ?_
            (try dsimp only)
            refine hK.out _ _ (HKP.out _ (Below.setCells _ _ _ hHeld.1 t16.2)) (fun hNext => ?_)
            clear hK K hHeld
            have hHeld := hNext
            clear hNext
            replace t17 := t17.far ne16_17 [.int .u64 (uv ((hh &&& ~~~p.s.ch) ||| (p.s.vh &&& p.s.ch))), .int .u64 (uv ((hl &&& ~~~p.s.cl) ||| (p.s.vl &&& p.s.cl)))]
            replace t16 := t16.put [.int .u64 (uv ((hh &&& ~~~p.s.ch) ||| (p.s.vh &&& p.s.ch))), .int .u64 (uv ((hl &&& ~~~p.s.cl) ||| (p.s.vl &&& p.s.cl)))] rfl
            generalize (World.setCells u22 b16_22 0 [.int .u64 (uv ((hh &&& ~~~p.s.ch) ||| (p.s.vh &&& p.s.ch))), .int .u64 (uv ((hl &&& ~~~p.s.cl) ||| (p.s.vl &&& p.s.cl)))]) = u23 at hHeld t16 t17 ⊢
            try simp only [Act.put]
            refine wpAnyH_ready (rs := [19]) (by kernel_rfl) (by simp) ?_
            refine AllReadyH.cons (o := ⟨none, _, _, _, _, _⟩) rfl (fun K hK => ?_) AllReadyH.nil
            rw [if_pos (by rfl)]
            refine wp_store_mid 25 _ _ rfl b17_20 0 #[.int .u64 (uv ((hh &&& ~~~p.s.ch) ||| (p.s.vh &&& p.s.ch))), .int .u64 (uv ((hl &&& ~~~p.s.cl) ||| (p.s.vl &&& p.s.cl)))] rfl rfl t17.there sizeHd (by simp [Value.oneCell']) ?_
            (try dsimp only)
            refine hK.out _ _ (HKP.out _ (Below.setCells _ _ _ hHeld.1 t17.2)) (fun hNext => ?_)
            clear hK K hHeld
            have hHeld := hNext
            clear hNext
            replace t16 := t16.far ne17_16 [.int .u64 (uv ((hh &&& ~~~p.s.ch) ||| (p.s.vh &&& p.s.ch))), .int .u64 (uv ((hl &&& ~~~p.s.cl) ||| (p.s.vl &&& p.s.cl)))]
            replace t17 := t17.put [.int .u64 (uv ((hh &&& ~~~p.s.ch) ||| (p.s.vh &&& p.s.ch))), .int .u64 (uv ((hl &&& ~~~p.s.cl) ||| (p.s.vl &&& p.s.cl)))] rfl
            generalize (World.setCells u23 b17_20 0 [.int .u64 (uv ((hh &&& ~~~p.s.ch) ||| (p.s.vh &&& p.s.ch))), .int .u64 (uv ((hl &&& ~~~p.s.cl) ||| (p.s.vl &&& p.s.cl)))]) = u24 at hHeld t16 t17 ⊢
            try simp only [Act.put]
            refine wpAnyH_done (by kernel_rfl) ?_ _
            go_wp2_with fail
            go_meet
            exact ⟨_, _, rfl, rfl, hHeld.1, t16.1, t17.1⟩
          refine AllReadyH.cons (o := ⟨some 15, _, _, _, _, _⟩) rfl (fun K hK => ?_) AllReadyH.nil
          go_simp
          have hb := below1 u20 (.cells #[.int .u64 0, .int .u64 0] 25)
          refine hK.out _ _ (HKP.out _ (hHeld.1.trans (hb.mono hHeld.1.size))) (fun hNext => ?_)
          have t16 : Nb w6.heap.size (u20.alloc (.cells #[.int .u64 0, .int .u64 0] 25)) u20.heap.size 25 #[.int .u64 0, .int .u64 0] := Nb.top u20 hHeld.1.size
          have ne16_17 : u20.heap.size ≠ b17_20 := t17.ne.symm
          have ne17_16 : b17_20 ≠ u20.heap.size := t17.ne
          replace t17 := t17.on hb
          clear hK K hHeld hb
          have hHeld := hNext
          clear hNext
          generalize hgen : (u20.alloc (.cells #[.int .u64 0, .int .u64 0] 25)) = u25 at hHeld t16 t17 ⊢
          clear hgen
          generalize hgen : u20.heap.size = b16_25 at t16 ne16_17 ne17_16 ⊢
          clear hgen
          try simp only [Act.put, List.setIfInBounds_toArray, List.set_cons_zero, List.set_cons_succ]
          refine wpAnyH_ready (rs := [15]) (by kernel_rfl) (by simp) ?_
          refine AllReadyH.cons (o := ⟨some 91, _, _, _, _, _⟩) rfl (fun K hK => ?_) AllReadyH.nil
          go_simp
          (with_reducible refine (rset_c hh hl p.s.vh p.s.vl p.s.ch p.s.cl _).mono ?_)
          rintro e u26 ⟨rfl, hb⟩
          (try dsimp only)
          refine hK.out _ _ (HKP.out _ (hHeld.1.trans (hb.mono hHeld.1.size))) (fun hNext => ?_)
          clear hK K hHeld
          have hHeld := hNext
          clear hNext
          replace t16 := t16.on hb
          replace t17 := t17.on hb
          clear hb
          try simp only [Act.put, List.setIfInBounds_toArray, List.set_cons_zero, List.set_cons_succ]
          refine wpAnyH_ready (rs := [18]) (by kernel_rfl) (by simp) ?_
          refine AllReadyH.cons (o := ⟨none, _, _, _, _, _⟩) rfl (fun K hK => ?_) AllReadyH.nil
          rw [if_pos (by rfl)]
          refine wp_store_mid 25 _ _ rfl b16_25 0 #[.int .u64 (uv ((hh &&& ~~~p.s.ch) ||| (p.s.vh &&& p.s.ch))), .int .u64 (uv ((hl &&& ~~~p.s.cl) ||| (p.s.vl &&& p.s.cl)))] rfl rfl t16.there sizeHd (by simp [Value.oneCell']) ?_
          (try dsimp only)
          refine hK.out _ _ (HKP.out _ (Below.setCells _ _ _ hHeld.1 t16.2)) (fun hNext => ?_)
          clear hK K hHeld
          have hHeld := hNext
          clear hNext
          replace t17 := t17.far ne16_17 [.int .u64 (uv ((hh &&& ~~~p.s.ch) ||| (p.s.vh &&& p.s.ch))), .int .u64 (uv ((hl &&& ~~~p.s.cl) ||| (p.s.vl &&& p.s.cl)))]
          replace t16 := t16.put [.int .u64 (uv ((hh &&& ~~~p.s.ch) ||| (p.s.vh &&& p.s.ch))), .int .u64 (uv ((hl &&& ~~~p.s.cl) ||| (p.s.vl &&& p.s.cl)))] rfl
          generalize (World.setCells u26 b16_25 0 [.int .u64 (uv ((hh &&& ~~~p.s.ch) ||| (p.s.vh &&& p.s.ch))), .int .u64 (uv ((hl &&& ~~~p.s.cl) ||| (p.s.vl &&& p.s.cl)))]) = u27 at hHeld t16 t17 ⊢
          try simp only [Act.put]
          refine wpAnyH_ready (rs := [19]) (by kernel_rfl) (by simp) ?_
          refine AllReadyH.cons (o := ⟨none, _, _, _, _, _⟩) rfl (fun K hK => ?_) AllReadyH.nil
          rw [if_pos (by rfl)]
          refine wp_store_mid 25 _ _ rfl b17_20 0 #[.int .u64 (uv ((hh &&& ~~~p.s.ch) ||| (p.s.vh &&& p.s.ch))), .int .u64 (uv ((hl &&& ~~~p.s.cl) ||| (p.s.vl &&& p.s.cl)))] rfl rfl t17.there sizeHd (by simp [Value.oneCell']) ?_
          (try dsimp only)
          refine hK.out _ _ (HKP.out _ (Below.setCells _ _ _ hHeld.1 t17.2)) (fun hNext => ?_)
          clear hK K hHeld
          have hHeld := hNext
          clear hNext
          replace t16 := t16.far ne17_16 [.int .u64 (uv ((hh &&& ~~~p.s.ch) ||| (p.s.vh &&& p.s.ch))), .int .u64 (uv ((hl &&& ~~~p.s.cl) ||| (p.s.vl &&& p.s.cl)))]
          replace t17 := t17.put [.int .u64 (uv ((hh &&& ~~~p.s.ch) ||| (p.s.vh &&& p.s.ch))), .int .u64 (uv ((hl &&& ~~~p.s.cl) ||| (p.s.vl &&& p.s.cl)))] rfl
          generalize (World.setCells u27 b17_20 0 [.int .u64 (uv ((hh &&& ~~~p.s.ch) ||| (p.s.vh &&& p.s.ch))), .int .u64 (uv ((hl &&& ~~~p.s.cl) ||| (p.s.vl &&& p.s.cl)))]) = u28 at hHeld t16 t17 ⊢
          try simp only [Act.put]
          refine wpAnyH_done (by kernel_rfl) ?_ _
          go_wp2_with fail
          go_meet
          exact ⟨_, _, rfl, rfl, hHeld.1, t16.1, t17.1⟩
        refine AllReadyH.cons (o := ⟨some 15, _, _, _, _, _⟩) rfl (fun K hK => ?_) ?_
        · go_simp
          have hb := below1 u0 (.cells #[.int .u64 0, .int .u64 0] 25)
          refine hK.out _ _ (HKP.out _ (hHeld.1.trans (hb.mono hHeld.1.size))) (fun hNext => ?_)
          have t16 : Nb w6.heap.size (u0.alloc (.cells #[.int .u64 0, .int .u64 0] 25)) u0.heap.size 25 #[.int .u64 0, .int .u64 0] := Nb.top u0 hHeld.1.size
          clear hK K hHeld hb
          have hHeld := hNext
          clear hNext
          generalize hgen : (u0.alloc (.cells #[.int .u64 0, .int .u64 0] 25)) = u29 at hHeld t16 ⊢
          clear hgen
          generalize hgen : u0.heap.size = b16_29 at t16  ⊢
          clear hgen
          try simp only [Act.put, List.setIfInBounds_toArray, List.set_cons_zero, List.set_cons_succ]
          refine wpAnyH_ready (rs := [7, 17]) (by kernel_rfl) (by simp) ?_
          refine AllReadyH.cons (o := ⟨some 83, _, _, _, _, _⟩) rfl (fun K hK => ?_) ?_
          · go_simp
            (with_reducible refine (rset_c hh hl p.s.vh p.s.vl p.s.ch p.s.cl _).mono ?_)
            rintro e u30 ⟨rfl, hb⟩
            (try dsimp only)
            refine hK.out _ _ (HKP.out _ (hHeld.1.trans (hb.mono hHeld.1.size))) (fun hNext => ?_)
            clear hK K hHeld
            have hHeld := hNext
            clear hNext
            replace t16 := t16.on hb
            clear hb
            try simp only [Act.put, List.setIfInBounds_toArray, List.set_cons_zero, List.set_cons_succ]
            refine wpAnyH_ready (rs := [15, 17]) (by kernel_rfl) (by simp) ?_
            refine AllReadyH.cons (o := ⟨some 91, _, _, _, _, _⟩) rfl (fun K hK => ?_) ?_
            · go_simp
              (with_reducible refine (rset_c hh hl p.s.vh p.s.vl p.s.ch p.s.cl _).mono ?_)
              rintro e u31 ⟨rfl, hb⟩
              (try dsimp only)
              refine hK.out _ _ (HKP.out _ (hHeld.1.trans (hb.mono hHeld.1.size))) (fun hNext => ?_)
              clear hK K hHeld
              have hHeld := hNext
              clear hNext
              replace t16 := t16.on hb
              clear hb
              try simp only [Act.put, List.setIfInBounds_toArray, List.set_cons_zero, List.set_cons_succ]
              refine wpAnyH_ready (rs := [17]) (by kernel_rfl) (by simp) ?_
              refine AllReadyH.cons (o := ⟨some 16, _, _, _, _, _⟩) rfl (fun K hK => ?_) AllReadyH.nil
              go_simp
              have hb := below1 u31 (.cells #[.int .u64 0, .int .u64 0] 25)
              refine hK.out _ _ (HKP.out _ (hHeld.1.trans (hb.mono hHeld.1.size))) (fun hNext => ?_)
              have t17 : Nb w6.heap.size (u31.alloc (.cells #[.int .u64 0, .int .u64 0] 25)) u31.heap.size 25 #[.int .u64 0, .int .u64 0] := Nb.top u31 hHeld.1.size
              have ne17_16 : u31.heap.size ≠ b16_29 := t16.ne.symm
              have ne16_17 : b16_29 ≠ u31.heap.size := t16.ne
              replace t16 := t16.on hb
              clear hK K hHeld hb
              have hHeld := hNext
              clear hNext
              generalize hgen : (u31.alloc (.cells #[.int .u64 0, .int .u64 0] 25)) = u32 at hHeld t16 t17 ⊢
              clear hgen
              generalize hgen : u31.heap.size = b17_32 at t17 ne17_16 ne16_17 ⊢
              clear hgen
              try simp only [Act.put, List.setIfInBounds_toArray, List.set_cons_zero, List.set_cons_succ]
              refine wpAnyH_ready (rs := [18]) (by kernel_rfl) (by simp) ?_
              refine AllReadyH.cons (o := ⟨none, _, _, _, _, _⟩) rfl (fun K hK => ?_) AllReadyH.nil
              rw [if_pos (by rfl)]
              refine wp_store_mid 25 _ _ rfl b16_29 0 #[.int .u64 (uv ((hh &&& ~~~p.s.ch) ||| (p.s.vh &&& p.s.ch))), .int .u64 (uv ((hl &&& ~~~p.s.cl) ||| (p.s.vl &&& p.s.cl)))] rfl rfl t16.there sizeHd (by simp [Value.oneCell']) ?_
              (try dsimp only)
              refine hK.out _ _ (HKP.out _ (Below.setCells _ _ _ hHeld.1 t16.2)) (fun hNext => ?_)
              clear hK K hHeld
              have hHeld := hNext
              clear hNext
              replace t17 := t17.far ne16_17 [.int .u64 (uv ((hh &&& ~~~p.s.ch) ||| (p.s.vh &&& p.s.ch))), .int .u64 (uv ((hl &&& ~~~p.s.cl) ||| (p.s.vl &&& p.s.cl)))]
              replace t16 := t16.put [.int .u64 (uv ((hh &&& ~~~p.s.ch) ||| (p.s.vh &&& p.s.ch))), .int .u64 (uv ((hl &&& ~~~p.s.cl) ||| (p.s.vl &&& p.s.cl)))] rfl
              generalize (World.setCells u32 b16_29 0 [.int .u64 (uv ((hh &&& ~~~p.s.ch) ||| (p.s.vh &&& p.s.ch))), .int .u64 (uv ((hl &&& ~~~p.s.cl) ||| (p.s.vl &&& p.s.cl)))]) = u33 at hHeld t16 t17 ⊢
              try simp only [Act.put]
              refine wpAnyH_ready (rs := [19]) (by kernel_rfl) (by simp) ?_
              refine AllReadyH.cons (o := ⟨none, _, _, _, _, _⟩) rfl (fun K hK => ?_) AllReadyH.nil
              rw [if_pos (by rfl)]
              refine wp_store_mid 25 _ _ rfl b17_32 0 #[.int .u64 (uv ((hh &&& ~~~p.s.ch) ||| (p.s.vh &&& p.s.ch))), .int .u64 (uv ((hl &&& ~~~p.s.cl) ||| (p.s.vl &&& p.s.cl)))] rfl rfl t17.there sizeHd (by simp [Value.oneCell']) ?_
              (try dsimp only)
              refine hK.out _ _ (HKP.out _ (Below.setCells _ _ _ hHeld.1 t17.2)) (fun hNext => ?_)
              clear hK K hHeld
              have hHeld := hNext
              clear hNext
              replace t16 := t16.far ne17_16 [.int .u64 (uv ((hh &&& ~~~p.s.ch) ||| (p.s.vh &&& p.s.ch))), .int .u64 (uv ((hl &&& ~~~p.s.cl) ||| (p.s.vl &&& p.s.cl)))]
              replace t17 := t17.put [.int .u64 (uv ((hh &&& ~~~p.s.ch) ||| (p.s.vh &&& p.s.ch))), .int .u64 (uv ((hl &&& ~~~p.s.cl) ||| (p.s.vl &&& p.s.cl)))] rfl
              generalize (World.setCells u33 b17_32 0 [.int .u64 (uv ((hh &&& ~~~p.s.ch) ||| (p.s.vh &&& p.s.ch))), .int .u64 (uv ((hl &&& ~~~p.s.cl) ||| (p.s.vl &&& p.s.cl)))]) = u34 at hHeld t16 t17 ⊢
              try simp only [Act.put]
              refine wpAnyH_done (by kernel_rfl) ?_ _
              go_wp2_with fail
              go_meet
              exact ⟨_, _, rfl, rfl, hHeld.1, t16.1, t17.1⟩
            refine AllReadyH.cons (o := ⟨some 16, _, _, _, _, _⟩) rfl (fun K hK => ?_) AllReadyH.nil
            go_simp
            have hb := below1 u30 (.cells #[.int .u64 0, .int .u64 0] 25)
            refine hK.out _ _ (HKP.out _ (hHeld.1.trans (hb.mono hHeld.1.size))) (fun hNext => ?_)
            have t17 : Nb w6.heap.size (u30.alloc (.cells #[.int .u64 0, .int .u64 0] 25)) u30.heap.size 25 #[.int .u64 0, .int .u64 0] := Nb.top u30 hHeld.1.size
            have ne17_16 : u30.heap.size ≠ b16_29 := t16.ne.symm
            have ne16_17 : b16_29 ≠ u30.heap.size := t16.ne
            replace t16 := t16.on hb
            clear hK K hHeld hb
            have hHeld := hNext
            clear hNext
            generalize hgen : (u30.alloc (.cells #[.int .u64 0, .int .u64 0] 25)) = u35 at hHeld t16 t17 ⊢
            clear hgen
            generalize hgen : u30.heap.size = b17_35 at t17 ne17_16 ne16_17 ⊢
            clear hgen
            try simp only [Act.put, List.setIfInBounds_toArray, List.set_cons_zero, List.set_cons_succ]
            refine wpAnyH_ready (rs := [15]) (by kernel_rfl) (by simp) ?_
            refine AllReadyH.cons (o := ⟨some 91, _, _, _, _, _⟩) rfl (fun K hK => ?_) AllReadyH.nil
            go_simp
            (with_reducible refine (rset_c hh hl p.s.vh p.s.vl p.s.ch p.s.cl _).mono ?_)
            rintro e u36 ⟨rfl, hb⟩
            (try dsimp only)
            refine hK.out _ _ (HKP.out _ (hHeld.1.trans (hb.mono hHeld.1.size))) (fun hNext => ?_)
            clear hK K hHeld
            have hHeld := hNext
            clear hNext
            replace t16 := t16.on hb
            replace t17 := t17.on hb
            clear hb
            try simp only [Act.put, List.setIfInBounds_toArray, List.set_cons_zero, List.set_cons_succ]
            refine wpAnyH_ready (rs := [18]) (by kernel_rfl) (by simp) ?_
            refine AllReadyH.cons (o := ⟨none, _, _, _, _, _⟩) rfl (fun K hK => ?_) AllReadyH.nil
            rw [if_pos (by rfl)]
            refine wp_store_mid 25 _ _ rfl b16_29 0 #[.int .u64 (uv ((hh &&& ~~~p.s.ch) ||| (p.s.vh &&& p.s.ch))), .int .u64 (uv ((hl &&& ~~~p.s.cl) ||| (p.s.vl &&& p.s.cl)))] rfl rfl t16.there sizeHd (by simp [Value.oneCell']) ?_
            (try dsimp only)
            refine hK.out _ _ (HKP.out _ (Below.setCells _ _ _ hHeld.1 t16.2)) (fun hNext => ?_)
            clear hK K hHeld
            have hHeld := hNext
            clear hNext
            replace t17 := t17.far ne16_17 [.int .u64 (uv ((hh &&& ~~~p.s.ch) ||| (p.s.vh &&& p.s.ch))), .int .u64 (uv ((hl &&& ~~~p.s.cl) ||| (p.s.vl &&& p.s.cl)))]
            replace t16 := t16.put [.int .u64 (uv ((hh &&& ~~~p.s.ch) ||| (p.s.vh &&& p.s.ch))), .int .u64 (uv ((hl &&& ~~~p.s.cl) ||| (p.s.vl &&& p.s.cl)))] rfl
            generalize (World.setCells u36 b16_29 0 [.int .u64 (uv ((hh &&& ~~~p.s.ch) ||| (p.s.vh &&& p.s.ch))), .int .u64 (uv ((hl &&& ~~~p.s.cl) ||| (p.s.vl &&& p.s.cl)))]) = u37 at hHeld t16 t17 ⊢
            try simp only [Act.put]
            refine wpAnyH_ready (rs := [19]) (by kernel_rfl) (by simp) ?_
            refine AllReadyH.cons (o := ⟨none, _, _, _, _, _⟩) rfl (fun K hK => ?_) AllReadyH.nil
            rw [if_pos (by rfl)]
            refine wp_store_mid 25 _ _ rfl b17_35 0 #[.int .u64 (uv ((hh &&& ~~~p.s.ch) ||| (p.s.vh &&& p.s.ch))), .int .u64 (uv ((hl &&& ~~~p.s.cl) ||| (p.s.vl &&& p.s.cl)))] rfl rfl t17.there sizeHd (by simp [Value.oneCell']) ?_
            (try dsimp only)
            refine hK.out _ _ (HKP.out _ (Below.setCells _ _ _ hHeld.1 t17.2)) (fun hNext => ?_)
            clear hK K hHeld
            have hHeld := hNext
            clear hNext
            replace t16 := t16.far ne17_16 [.int .u64 (uv ((hh &&& ~~~p.s.ch) ||| (p.s.vh &&& p.s.ch))), .int .u64 (uv ((hl &&& ~~~p.s.cl) ||| (p.s.vl &&& p.s.cl)))]
            replace t17 := t17.put [.int .u64 (uv ((hh &&& ~~~p.s.ch) ||| (p.s.vh &&& p.s.ch))), .int .u64 (uv ((hl &&& ~~~p.s.cl) ||| (p.s.vl &&& p.s.cl)))] rfl
            generalize (World.setCells u37 b17_35 0 [.int .u64 (uv ((hh &&& ~~~p.s.ch) ||| (p.s.vh &&& p.s.ch))), .int .u64 (uv ((hl &&& ~~~p.s.cl) ||| (p.s.vl &&& p.s.cl)))]) = u38 at hHeld t16 t17 ⊢
            try simp only [Act.put]
            refine wpAnyH_done (by kernel_rfl) ?_ _
            go_wp2_with fail
            go_meet
            exact ⟨_, _, rfl, rfl, hHeld.1, t16.1, t17.1⟩
          refine AllReadyH.cons (o := ⟨some 16, _, _, _, _, _⟩) rfl (fun K hK => ?_) AllReadyH.nil
          go_simp
          have hb := below1 u29 (.cells #[.int .u64 0, .int .u64 0] 25)
          refine hK.out _ _ (HKP.out _ (hHeld.1.trans (hb.mono hHeld.1.size))) (fun hNext => ?_)
          have t17 : Nb w6.heap.size (u29.alloc (.cells #[.int .u64 0, .int .u64 0] 25)) u29.heap.size 25 #[.int .u64 0, .int .u64 0] := Nb.top u29 hHeld.1.size
          have ne17_16 : u29.heap.size ≠ b16_29 := t16.ne.symm
          have ne16_17 : b16_29 ≠ u29.heap.size := t16.ne
          replace t16 := t16.on hb
          clear hK K hHeld hb
          have hHeld := hNext
          clear hNext
          generalize hgen : (u29.alloc (.cells #[.int .u64 0, .int .u64 0] 25)) = u39 at hHeld t16 t17 ⊢
          clear hgen
          generalize hgen : u29.heap.size = b17_39 at t17 ne17_16 ne16_17 ⊢
          clear hgen
          try simp only [Act.put, List.setIfInBounds_toArray, List.set_cons_zero, List.set_cons_succ]
          refine wpAnyH_ready (rs := [7]) (by kernel_rfl) (by simp) ?_
          refine AllReadyH.cons (o := ⟨some 83, _, _, _, _, _⟩) rfl (fun K hK => ?_) AllReadyH.nil
          go_simp
          (with_reducible refine (rset_c hh hl p.s.vh p.s.vl p.s.ch p.s.cl _).mono ?_)
          rintro e u40 ⟨rfl, hb⟩
          (try dsimp only)
          refine hK.out _ _ (HKP.out _ (hHeld.1.trans (hb.mono hHeld.1.size))) (fun hNext => ?_)
          clear hK K hHeld
          have hHeld := hNext
          clear hNext
          replace t16 := t16.on hb
          replace t17 := t17.on hb
          clear hb
          try simp only [Act.put, List.setIfInBounds_toArray, List.set_cons_zero, List.set_cons_succ]
          refine wpAnyH_ready (rs := [15]) (by kernel_rfl) (by simp) ?_
          refine AllReadyH.cons (o := ⟨some 91, _, _, _, _, _⟩) rfl (fun K hK => ?_) AllReadyH.nil
          go_simp
          (with_reducible refine (rset_c hh hl p.s.vh p.s.vl p.s.ch p.s.cl _).mono ?_)
          rintro e u41 ⟨rfl, hb⟩
          (try dsimp only)
          refine hK.out _ _ (HKP.out _ (hHeld.1.trans (hb.mono hHeld.1.size))) (fun hNext => ?_)
          clear hK K hHeld
          have hHeld := hNext
          clear hNext
          replace t16 := t16.on hb
          replace t17 := t17.on hb
          clear hb
          try simp only [Act.put, List.setIfInBounds_toArray, List.set_cons_zero, List.set_cons_succ]
          refine wpAnyH_ready (rs := [18]) (by kernel_rfl) (by simp) ?_
          refine AllReadyH.cons (o := ⟨none, _, _, _, _, _⟩) rfl (fun K hK => ?_) AllReadyH.nil
          rw [if_pos (by rfl)]
          refine wp_store_mid 25 _ _ rfl b16_29 0 #[.int .u64 (uv ((hh &&& ~~~p.s.ch) ||| (p.s.vh &&& p.s.ch))), .int .u64 (uv ((hl &&& ~~~p.s.cl) ||| (p.s.vl &&& p.s.cl)))] rfl rfl t16.there sizeHd (by simp [Value.oneCell']) ?_
          (try dsimp only)
          refine hK.out _ _ (HKP.out _ (Below.setCells _ _ _ hHeld.1 t16.2)) (fun hNext => ?_)
          clear hK K hHeld
          have hHeld := hNext
          clear hNext
          replace t17 := t17.far ne16_17 [.int .u64 (uv ((hh &&& ~~~p.s.ch) ||| (p.s.vh &&& p.s.ch))), .int .u64 (uv ((hl &&& ~~~p.s.cl) ||| (p.s.vl &&& p.s.cl)))]
          replace t16 := t16.put [.int .u64 (uv ((hh &&& ~~~p.s.ch) ||| (p.s.vh &&& p.s.ch))), .int .u64 (uv ((hl &&& ~~~p.s.cl) ||| (p.s.vl &&& p.s.cl)))] rfl
          generalize (World.setCells u41 b16_29 0 [.int .u64 (uv ((hh &&& ~~~p.s.ch) ||| (p.s.vh &&& p.s.ch))), .int .u64 (uv ((hl &&& ~~~p.s.cl) ||| (p.s.vl &&& p.s.cl)))]) = u42 at hHeld t16 t17 ⊢
          try simp only [Act.put]
          refine wpAnyH_ready (rs := [19]) (by kernel_rfl) (by simp) ?_
          refine AllReadyH.cons (o := ⟨none, _, _, _, _, _⟩) rfl (fun K hK => ?_) AllReadyH.nil
          rw [if_pos (by rfl)]
          refine wp_store_mid 25 _ _ rfl b17_39 0 #[.int .u64 (uv ((hh &&& ~~~p.s.ch) ||| (p.s.vh &&& p.s.ch))), .int .u64 (uv ((hl &&& ~~~p.s.cl) ||| (p.s.vl &&& p.s.cl)))] rfl rfl t17.there sizeHd (by simp [Value.oneCell']) ?_
          (try dsimp only)
          refine hK.out _ _ (HKP.out _ (Below.setCells _ _ _ hHeld.1 t17.2)) (fun hNext => ?_)
          clear hK K hHeld
          have hHeld := hNext
          clear hNext
          replace t16 := t16.far ne17_16 [.int .u64 (uv ((hh &&& ~~~p.s.ch) ||| (p.s.vh &&& p.s.ch))), .int .u64 (uv ((hl &&& ~~~p.s.cl) ||| (p.s.vl &&& p.s.cl)))]
          replace t17 := t17.put [.int .u64 (uv ((hh &&& ~~~p.s.ch) ||| (p.s.vh &&& p.s.ch))), .int .u64 (uv ((hl &&& ~~~p.s.cl) ||| (p.s.vl &&& p.s.cl)))] rfl
          generalize (World.setCells u42 b17_39 0 [.int .u64 (uv ((hh &&& ~~~p.s.ch) ||| (p.s.vh &&& p.s.ch))), .int .u64 (uv ((hl &&& ~~~p.s.cl) ||| (p.s.vl &&& p.s.cl)))]) = u43 at hHeld t16 t17 ⊢
          try simp only [Act.put]
          refine wpAnyH_done (by kernel_rfl) ?_ _
          go_wp2_with fail
          go_meet
          exact ⟨_, _, rfl, rfl, hHeld.1, t16.1, t17.1⟩
        refine AllReadyH.cons (o := ⟨some 16, _, _, _, _, _⟩) rfl (fun K hK => ?_) AllReadyH.nil
        go_simp
        have hb := below1 u0 (.cells #[.int .u64 0, .int .u64 0] 25)
        refine hK.out _ _ (HKP.out _ (hHeld.1.trans (hb.mono hHeld.1.size))) (fun hNext => ?_)
        have t17 : Nb w6.heap.size (u0.alloc (.cells #[.int .u64 0, .int .u64 0] 25)) u0.heap.size 25 #[.int .u64 0, .int .u64 0] := Nb.top u0 hHeld.1.size
        clear hK K hHeld hb
        have hHeld := hNext
        clear hNext
        generalize hgen : (u0.alloc (.cells #[.int .u64 0, .int .u64 0] 25)) = u44 at hHeld t17 ⊢
        clear hgen
        generalize hgen : u0.heap.size = b17_44 at t17  ⊢
        clear hgen
        try simp only [Act.put, List.setIfInBounds_toArray, List.set_cons_zero, List.set_cons_succ]
        refine wpAnyH_ready (rs := [7, 16]) (by kernel_rfl) (by simp) ?_
        refine AllReadyH.cons (o := ⟨some 83, _, _, _, _, _⟩) rfl (fun K hK => ?_) ?_
        · go_simp
          (with_reducible refine (rset_c hh hl p.s.vh p.s.vl p.s.ch p.s.cl _).mono ?_)
          rintro e u45 ⟨rfl, hb⟩
          (try dsimp only)
          refine hK.out _ _ (HKP.out _ (hHeld.1.trans (hb.mono hHeld.1.size))) (fun hNext => ?_)
          clear hK K hHeld
          have hHeld := hNext
          clear hNext
          replace t17 := t17.on hb
          clear hb
          try simp only [Act.put, List.setIfInBounds_toArray, List.set_cons_zero, List.set_cons_succ]
          refine wpAnyH_ready (rs := [15, 16]) (by kernel_rfl) (by simp) ?_
          refine AllReadyH.cons (o := ⟨some 91, _, _, _, _, _⟩) rfl (fun K hK => ?_) ?_
          · go_simp
            (with_reducible refine (rset_c hh hl p.s.vh p.s.vl p.s.ch p.s.cl _).mono ?_)
            rintro e u46 ⟨rfl, hb⟩
            (try dsimp only)
            refine hK.out _ _ (HKP.out _ (hHeld.1.trans (hb.mono hHeld.1.size))) (fun hNext => ?_)
            clear hK K hHeld
            have hHeld := hNext
            clear hNext
            replace t17 := t17.on hb
            clear hb
            try simp only [Act.put, List.setIfInBounds_toArray, List.set_cons_zero, List.set_cons_succ]
            refine wpAnyH_ready (rs := [16]) (by kernel_rfl) (by simp) ?_
            refine AllReadyH.cons (o := ⟨some 15, _, _, _, _, _⟩) rfl (fun K hK => ?_) AllReadyH.nil
            go_simp
            have hb := below1 u46 (.cells #[.int .u64 0, .int .u64 0] 25)
            refine hK.out _ _ (HKP.out _ (hHeld.1.trans (hb.mono hHeld.1.size))) (fun hNext => ?_)
            have t16 : Nb w6.heap.size (u46.alloc (.cells #[.int .u64 0, .int .u64 0] 25)) u46.heap.size 25 #[.int .u64 0, .int .u64 0] := Nb.top u46 hHeld.1.size
            have ne16_17 : u46.heap.size ≠ b17_44 := t17.ne.symm
            have ne17_16 : b17_44 ≠ u46.heap.size := t17.ne
            replace t17 := t17.on hb
            clear hK K hHeld hb
            have hHeld := hNext
            clear hNext
            generalize hgen : (u46.alloc (.cells #[.int .u64 0, .int .u64 0] 25)) = u47 at hHeld t16 t17 ⊢
            clear hgen
            generalize hgen : u46.heap.size = b16_47 at t16 ne16_17 ne17_16 ⊢
            clear hgen
            try simp only [Act.put, List.setIfInBounds_toArray, List.set_cons_zero, List.set_cons_succ]
            refine wpAnyH_ready (rs := [18]) (by kernel_rfl) (by simp) ?_
            refine AllReadyH.cons (o := ⟨none, _, _, _, _, _⟩) rfl (fun K hK => ?_) AllReadyH.nil
            rw [if_pos (by rfl)]
            refine wp_store_mid 25 _ _ rfl b16_47 0 #[.int .u64 (uv ((hh &&& ~~~p.s.ch) ||| (p.s.vh &&& p.s.ch))), .int .u64 (uv ((hl &&& ~~~p.s.cl) ||| (p.s.vl &&& p.s.cl)))] rfl rfl t16.there sizeHd (by simp [Value.oneCell']) ?_
            (try dsimp only)
            refine hK.out _ _ (HKP.out _ (Below.setCells _ _ _ hHeld.1 t16.2)) (fun hNext => ?_)
            clear hK K hHeld
            have hHeld := hNext
            clear hNext
            replace t17 := t17.far ne16_17 [.int .u64 (uv ((hh &&& ~~~p.s.ch) ||| (p.s.vh &&& p.s.ch))), .int .u64 (uv ((hl &&& ~~~p.s.cl) ||| (p.s.vl &&& p.s.cl)))]
            replace t16 := t16.put [.int .u64 (uv ((hh &&& ~~~p.s.ch) ||| (p.s.vh &&& p.s.ch))), .int .u64 (uv ((hl &&& ~~~p.s.cl) ||| (p.s.vl &&& p.s.cl)))] rfl
            generalize (World.setCells u47 b16_47 0 [.int .u64 (uv ((hh &&& ~~~p.s.ch) ||| (p.s.vh &&& p.s.ch))), .int .u64 (uv ((hl &&& ~~~p.s.cl) ||| (p.s.vl &&& p.s.cl)))]) = u48 at hHeld t16 t17 ⊢
            try simp only [Act.put]
            refine wpAnyH_ready (rs := [19]) (by kernel_rfl) (by simp) ?_
            refine AllReadyH.cons (o := ⟨none, _, _, _, _, _⟩) rfl (fun K hK => ?_) AllReadyH.nil
            rw [if_pos (by rfl)]
            refine wp_store_mid 25 _ _ rfl b17_44 0 #[.int .u64 (uv ((hh &&& ~~~p.s.ch) ||| (p.s.vh &&& p.s.ch))), .int .u64 (uv ((hl &&& ~~~p.s.cl) ||| (p.s.vl &&& p.s.cl)))] rfl rfl t17.there sizeHd (by simp [Value.oneCell']) ?_
            (try dsimp only)
            refine hK.out _ _ (HKP.out _ (Below.setCells _ _ _ hHeld.1 t17.2)) (fun hNext => ?_)
            clear hK K hHeld
            have hHeld := hNext
            clear hNext
            replace t16 := t16.far ne17_16 [.int .u64 (uv ((hh &&& ~~~p.s.ch) ||| (p.s.vh &&& p.s.ch))), .int .u64 (uv ((hl &&& ~~~p.s.cl) ||| (p.s.vl &&& p.s.cl)))]
            replace t17 := t17.put [.int .u64 (uv ((hh &&& ~~~p.s.ch) ||| (p.s.vh &&& p.s.ch))), .int .u64 (uv ((hl &&& ~~~p.s.cl) ||| (p.s.vl &&& p.s.cl)))] rfl
            generalize (World.setCells u48 b17_44 0 [.int .u64 (uv ((hh &&& ~~~p.s.ch) ||| (p.s.vh &&& p.s.ch))), .int .u64 (uv ((hl &&& ~~~p.s.cl) ||| (p.s.vl &&& p.s.cl)))]) = u49 at hHeld t16 t17 ⊢
            try simp only [Act.put]
            refine wpAnyH_done (by kernel_rfl) ?_ _
            go_wp2_with fail
            go_meet
            exact ⟨_, _, rfl, rfl, hHeld.1, t16.1, t17.1⟩
          refine AllReadyH.cons (o := ⟨some 15, _, _, _, _, _⟩) rfl (fun K hK => ?_) AllReadyH.nil
          go_simp
          have hb := below1 u45 (.cells #[.int .u64 0, .int .u64 0] 25)
          refine hK.out _ _ (HKP.out _ (hHeld.1.trans (hb.mono hHeld.1.size))) (fun hNext => ?_)
          have t16 : Nb w6.heap.size (u45.alloc (.cells #[.int .u64 0, .int .u64 0] 25)) u45.heap.size 25 #[.int .u64 0, .int .u64 0] := Nb.top u45 hHeld.1.size
          have ne16_17 : u45.heap.size ≠ b17_44 := t17.ne.symm
          have ne17_16 : b17_44 ≠ u45.heap.size := t17.ne
          replace t17 := t17.on hb
          clear hK K hHeld hb
          have hHeld := hNext
          clear hNext
          generalize hgen : (u45.alloc (.cells #[.int .u64 0, .int .u64 0] 25)) = u50 at hHeld t16 t17 ⊢
          clear hgen
          generalize hgen : u45.heap.size = b16_50 at t16 ne16_17 ne17_16 ⊢
          clear hgen
          try simp only [Act.put, List.setIfInBounds_toArray, List.set_cons_zero, List.set_cons_succ]
          refine wpAnyH_ready (rs := [15]) (by kernel_rfl) (by simp) ?_
          refine AllReadyH.cons (o := ⟨some 91, _, _, _, _, _⟩) rfl (fun K hK => ?_) AllReadyH.nil
          go_simp
          (with_reducible refine (rset_c hh hl p.s.vh p.s.vl p.s.ch p.s.cl _).mono ?_)
          rintro e u51 ⟨rfl, hb⟩
          (try dsimp only)
          refine hK.out _ _ (HKP.out _ (hHeld.1.trans (hb.mono hHeld.1.size))) (fun hNext => ?_)
          clear hK K hHeld
          have hHeld := hNext
          clear hNext
          replace t16 := t16.on hb
          replace t17 := t17.on hb
          clear hb
          try simp only [Act.put, List.setIfInBounds_toArray, List.set_cons_zero, List.set_cons_succ]
          refine wpAnyH_ready (rs := [18]) (by kernel_rfl) (by simp) ?_
          refine AllReadyH.cons (o := ⟨none, _, _, _, _, _⟩) rfl (fun K hK => ?_) AllReadyH.nil
          rw [if_pos (by rfl)]
          refine wp_store_mid 25 _ _ rfl b16_50 0 #[.int .u64 (uv ((hh &&& ~~~p.s.ch) ||| (p.s.vh &&& p.s.ch))), .int .u64 (uv ((hl &&& ~~~p.s.cl) ||| (p.s.vl &&& p.s.cl)))] rfl rfl t16.there sizeHd (by simp [Value.oneCell']) ?_
          (try dsimp only)
          refine hK.out _ _ (HKP.out _ (Below.setCells _ _ _ hHeld.1 t16.2)) (fun hNext => ?_)
          clear hK K hHeld
          have hHeld := hNext
          clear hNext
          replace t17 := t17.far ne16_17 [.int .u64 (uv ((hh &&& ~~~p.s.ch) ||| (p.s.vh &&& p.s.ch))), .int .u64 (uv ((hl &&& ~~~p.s.cl) ||| (p.s.vl &&& p.s.cl)))]
          replace t16 := t16.put [.int .u64 (uv ((hh &&& ~~~p.s.ch) ||| (p.s.vh &&& p.s.ch))), .int .u64 (uv ((hl &&& ~~~p.s.cl) ||| (p.s.vl &&& p.s.cl)))] rfl
          generalize (World.setCells u51 b16_50 0 [.int .u64 (uv ((hh &&& ~~~p.s.ch) ||| (p.s.vh &&& p.s.ch))), .int .u64 (uv ((hl &&& ~~~p.s.cl) ||| (p.s.vl &&& p.s.cl)))]) = u52 at hHeld t16 t17 ⊢
          try simp only [Act.put]
          refine wpAnyH_ready (rs := [19]) (by kernel_rfl) (by simp) ?_
          refine AllReadyH.cons (o := ⟨none, _, _, _, _, _⟩) rfl (fun K hK => ?_) AllReadyH.nil
          rw [if_pos (by rfl)]
          refine wp_store_mid 25 _ _ rfl b17_44 0 #[.int .u64 (uv ((hh &&& ~~~p.s.ch) ||| (p.s.vh &&& p.s.ch))), .int .u64 (uv ((hl &&& ~~~p.s.cl) ||| (p.s.vl &&& p.s.cl)))] rfl rfl t17.there sizeHd (by simp [Value.oneCell']) ?_
          (try dsimp only)
          refine hK.out _ _ (HKP.out _ (Below.setCells _ _ _ hHeld.1 t17.2)) (fun hNext => ?_)
          clear hK K hHeld
          have hHeld := hNext
          clear hNext
          replace t16 := t16.far ne17_16 [.int .u64 (uv ((hh &&& ~~~p.s.ch) ||| (p.s.vh &&& p.s.ch))), .int .u64 (uv ((hl &&& ~~~p.s.cl) ||| (p.s.vl &&& p.s.cl)))]
          replace t17 := t17.put [.int .u64 (uv ((hh &&& ~~~p.s.ch) ||| (p.s.vh &&& p.s.ch))), .int .u64 (uv ((hl &&& ~~~p.s.cl) ||| (p.s.vl &&& p.s.cl)))] rfl
          generalize (World.setCells u52 b17_44 0 [.int .u64 (uv ((hh &&& ~~~p.s.ch) ||| (p.s.vh &&& p.s.ch))), .int .u64 (uv ((hl &&& ~~~p.s.cl) ||| (p.s.vl &&& p.s.cl)))]) = u53 at hHeld t16 t17 ⊢
          try simp only [Act.put]
          refine wpAnyH_done (by kernel_rfl) ?_ _
          go_wp2_with fail
          go_meet
          exact ⟨_, _, rfl, rfl, hHeld.1, t16.1, t17.1⟩
        refine AllReadyH.cons (o := ⟨some 15, _, _, _, _, _⟩) rfl (fun K hK => ?_) AllReadyH.nil
        go_simp
        have hb := below1 u44 (.cells #[.int .u64 0, .int .u64 0] 25)
        refine hK.out _ _ (HKP.out _ (hHeld.1.trans (hb.mono hHeld.1.size))) (fun hNext => ?_)
        have t16 : Nb w6.heap.size (u44.alloc (.cells #[.int .u64 0, .int .u64 0] 25)) u44.heap.size 25 #[.int .u64 0, .int .u64 0] := Nb.top u44 hHeld.1.size
        have ne16_17 : u44.heap.size ≠ b17_44 := t17.ne.symm
        have ne17_16 : b17_44 ≠ u44.heap.size := t17.ne
        replace t17 := t17.on hb
        clear hK K hHeld hb
        have hHeld := hNext
        clear hNext
        generalize hgen : (u44.alloc (.cells #[.int .u64 0, .int .u64 0] 25)) = u54 at hHeld t16 t17 ⊢
        clear hgen
        generalize hgen : u44.heap.size = b16_54 at t16 ne16_17 ne17_16 ⊢
        clear hgen
        try simp only [Act.put, List.setIfInBounds_toArray, List.set_cons_zero, List.set_cons_succ]
        refine wpAnyH_ready (rs := [7]) (by kernel_rfl) (by simp) ?_
        refine AllReadyH.cons (o := ⟨some 83, _, _, _, _, _⟩) rfl (fun K hK => ?_) AllReadyH.nil
        go_simp
        (with_reducible refine (rset_c hh hl p.s.vh p.s.vl p.s.ch p.s.cl _).mono ?_)
        rintro e u55 ⟨rfl, hb⟩
        (try dsimp only)
        refine hK.out _ _ (HKP.out _ (hHeld.1.trans (hb.mono hHeld.1.size))) (fun hNext => ?_)
        clear hK K hHeld
        have hHeld := hNext
        clear hNext
        replace t16 := t16.on hb
        replace t17 := t17.on hb
        clear hb
        try simp only [Act.put, List.setIfInBounds_toArray, List.set_cons_zero, List.set_cons_succ]
        refine wpAnyH_ready (rs := [15]) (by kernel_rfl) (by simp) ?_
        refine AllReadyH.cons (o := ⟨some 91, _, _, _, _, _⟩) rfl (fun K hK => ?_) AllReadyH.nil
        go_simp
        (with_reducible refine (rset_c hh hl p.s.vh p.s.vl p.s.ch p.s.cl _).mono ?_)
        rintro e u56 ⟨rfl, hb⟩
        (try dsimp only)
        refine hK.out _ _ (HKP.out _ (hHeld.1.trans (hb.mono hHeld.1.size))) (fun hNext => ?_)
        clear hK K hHeld
        have hHeld := hNext
        clear hNext
        replace t16 := t16.on hb
        replace t17 := t17.on hb
        clear hb
        try simp only [Act.put, List.setIfInBounds_toArray, List.set_cons_zero, List.set_cons_succ]
        refine wpAnyH_ready (rs := [18]) (by kernel_rfl) (by simp) ?_
        refine AllReadyH.cons (o := ⟨none, _, _, _, _, _⟩) rfl (fun K hK => ?_) AllReadyH.nil
        rw [if_pos (by rfl)]
        refine wp_store_mid 25 _ _ rfl b16_54 0 #[.int .u64 (uv ((hh &&& ~~~p.s.ch) ||| (p.s.vh &&& p.s.ch))), .int .u64 (uv ((hl &&& ~~~p.s.cl) ||| (p.s.vl &&& p.s.cl)))] rfl rfl t16.there sizeHd (by simp [Value.oneCell']) ?_
        (try dsimp only)
        refine hK.out _ _ (HKP.out _ (Below.setCells _ _ _ hHeld.1 t16.2)) (fun hNext => ?_)
        clear hK K hHeld
        have hHeld := hNext
        clear hNext
        replace t17 := t17.far ne16_17 [.int .u64 (uv ((hh &&& ~~~p.s.ch) ||| (p.s.vh &&& p.s.ch))), .int .u64 (uv ((hl &&& ~~~p.s.cl) ||| (p.s.vl &&& p.s.cl)))]
        replace t16 := t16.put [.int .u64 (uv ((hh &&& ~~~p.s.ch) ||| (p.s.vh &&& p.s.ch))), .int .u64 (uv ((hl &&& ~~~p.s.cl) ||| (p.s.vl &&& p.s.cl)))] rfl
        generalize (World.setCells u56 b16_54 0 [.int .u64 (uv ((hh &&& ~~~p.s.ch) ||| (p.s.vh &&& p.s.ch))), .int .u64 (uv ((hl &&& ~~~p.s.cl) ||| (p.s.vl &&& p.s.cl)))]) = u57 at hHeld t16 t17 ⊢
        try simp only [Act.put]
        refine wpAnyH_ready (rs := [19]) (by kernel_rfl) (by simp) ?_
        refine AllReadyH.cons (o := ⟨none, _, _, _, _, _⟩) rfl (fun K hK => ?_) AllReadyH.nil
        rw [if_pos (by rfl)]
        refine wp_store_mid 25 _ _ rfl b17_44 0 #[.int .u64 (uv ((hh &&& ~~~p.s.ch) ||| (p.s.vh &&& p.s.ch))), .int .u64 (uv ((hl &&& ~~~p.s.cl) ||| (p.s.vl &&& p.s.cl)))] rfl rfl t17.there sizeHd (by simp [Value.oneCell']) ?_
        (try dsimp only)
        refine hK.out _ _ (HKP.out _ (Below.setCells _ _ _ hHeld.1 t17.2)) (fun hNext => ?_)
        clear hK K hHeld
        have hHeld := hNext
        clear hNext
        replace t16 := t16.far ne17_16 [.int .u64 (uv ((hh &&& ~~~p.s.ch) ||| (p.s.vh &&& p.s.ch))), .int .u64 (uv ((hl &&& ~~~p.s.cl) ||| (p.s.vl &&& p.s.cl)))]
        replace t17 := t17.put [.int .u64 (uv ((hh &&& ~~~p.s.ch) ||| (p.s.vh &&& p.s.ch))), .int .u64 (uv ((hl &&& ~~~p.s.cl) ||| (p.s.vl &&& p.s.cl)))] rfl
        generalize (World.setCells u57 b17_44 0 [.int .u64 (uv ((hh &&& ~~~p.s.ch) ||| (p.s.vh &&& p.s.ch))), .int .u64 (uv ((hl &&& ~~~p.s.cl) ||| (p.s.vl &&& p.s.cl)))]) = u58 at hHeld t16 t17 ⊢
        try simp only [Act.put]
        refine wpAnyH_done (by kernel_rfl) ?_ _
        go_wp2_with fail
        go_meet
        exact ⟨_, _, rfl, rfl, hHeld.1, t16.1, t17.1⟩
      case rest =>
        obtain ⟨bx, by1, rfl, rfl, B8, BX, BY⟩ := hcut
        have HB8 := Lib.hid (HB7.out.trans (B8.mono HB7.out.size))
        have HA8 := Lib.hid (HAT.out.on B8)
        have HA9 := Lib.hid (HAT9.out.on B8)
        have KP : ∀ W, Below wc.heap.size wc W → (Below wc.heap.size wc W ∧ W.cell? ⟨bx, 0, none⟩ = some (.int .u64 (uv ((hh &&& ~~~p.s.ch) ||| (p.s.vh &&& p.s.ch)))) ∧ W.cell? ⟨bx, 1, none⟩ = some (.int .u64 (uv ((hl &&& ~~~p.s.cl) ||| (p.s.vl &&& p.s.cl)))) ∧ W.cell? ⟨by1, 0, none⟩ = some (.int .u64 (uv ((hh &&& ~~~p.s.ch) ||| (p.s.vh &&& p.s.ch)))) ∧ W.cell? ⟨by1, 1, none⟩ = some (.int .u64 (uv ((hl &&& ~~~p.s.cl) ||| (p.s.vl &&& p.s.cl)))) ∧ W.cell? ⟨b, o + a * 12, none⟩ = some (.int .i64 p.pri) ∧ W.cell? ⟨b, o + a * 12 + 1, none⟩ = some (.int .u64 (uv p.m.vh)) ∧ W.cell? ⟨b, o + a * 12 + 2, none⟩ = some (.int .u64 (uv p.m.vl)) ∧ W.cell? ⟨b, o + a * 12 + 3, none⟩ = some (.int .u64 (uv p.m.ch)) ∧ W.cell? ⟨b, o + a * 12 + 4, none⟩ = some (.int .u64 (uv p.m.cl)) ∧ W.cell? ⟨b, o + a * 12 + 5, none⟩ = some (.int .i64 p.kind) ∧ W.cell? ⟨b, o + a * 12 + 6, none⟩ = some (.int .i64 p.port) ∧ W.cell? ⟨b, o + a * 12 + 7, none⟩ = some (.int .i64 p.tab) ∧ W.cell? ⟨b, o + a * 12 + 8, none⟩ = some (.int .u64 (uv p.s.vh)) ∧ W.cell? ⟨b, o + a * 12 + 9, none⟩ = some (.int .u64 (uv p.s.vl)) ∧ W.cell? ⟨b, o + a * 12 + 10, none⟩ = some (.int .u64 (uv p.s.ch)) ∧ W.cell? ⟨b, o + a * 12 + 11, none⟩ = some (.int .u64 (uv p.s.cl)) ∧ W.cell? ⟨b9, o9 + bb * 12, none⟩ = some (.int .i64 p.pri) ∧ W.cell? ⟨b9, o9 + bb * 12 + 1, none⟩ = some (.int .u64 (uv p.m.vh)) ∧ W.cell? ⟨b9, o9 + bb * 12 + 2, none⟩ = some (.int .u64 (uv p.m.vl)) ∧ W.cell? ⟨b9, o9 + bb * 12 + 3, none⟩ = some (.int .u64 (uv p.m.ch)) ∧ W.cell? ⟨b9, o9 + bb * 12 + 4, none⟩ = some (.int .u64 (uv p.m.cl)) ∧ W.cell? ⟨b9, o9 + bb * 12 + 5, none⟩ = some (.int .i64 p.kind) ∧ W.cell? ⟨b9, o9 + bb * 12 + 6, none⟩ = some (.int .i64 p.port) ∧ W.cell? ⟨b9, o9 + bb * 12 + 7, none⟩ = some (.int .i64 p.tab) ∧ W.cell? ⟨b9, o9 + bb * 12 + 8, none⟩ = some (.int .u64 (uv p.s.vh)) ∧ W.cell? ⟨b9, o9 + bb * 12 + 9, none⟩ = some (.int .u64 (uv p.s.vl)) ∧ W.cell? ⟨b9, o9 + bb * 12 + 10, none⟩ = some (.int .u64 (uv p.s.ch)) ∧ W.cell? ⟨b9, o9 + bb * 12 + 11, none⟩ = some (.int .u64 (uv p.s.cl))) := fun W hb => by
          obtain ⟨k0, k1, k2, k3, k4, k5, k6, k7, k8, k9, k10, k11⟩ := (HA8.out.on hb).out
          obtain ⟨l0, l1, l2, l3, l4, l5, l6, l7, l8, l9, l10, l11⟩ := (HA9.out.on hb).out
          exact ⟨hb, (BX.on hb).cell 0, (BX.on hb).cell 1, (BY.on hb).cell 0, (BY.on hb).cell 1, k0, k1, k2, k3, k4, k5, k6, k7, k8, k9, k10, k11, l0, l1, l2, l3, l4, l5, l6, l7, l8, l9, l10, l11⟩
        have HKP := Lib.hid KP
        have hbne : ((a : Int) != (n : Int)) = true := bne_iff_ne.2 hanz
        clear KP B8 BX BY HB7 HAT HAT9 HH7
        go_upto_region 12 with (fail)
        refine wp_region_held_drew (S := fun w' => Below wc.heap.size wc w' ∧ w'.cell? ⟨bx, 0, none⟩ = some (.int .u64 (uv ((hh &&& ~~~p.s.ch) ||| (p.s.vh &&& p.s.ch)))) ∧ w'.cell? ⟨bx, 1, none⟩ = some (.int .u64 (uv ((hl &&& ~~~p.s.cl) ||| (p.s.vl &&& p.s.cl)))) ∧ w'.cell? ⟨by1, 0, none⟩ = some (.int .u64 (uv ((hh &&& ~~~p.s.ch) ||| (p.s.vh &&& p.s.ch)))) ∧ w'.cell? ⟨by1, 1, none⟩ = some (.int .u64 (uv ((hl &&& ~~~p.s.cl) ||| (p.s.vl &&& p.s.cl)))) ∧ w'.cell? ⟨b, o + a * 12, none⟩ = some (.int .i64 p.pri) ∧ w'.cell? ⟨b, o + a * 12 + 1, none⟩ = some (.int .u64 (uv p.m.vh)) ∧ w'.cell? ⟨b, o + a * 12 + 2, none⟩ = some (.int .u64 (uv p.m.vl)) ∧ w'.cell? ⟨b, o + a * 12 + 3, none⟩ = some (.int .u64 (uv p.m.ch)) ∧ w'.cell? ⟨b, o + a * 12 + 4, none⟩ = some (.int .u64 (uv p.m.cl)) ∧ w'.cell? ⟨b, o + a * 12 + 5, none⟩ = some (.int .i64 p.kind) ∧ w'.cell? ⟨b, o + a * 12 + 6, none⟩ = some (.int .i64 p.port) ∧ w'.cell? ⟨b, o + a * 12 + 7, none⟩ = some (.int .i64 p.tab) ∧ w'.cell? ⟨b, o + a * 12 + 8, none⟩ = some (.int .u64 (uv p.s.vh)) ∧ w'.cell? ⟨b, o + a * 12 + 9, none⟩ = some (.int .u64 (uv p.s.vl)) ∧ w'.cell? ⟨b, o + a * 12 + 10, none⟩ = some (.int .u64 (uv p.s.ch)) ∧ w'.cell? ⟨b, o + a * 12 + 11, none⟩ = some (.int .u64 (uv p.s.cl)) ∧ w'.cell? ⟨b9, o9 + bb * 12, none⟩ = some (.int .i64 p.pri) ∧ w'.cell? ⟨b9, o9 + bb * 12 + 1, none⟩ = some (.int .u64 (uv p.m.vh)) ∧ w'.cell? ⟨b9, o9 + bb * 12 + 2, none⟩ = some (.int .u64 (uv p.m.vl)) ∧ w'.cell? ⟨b9, o9 + bb * 12 + 3, none⟩ = some (.int .u64 (uv p.m.ch)) ∧ w'.cell? ⟨b9, o9 + bb * 12 + 4, none⟩ = some (.int .u64 (uv p.m.cl)) ∧ w'.cell? ⟨b9, o9 + bb * 12 + 5, none⟩ = some (.int .i64 p.kind) ∧ w'.cell? ⟨b9, o9 + bb * 12 + 6, none⟩ = some (.int .i64 p.port) ∧ w'.cell? ⟨b9, o9 + bb * 12 + 7, none⟩ = some (.int .i64 p.tab) ∧ w'.cell? ⟨b9, o9 + bb * 12 + 8, none⟩ = some (.int .u64 (uv p.s.vh)) ∧ w'.cell? ⟨b9, o9 + bb * 12 + 9, none⟩ = some (.int .u64 (uv p.s.vl)) ∧ w'.cell? ⟨b9, o9 + bb * 12 + 10, none⟩ = some (.int .u64 (uv p.s.ch)) ∧ w'.cell? ⟨b9, o9 + bb * 12 + 11, none⟩ = some (.int .u64 (uv p.s.cl))) (by kernel_rfl) (HKP.out _ (Below.refl _ wc).drew) (fun hHeld => ?_)
        refine wpAnyH_take (i := 0) (oi := ⟨some 92, _, _, _, _, _⟩) (v := ?veq0) rfl (by kernel_rfl) (by kernel_rfl) (by kernel_rfl) (fun _ _ _ h => h) (Or.inl ⟨by rfl, ?yeq0⟩) hHeld ?req0
        case yeq0 => (intro w' hSw; (try dsimp only at hSw); go_simp; try (with_reducible rfl))
        simp only [Act.put, List.setIfInBounds_toArray, List.set_cons_zero, List.set_cons_succ]
        refine wpAnyH_take (i := 1) (oi := ⟨some 93, _, _, _, _, _⟩) (v := ?veq1) rfl (by kernel_rfl) (by kernel_rfl) (by kernel_rfl) (fun _ _ _ h => h) (Or.inl ⟨by rfl, ?yeq1⟩) hHeld ?req1
        case yeq1 => (intro w' hSw; (try dsimp only at hSw); go_simp; try (with_reducible rfl))
        simp only [Act.put, List.setIfInBounds_toArray, List.set_cons_zero, List.set_cons_succ]
        refine wpAnyH_take (i := 2) (oi := ⟨some 94, _, _, _, _, _⟩) (v := ?veq2) rfl (by kernel_rfl) (by kernel_rfl) (by kernel_rfl) (fun _ _ _ h => h) (Or.inl ⟨by rfl, ?yeq2⟩) hHeld ?req2
        case yeq2 => (intro w' hSw; (try dsimp only at hSw); go_simp; try (with_reducible rfl))
        simp only [Act.put, List.setIfInBounds_toArray, List.set_cons_zero, List.set_cons_succ]
        refine wpAnyH_take (i := 3) (oi := ⟨some 95, _, _, _, _, _⟩) (v := ?veq3) rfl (by kernel_rfl) (by kernel_rfl) (by kernel_rfl) (fun _ _ _ h => h) (Or.inl ⟨by rfl, ?yeq3⟩) hHeld ?req3
        case yeq3 => (intro w' hSw; (try dsimp only at hSw); go_simp; try (with_reducible rfl))
        simp only [Act.put, List.setIfInBounds_toArray, List.set_cons_zero, List.set_cons_succ]
        refine wpAnyH_take (i := 4) (oi := ⟨some 96, _, _, _, _, _⟩) (v := ?veq4) rfl (by kernel_rfl) (by kernel_rfl) (by kernel_rfl) (fun _ _ _ h => h) (Or.inl ⟨by rfl, ?yeq4⟩) hHeld ?req4
        case yeq4 => (intro w' hSw; (try dsimp only at hSw); go_simp; try (with_reducible rfl))
        simp only [Act.put, List.setIfInBounds_toArray, List.set_cons_zero, List.set_cons_succ]
        refine wpAnyH_take (i := 5) (oi := ⟨some 97, _, _, _, _, _⟩) (v := ?veq5) rfl (by kernel_rfl) (by kernel_rfl) (by kernel_rfl) (fun _ _ _ h => h) (Or.inl ⟨by rfl, ?yeq5⟩) hHeld ?req5
        case yeq5 => (intro w' hSw; (try dsimp only at hSw); go_simp; try (with_reducible rfl))
        simp only [Act.put, List.setIfInBounds_toArray, List.set_cons_zero, List.set_cons_succ]
        refine wpAnyH_take (i := 6) (oi := ⟨some 98, _, _, _, _, _⟩) (v := ?veq6) rfl (by kernel_rfl) (by kernel_rfl) (by kernel_rfl) (fun _ _ _ h => h) (Or.inl ⟨by rfl, ?yeq6⟩) hHeld ?req6
        case yeq6 => (intro w' hSw; (try dsimp only at hSw); go_simp; try (with_reducible rfl))
        simp only [Act.put, List.setIfInBounds_toArray, List.set_cons_zero, List.set_cons_succ]
        refine wpAnyH_take (i := 7) (oi := ⟨some 99, _, _, _, _, _⟩) (v := ?veq7) rfl (by kernel_rfl) (by kernel_rfl) (by kernel_rfl) (fun _ _ _ h => h) (Or.inl ⟨by rfl, ?yeq7⟩) hHeld ?req7
        case yeq7 => (intro w' hSw; (try dsimp only at hSw); go_simp; try (with_reducible rfl))
        simp only [Act.put, List.setIfInBounds_toArray, List.set_cons_zero, List.set_cons_succ]
        refine wpAnyH_take (i := 8) (oi := ⟨some 100, _, _, _, _, _⟩) (v := ?veq8) rfl (by kernel_rfl) (by kernel_rfl) (by kernel_rfl) (fun _ _ _ h => h) (Or.inl ⟨by rfl, ?yeq8⟩) hHeld ?req8
        case yeq8 => (intro w' hSw; (try dsimp only at hSw); go_simp; try (with_reducible rfl))
        simp only [Act.put, List.setIfInBounds_toArray, List.set_cons_zero, List.set_cons_succ]
        refine wpAnyH_take (i := 9) (oi := ⟨some 101, _, _, _, _, _⟩) (v := ?veq9) rfl (by kernel_rfl) (by kernel_rfl) (by kernel_rfl) (fun _ _ _ h => h) (Or.inl ⟨by rfl, ?yeq9⟩) hHeld ?req9
        case yeq9 => (intro w' hSw; (try dsimp only at hSw); go_simp; try (with_reducible rfl))
        simp only [Act.put, List.setIfInBounds_toArray, List.set_cons_zero, List.set_cons_succ]
        refine wpAnyH_take (i := 10) (oi := ⟨some 102, _, _, _, _, _⟩) (v := ?veq10) rfl (by kernel_rfl) (by kernel_rfl) (by kernel_rfl) (fun _ _ _ h => h) (Or.inl ⟨by rfl, ?yeq10⟩) hHeld ?req10
        case yeq10 => (intro w' hSw; (try dsimp only at hSw); go_simp; try (with_reducible rfl))
        simp only [Act.put, List.setIfInBounds_toArray, List.set_cons_zero, List.set_cons_succ]
        refine wpAnyH_take (i := 11) (oi := ⟨some 103, _, _, _, _, _⟩) (v := ?veq11) rfl (by kernel_rfl) (by kernel_rfl) (by kernel_rfl) (fun _ _ _ h => h) (Or.inl ⟨by rfl, ?yeq11⟩) hHeld ?req11
        case yeq11 => (intro w' hSw; (try dsimp only at hSw); go_simp; try (with_reducible rfl))
        simp only [Act.put, List.setIfInBounds_toArray, List.set_cons_zero, List.set_cons_succ]
        refine wpAnyH_take (i := 12) (oi := ⟨some 104, _, _, _, _, _⟩) (v := ?veq12) rfl (by kernel_rfl) (by kernel_rfl) (by kernel_rfl) (fun _ _ _ h => h) (Or.inl ⟨by rfl, ?yeq12⟩) hHeld ?req12
        case yeq12 => (intro w' hSw; (try dsimp only at hSw); go_simp; try (with_reducible rfl))
        simp only [Act.put, List.setIfInBounds_toArray, List.set_cons_zero, List.set_cons_succ]
        refine wpAnyH_take (i := 13) (oi := ⟨some 105, _, _, _, _, _⟩) (v := ?veq13) rfl (by kernel_rfl) (by kernel_rfl) (by kernel_rfl) (fun _ _ _ h => h) (Or.inl ⟨by rfl, ?yeq13⟩) hHeld ?req13
        case yeq13 => (intro w' hSw; (try dsimp only at hSw); go_simp; try (with_reducible rfl))
        simp only [Act.put, List.setIfInBounds_toArray, List.set_cons_zero, List.set_cons_succ]
        refine wpAnyH_take (i := 14) (oi := ⟨some 106, _, _, _, _, _⟩) (v := ?veq14) rfl (by kernel_rfl) (by kernel_rfl) (by kernel_rfl) (fun _ _ _ h => h) (Or.inl ⟨by rfl, ?yeq14⟩) hHeld ?req14
        case yeq14 => (intro w' hSw; (try dsimp only at hSw); go_simp; try (with_reducible rfl))
        simp only [Act.put, List.setIfInBounds_toArray, List.set_cons_zero, List.set_cons_succ]
        refine wpAnyH_take (i := 15) (oi := ⟨some 107, _, _, _, _, _⟩) (v := ?veq15) rfl (by kernel_rfl) (by kernel_rfl) (by kernel_rfl) (fun _ _ _ h => h) (Or.inl ⟨by rfl, ?yeq15⟩) hHeld ?req15
        case yeq15 => (intro w' hSw; (try dsimp only at hSw); go_simp; try (with_reducible rfl))
        simp only [Act.put, List.setIfInBounds_toArray, List.set_cons_zero, List.set_cons_succ]
        refine wpAnyH_take (i := 16) (oi := ⟨some 108, _, _, _, _, _⟩) (v := ?veq16) rfl (by kernel_rfl) (by kernel_rfl) (by kernel_rfl) (fun _ _ _ h => h) (Or.inl ⟨by rfl, ?yeq16⟩) hHeld ?req16
        case yeq16 => (intro w' hSw; (try dsimp only at hSw); go_simp; try (with_reducible rfl))
        simp only [Act.put, List.setIfInBounds_toArray, List.set_cons_zero, List.set_cons_succ]
        refine wpAnyH_take (i := 17) (oi := ⟨some 109, _, _, _, _, _⟩) (v := ?veq17) rfl (by kernel_rfl) (by kernel_rfl) (by kernel_rfl) (fun _ _ _ h => h) (Or.inl ⟨by rfl, ?yeq17⟩) hHeld ?req17
        case yeq17 => (intro w' hSw; (try dsimp only at hSw); go_simp; try (with_reducible rfl))
        simp only [Act.put, List.setIfInBounds_toArray, List.set_cons_zero, List.set_cons_succ]
        refine wpAnyH_take (i := 18) (oi := ⟨some 110, _, _, _, _, _⟩) (v := ?veq18) rfl (by kernel_rfl) (by kernel_rfl) (by kernel_rfl) (fun _ _ _ h => h) (Or.inl ⟨by rfl, ?yeq18⟩) hHeld ?req18
        case yeq18 => (intro w' hSw; (try dsimp only at hSw); go_simp; try (with_reducible rfl))
        simp only [Act.put, List.setIfInBounds_toArray, List.set_cons_zero, List.set_cons_succ]
        refine wpAnyH_take (i := 19) (oi := ⟨some 6, _, _, _, _, _⟩) (v := ?veq19) rfl (by kernel_rfl) (by kernel_rfl) (by kernel_rfl) (fun _ _ _ h => h) (Or.inl ⟨by rfl, ?yeq19⟩) hHeld ?req19
        case yeq19 => (intro w' hSw; (try dsimp only at hSw); go_simp; try (with_reducible rfl))
        simp only [Act.put, List.setIfInBounds_toArray, List.set_cons_zero, List.set_cons_succ]
        refine wpAnyH_done (by kernel_rfl) ?_ _
        have hL := HB8.out.trans (hHeld.1.mono HB8.out.size)
        clear hHeld HKP
        go_wp2
        go_ret
        exact ⟨rfl, hL⟩
theorem tpr_c (A : Option Addr) (cap : Nat) (L : List Rl) (hh hl : BitVec 64) (wh : Int) (w : World) (hb1 : 0 ≤ wh) (hb2 : wh ≤ 255) (hn : L.length ≤ 4611686018427387904) (hc : L.length ≤ cap) (hv : Ru w (.slice A L.length cap) L) : Calls Try.prog 7 #[.slice A L.length cap, .agg #[.int .u64 (uv hh), .int .u64 (uv hl)], .int .u8 wh] w fun e w' => e = .returned (.bool true) ∧ Below w.heap.size w w' := by
  have hf : ∀ W, Below w.heap.size w W → Calls Try.prog 14 #[.slice A L.length cap] W fun e w' => e = .returned (.slice A (L.take 8).length cap) ∧ w' = W := fun W hb => few_c A cap L W hn hc (hv.on hb)
  have hm : (L.take 8).length ≤ 8 := by rw [List.length_take]; omega
  have hcp : (L.take 8).length ≤ cap := by rw [List.length_take]; omega
  cases hs : sndA (L.take 8) with
  | false => exact tpr_early A _ cap (L.take 8) hh hl wh w hm hf (hv.take 8) 2 (fun W h => (idle_bad _ (L.take 8) W (by omega) (by intro e; rw [e] at hs; cases hs) hs h).mono fun e w' h => ⟨none, 0, h.1, h.2⟩)
  | true =>
    cases hx : idlU (L.take 8) (L.take 8).length with
    | none => exact tpr_early A _ cap (L.take 8) hh hl wh w hm hf (hv.take 8) 10 (fun W h => (idle_any _ (L.take 8) W (by omega) hs h).mono fun e w' h => ⟨none, 0, (h.2 hx).1, (h.2 hx).2⟩)
    | some xs =>
      by_cases hne : xs = []
      · subst hne
        refine tpr_early A _ cap (L.take 8) hh hl wh w hm hf (hv.take 8) 0 (fun W h => (idle_any _ (L.take 8) W (by omega) hs h).mono fun e w' h => ?_)
        obtain ⟨v, e1, o, b⟩ := h.1 [] hx
        obtain ⟨A2, c2, rfl, _⟩ := own_form o
        exact ⟨A2, c2, e1, b⟩
      · exact tpr_go A _ cap (L.take 8) hh hl wh w hm hf (hv.take 8) hs hb1 hb2 hcp xs hx hne
end Go.Proofs
