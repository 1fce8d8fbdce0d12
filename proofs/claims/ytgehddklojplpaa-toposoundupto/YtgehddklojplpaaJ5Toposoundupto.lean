/-
  customhouselaw07.TopoSound returns true wherever the arguments are of bulk at most 1048576, and each argument reads behind the call as before. No conditions.
  The law TopoSound's walk, for a topology of at most 1048576 ports. Conditions as the theorem lists them.
-/
import Derived.Test.YtgehddklojplpaaJ4
import Derived.Deep.RegionHeld3
import Derived.Deep.DeepCutAuto
import Derived.Deep.Light
import Derived.Test.YtgehddklojplpaaRows
import Derived.Below
import Derived.JoinedCond
namespace Go.Proofs.Hd
open Go.RowKit
/-- v is a slice that reads as the spots E. -/
def Sp (w : World) (v : Value) (E : List Rc) : Prop := ∃ A cap, v = .slice A E.length cap ∧ (E ≠ [] → ∃ b, A = some ⟨b, 0, none⟩ ∧ ∀ (k : Nat) (x : Rc), E[k]? = some x → w.cell? ⟨b, k * 2, none⟩ = some (.int .i64 x.1) ∧ w.cell? ⟨b, k * 2 + 1, none⟩ = some (.int .i64 x.2))
theorem Sp.on {w w' : World} {v : Value} {E : List Rc} (h : Sp w v E) (hb : Below w.heap.size w w') : Sp w' v E := by
  obtain ⟨A, cap, e, h⟩ := h
  refine ⟨A, cap, e, fun hne => ?_⟩
  obtain ⟨b, e2, hc⟩ := h hne
  exact ⟨b, e2, fun k x hk => ⟨on_some hb (hc k x hk).1, on_some hb (hc k x hk).2⟩⟩
theorem Sp.of {w : World} {base : Nat} {v : Value} {E : List Rc} (h : w.ownsRow base 26 2 v E.length (flS E)) : Sp w v E := by
  rcases h.2 with ⟨rfl, h0⟩ | ⟨g, cap, cur, rfl, _⟩
  · exact ⟨none, 0, by rw [h0], fun hne => absurd (List.eq_nil_of_length_eq_zero h0) hne⟩
  · refine ⟨_, cap, rfl, fun _ => ⟨g, rfl, fun k x hk => ?_⟩⟩
    have hkl := (List.getElem?_eq_some_iff.1 hk).1
    exact ⟨(h.cellAt (k * 2) (by omega)).trans (flS_get hk).1, (h.cellAt (k * 2 + 1) (by omega)).trans (flS_get hk).2⟩
theorem othT_none {T : List (List Pt)} {n i : Int} (h : ptAt T n i = none) : othT T n i = none := by unfold othT; rw [h]
theorem othT_bad {T : List (List Pt)} {n i : Int} (h : sTp T ≠ 0) : othT T n i = none := by
  unfold othT
  cases ptAt T n i with
  | none => rfl
  | some p => simp only; rw [if_neg (fun k => h k.2)]
end Go.Proofs.Hd
namespace Go.Proofs
open Go.RowKit Go.Proofs.Hd Go.Lib
attribute [local go_sem high] run_eqS
set_option maxRecDepth 100000 in
set_option maxHeartbeats 4000000 in
theorem tsndl_c (tv : Value) (T : List (List Pt)) (n i : Int) (w : World) (hT : PsT w tv T) (hP : ports T ≤ 2000000) : Calls Try.prog 3 #[.agg #[tv], .agg #[.int .i64 n, .int .i64 i]] w fun e w' => e = .returned (.bool true) ∧ Below w.heap.size w w' := by
  have HT := Lib.hid hT
  obtain ⟨A, cap, rfl, htm, hA⟩ := hT
  have HA := Lib.hid hA
  have hEl : (eTo T T.length).length ≤ 2000000 := Nat.le_trans (eTo_len T T.length (Nat.le_refl _)) (Nat.le_trans (take_le T _) hP)
  have B0 : Below w.heap.size w ((w.alloc (.cells #[.slice A T.length cap] 24)).alloc (.cells #[.int .i64 n, .int .i64 i] 26)) := below2 w _ _
  have N0 : Hid (Blk ((w.alloc (.cells #[.slice A T.length cap] 24)).alloc (.cells #[.int .i64 n, .int .i64 i] 26)) w.heap.size 24 #[.slice A T.length cap]) := (Blk.new w _ _).on (below1 _ _)
  have M0 : Hid (Blk ((w.alloc (.cells #[.slice A T.length cap] 24)).alloc (.cells #[.int .i64 n, .int .i64 i] 26)) (w.heap.size + 1) 26 #[.int .i64 n, .int .i64 i]) := Blk.new2 w _ _ _
  clear hA
  go_enter Try.func3, Try.ntmps3
  go_wp2_with fail
  (with_reducible refine (rtsound_c _ T _ (HT.out.on B0)).mono ?_)
  rintro e w2 ⟨rfl, hb2⟩
  have HB2 := Lib.hid (B0.trans (hb2.mono B0.size))
  have N2 := Lib.hid (N0.out.on hb2)
  have M2 := Lib.hid (M0.out.on hb2)
  have HT2 := Lib.hid (HT.out.on HB2.out)
  clear hb2 B0 N0 M0
  obtain ⟨q, hq⟩ : ∃ q, sTp T = q := ⟨_, rfl⟩
  rw [hq]
  have HQ := Lib.hid hq
  clear hq
  obtain ⟨EE, hEE⟩ : ∃ EE, Hid (eTo T T.length = EE) := ⟨_, rfl⟩
  rw [hEE.out] at hEl
  go_upto_region 2 with (fail)
  go_cut [6, 7] (fun i o wc => Sp wc i EE ∧ Sp wc o EE ∧ Below w2.heap.size w2 wc)
  case first =>
    have KP : ∀ W, Below w2.heap.size w2 W → (Below w2.heap.size w2 W ∧ W.cell? ⟨w.heap.size, 0, none⟩ = some (.slice A T.length cap)) := fun W hb => ⟨hb, (N2.out.on hb).one⟩
    have HKP := Lib.hid KP
    clear KP
    refine wp_region_held_drew (S := fun w' => Below w2.heap.size w2 w' ∧ w'.cell? ⟨w.heap.size, 0, none⟩ = some (.slice A T.length cap)) (by kernel_rfl) (HKP.out _ (Below.refl _ w2).drew) (fun hHeld => ?_)
    generalize w2.drew = u0 at hHeld ⊢
    refine wpAnyH_take (i := 0) (oi := ⟨some 15, _, _, _, _, _⟩) (v := ?vs1) rfl (by kernel_rfl) (by kernel_rfl) (by kernel_rfl) (fun _ _ _ h => h) (Or.inl ⟨by rfl, ?ys1⟩) hHeld ?rs1
    case ys1 => (intro w' hSw; (try dsimp only at hSw); go_simp; try (with_reducible rfl))
    simp only [Act.put, List.setIfInBounds_toArray, List.set_cons_zero, List.set_cons_succ]
    refine wpAnyH_take (i := 2) (oi := ⟨some 17, _, _, _, _, _⟩) (v := ?vs2) rfl (by kernel_rfl) (by kernel_rfl) (by kernel_rfl) (fun _ _ _ h => h) (Or.inl ⟨by rfl, ?ys2⟩) hHeld ?rs2
    case ys2 => (intro w' hSw; (try dsimp only at hSw); go_simp; try (with_reducible rfl))
    simp only [Act.put, List.setIfInBounds_toArray, List.set_cons_zero, List.set_cons_succ]
    refine wpAnyH_ready (rs := [1]) (by kernel_rfl) (by simp) ?_
    refine AllReadyH.cons (o := ⟨some 16, _, _, _, _, _⟩) rfl (fun K hK => ?_) AllReadyH.nil
    go_simp
    (with_reducible refine (edges_c _ T u0 (HT2.out.on hHeld.1) hP).mono ?_)
    rintro e u1 ⟨v1, rfl, O1, b1⟩
    (try dsimp only)
    rw [hEE.out] at O1
    have Q1 := Sp.of O1
    refine hK.out _ _ (HKP.out _ (hHeld.1.trans (b1.mono hHeld.1.size))) (fun hNext => ?_)
    clear hK K hHeld
    have hHeld := hNext
    clear hNext O1 b1
    try simp only [Act.put, List.setIfInBounds_toArray, List.set_cons_zero, List.set_cons_succ]
    refine wpAnyH_ready (rs := [3]) (by kernel_rfl) (by simp) ?_
    refine AllReadyH.cons (o := ⟨some 18, _, _, _, _, _⟩) rfl (fun K hK => ?_) AllReadyH.nil
    go_simp
    (with_reducible refine (redges_c _ T u1 (HT2.out.on hHeld.1) hP).mono ?_)
    rintro e u3 ⟨v3, rfl, O3, b3⟩
    (try dsimp only)
    rw [hEE.out] at O3
    have Q3 := Sp.of O3
    refine hK.out _ _ (HKP.out _ (hHeld.1.trans (b3.mono hHeld.1.size))) (fun hNext => ?_)
    replace Q1 := Q1.on b3
    clear hK K hHeld
    have hHeld := hNext
    clear hNext O3 b3
    try simp only [Act.put, List.setIfInBounds_toArray, List.set_cons_zero, List.set_cons_succ]
    refine wpAnyH_take (i := 4) (oi := ⟨some 6, _, _, _, _, _⟩) (v := ?vs3) rfl (by kernel_rfl) (by kernel_rfl) (by kernel_rfl) (fun _ _ _ h => h) (Or.inl ⟨by rfl, ?ys3⟩) hHeld ?rs3
    case ys3 => (intro w' hSw; (try dsimp only at hSw); go_simp; try (with_reducible rfl))
    simp only [Act.put, List.setIfInBounds_toArray, List.set_cons_zero, List.set_cons_succ]
    refine wpAnyH_take (i := 5) (oi := ⟨some 7, _, _, _, _, _⟩) (v := ?vs4) rfl (by kernel_rfl) (by kernel_rfl) (by kernel_rfl) (fun _ _ _ h => h) (Or.inl ⟨by rfl, ?ys4⟩) hHeld ?rs4
    case ys4 => (intro w' hSw; (try dsimp only at hSw); go_simp; try (with_reducible rfl))
    simp only [Act.put, List.setIfInBounds_toArray, List.set_cons_zero, List.set_cons_succ]
    refine wpAnyH_done (by kernel_rfl) ?_ _
    go_wp2_with fail
    go_meet
    exact ⟨Q1, Q3, hHeld.1⟩
  case rest =>
    obtain ⟨S1, S2, B3⟩ := hcut
    obtain ⟨A1, c1, rfl, k1⟩ := S1
    obtain ⟨A2, c2, rfl, k2⟩ := S2
    have HB3 := Lib.hid (HB2.out.trans (B3.mono HB2.out.size))
    have N3 := Lib.hid (N2.out.on B3)
    have M3 := Lib.hid (M2.out.on B3)
    have d3 := N3.out.one
    have HK1 := Lib.hid k1
    have HK2 := Lib.hid k2
    clear B3 HB2 N2 M2 HT2 k1 k2
    have hcon := tpsound_c _ T wc (HT.out.on HB3.out)
    rw [HQ.out] at hcon
    have hqq : (q != q) = false := by simp
    have hEz : (EE.length : Int) ≤ 2000000 := by omega
    go_wp2_with fail
    (with_reducible refine hcon.mono ?_)
    rintro e w4 ⟨rfl, hb4⟩
    have HB4 := Lib.hid (HB3.out.trans (hb4.mono HB3.out.size))
    have N4 := Lib.hid (N3.out.on hb4)
    have M4 := Lib.hid (M3.out.on hb4)
    have HC4 := Lib.hid hb4
    clear hcon hb4 HB3 N3 M3 d3
    go_wp2
    go_loopg [8] EE.length (fun gk s8 wr => ∃ k : Nat, k ≤ EE.length ∧ gk = EE.length - k ∧ s8 = .int .i64 k ∧ Hid (Below w4.heap.size w4 wr))
    case atStart => exact ⟨0, Nat.zero_le _, rfl, rfl, Below.refl _ _⟩
    case round =>
      obtain ⟨k, hk, rfl, rfl, HW⟩ := hrel
      by_cases hlt : k < EE.length
      · have hltz : (k : Int) < (EE.length : Int) := by omega
        obtain ⟨x, hx⟩ : ∃ x, EE[k]? = some x := ⟨_, List.getElem?_eq_getElem hlt⟩
        obtain ⟨g1, rfl, hg1⟩ := HK1.out (by rintro rfl; simp at hlt)
        obtain ⟨g2, rfl, hg2⟩ := HK2.out (by rintro rfl; simp at hlt)
        have y0 := on_some HW.out (on_some HC4.out (hg1 k x hx).1)
        have y1 := on_some HW.out (on_some HC4.out (hg1 k x hx).2)
        have z0 := on_some HW.out (on_some HC4.out (hg2 k x hx).1)
        have z1 := on_some HW.out (on_some HC4.out (hg2 k x hx).2)
        obtain ⟨xa, xb⟩ := x
        simp only at y0 y1 z0 z1
        have hxx : ((xa : Int) == (xa : Int) && (xb : Int) == (xb : Int)) = true := by simp
        clear hg1 hg2 hx
        go_wp2_with fail
        go_quiet (fail)
        have HW2 := Lib.hid (bldrewN HW.out nq)
        clear y0 y1 z0 z1 HW
        generalize wr.drewN nq = w5 at HW2 ⊢
        go_wp2
        go_roundg (EE.length - (k + 1))
        case measure => omega
        case rel => exact ⟨k + 1, by omega, rfl, by go_num, HW2⟩
      · have hltz : ¬ (k : Int) < (EE.length : Int) := by omega
        have HB5 := Lib.hid (HB4.out.trans (HW.out.mono HB4.out.size))
        have N5 := Lib.hid (N4.out.on HW.out)
        have M5 := Lib.hid (M4.out.on HW.out)
        have d5 := N5.out.one
        obtain ⟨s5, s6⟩ := M5.out.two
        clear HW HB4 N4 M4 HC4 HK1 HK2
        go_wp2_with fail
        (with_reducible refine (other_c _ T n i _ (HT.out.on HB5.out)).mono ?_)
        rintro e w6 ⟨h6, hb6⟩
        have HB6 := Lib.hid (HB5.out.trans (hb6.mono HB5.out.size))
        have N6 := Lib.hid (N5.out.on hb6)
        have M6 := Lib.hid (M5.out.on hb6)
        clear hb6 HB5 N5 M5 d5 s5 s6
        by_cases a0 : q = 0
        · subst a0
          by_cases a1 : 0 ≤ n
          · by_cases a2 : n < (T.length : Int)
            · obtain ⟨n', rfl⟩ : ∃ n' : Nat, n = (n' : Int) := ⟨n.toNat, by omega⟩
              have hn : n' < T.length := by omega
              obtain ⟨L, hL⟩ : ∃ L, T[n']? = some L := ⟨_, List.getElem?_eq_getElem hn⟩
              obtain ⟨tb, tof, rfl, _, hcc⟩ := HA.out (by rintro rfl; simp at hn)
              obtain ⟨s, hs, A3, c3, rfl, hLm, hA3⟩ := hcc n' L hL
              have HCS := Lib.hid hs
              clear hs hcc
              by_cases a3 : 0 ≤ i
              · by_cases a4 : i < (L.length : Int)
                · obtain ⟨i', rfl⟩ : ∃ i' : Nat, i = (i' : Int) := ⟨i.toNat, by omega⟩
                  have hi : i' < L.length := by omega
                  obtain ⟨p, hp⟩ : ∃ p, L[i']? = some p := ⟨_, List.getElem?_eq_getElem hi⟩
                  obtain ⟨b3, o3, rfl, _, hpc⟩ := hA3 (by rintro rfl; simp at hp)
                  have hpt := ptAt_nat hL hp
                  have HAP := Lib.hid (hpc i' p hp)
                  clear hpc
                  obtain ⟨kd, tn, pr, sp, co⟩ := p
                  by_cases a5 : kd = 2
                  · subst a5
                    have HO : othT T n' i' = some (pr, sp) := by unfold othT; rw [hpt]; simp only; rw [if_pos (by simp [HQ.out])]
                    rw [HO] at h6
                    simp only at h6
                    subst h6
                    have hb7 := below1 w6 (.cells #[.int .i64 pr, .int .i64 sp] 26)
                    have HB7 := Lib.hid (HB6.out.trans (hb7.mono HB6.out.size))
                    have N7 := Lib.hid (N6.out.on hb7)
                    have M7 := Lib.hid (M6.out.on hb7)
                    have t7 := N7.out.one
                    obtain ⟨s7, s8⟩ := M7.out.two
                    have NS : Hid (Blk (w6.alloc (.cells #[.int .i64 pr, .int .i64 sp] 26)) w6.heap.size 26 #[.int .i64 pr, .int .i64 sp]) := Blk.new w6 _ _
                    have cs7 := on_some HB7.out HCS.out
                    obtain ⟨u0, u1, u2, u3, u4⟩ := HAP.out.on HB7.out
                    clear hb7 HB6 N6 M6
                    go_wp2_with fail
                    go_quiet (fail)
                    have HB8 := Lib.hid (bldrewN HB7.out nq)
                    have NS8 := Lib.hid (NS.out.drewN nq)
                    have N8 := Lib.hid (N7.out.drewN nq)
                    have M8 := Lib.hid (M7.out.drewN nq)
                    clear t7 s7 s8 HB7 NS N7 M7 cs7 u0 u1 u2 u3 u4
                    generalize (w6.alloc (.cells #[.int .i64 pr, .int .i64 sp] 26)).drewN nq = w8 at HB8 NS8 N8 M8 ⊢
                    clear nq
                    generalize w6.heap.size = sb at NS8 ⊢
                    have t8 := N8.out.one
                    obtain ⟨x8, x9⟩ := M8.out.two
                    have cs8 := on_some HB8.out HCS.out
                    obtain ⟨u0, u1, u2, u3, u4⟩ := HAP.out.on HB8.out
                    have hbz := below1 w8 (.cells #[.int .i64 0, .int .i64 0, .int .i64 0, .int .i64 0, .int .i64 0] 35)
                    have t9 := on_some hbz t8
                    have x10 := on_some hbz x8
                    have x11 := on_some hbz x9
                    have cs9 := on_some hbz cs8
                    obtain ⟨v0, v1, v2, v3, v4⟩ := (HAP.out.on HB8.out).on hbz
                    have Z0 : Blk (w8.alloc (.cells #[.int .i64 0, .int .i64 0, .int .i64 0, .int .i64 0, .int .i64 0] 35)) w8.heap.size 35 #[.int .i64 0, .int .i64 0, .int .i64 0, .int .i64 0, .int .i64 0] := Blk.new w8 _ _
                    have f0 := Z0.free 0
                    have f1 := Z0.free 1
                    have f2 := Z0.free 2
                    have f3 := Z0.free 3
                    have f4 := Z0.free 4
                    obtain ⟨zz0, zz1, zz2, zz3, zz4⟩ := Z0.five
                    have B9 := (below1 w8 (.cells #[.int .i64 2, .int .i64 tn, .int .i64 pr, .int .i64 sp, .int .i64 co] 35)).drew
                    have HK : Hid (Blk (w8.alloc (.cells #[.int .i64 2, .int .i64 tn, .int .i64 pr, .int .i64 sp, .int .i64 co] 35)).drew w8.heap.size 35 #[.int .i64 2, .int .i64 tn, .int .i64 pr, .int .i64 sp, .int .i64 co]) := (Blk.new w8 _ _).drew1
                    have HB9 := Lib.hid (HB8.out.trans (B9.mono HB8.out.size))
                    have NS9 := Lib.hid (NS8.out.on B9)
                    clear hbz Z0 B9 HB8 NS8 N8 M8
                    have mixed : Try.prog.follows Departure.mixedOrders = true := by kernel_rfl
                    go_wp2_with fail
                    go_big_region_o
                    clear f0 f1 f2 f3 f4 zz0 zz1 zz2 zz3 zz4 v0 v1 v2 v3 v4 u0 u1 u2 u3 u4 t8 x8 x9 cs8 t9 x10 x11 cs9
                    generalize (w8.alloc (.cells #[.int .i64 2, .int .i64 tn, .int .i64 pr, .int .i64 sp, .int .i64 co] 35)).drew = w9 at HK HB9 NS9 ⊢
                    generalize w8.heap.size = pb at HK ⊢
                    go_wp2_with fail
                    (with_reducible refine (awake7_c _).mono ?_)
                    rintro e w10 ⟨rfl, hb10⟩
                    obtain ⟨r0, r1⟩ := (NS9.out.on hb10).two
                    obtain ⟨q0, q1, q2, q3, q4⟩ := (HK.out.on hb10).five
                    have HB10 := Lib.hid (HB9.out.trans (hb10.mono HB9.out.size))
                    have hpp : (pr == pr && sp == sp) = true := by simp
                    clear hb10 HB9 NS9 HK
                    go_wp2
                    go_ret
                    exact ⟨rfl, HB10.out⟩
                  · have a5b : (kd == 2) = false := beq_false_of_ne a5
                    have HO : othT T n' i' = none := by unfold othT; rw [hpt]; simp only; rw [if_neg (fun h => a5 h.1)]
                    rw [HO] at h6
                    simp only at h6
                    subst h6
                    have hb7 := below1 w6 (.cells #[.int .i64 0, .int .i64 0] 26)
                    have HB7 := Lib.hid (HB6.out.trans (hb7.mono HB6.out.size))
                    have t7 := (N6.out.on hb7).one
                    obtain ⟨s7, s8⟩ := (M6.out.on hb7).two
                    have NS : Hid (Blk (w6.alloc (.cells #[.int .i64 0, .int .i64 0] 26)) w6.heap.size 26 #[.int .i64 0, .int .i64 0]) := Blk.new w6 _ _
                    have cs7 := on_some HB7.out HCS.out
                    obtain ⟨u0, u1, u2, u3, u4⟩ := HAP.out.on HB7.out
                    clear hb7 HB6 N6 M6
                    go_wp2_with fail
                    go_quiet (fail)
                    have HB8 := Lib.hid (bldrewN HB7.out nq)
                    have NS8 := Lib.hid (NS.out.drewN nq)
                    clear t7 s7 s8 HB7 NS
                    generalize (w6.alloc (.cells #[.int .i64 0, .int .i64 0] 26)).drewN nq = w8 at HB8 NS8 ⊢
                    clear nq
                    generalize w6.heap.size = sb at NS8 ⊢
                    go_wp2_with fail
                    (with_reducible refine (awake7_c _).mono ?_)
                    rintro e w9 ⟨rfl, hb9⟩
                    obtain ⟨y0, y1⟩ := (NS8.out.on hb9).two
                    have HB9 := Lib.hid (HB8.out.trans (hb9.mono HB8.out.size))
                    clear hb9 HB8 NS8
                    go_wp2
                    go_ret
                    exact ⟨rfl, HB9.out⟩
                · have a4b : decide (i < (L.length : Int)) = false := decide_eq_false a4
                  have HO : othT T n' i = none := othT_none (ptAt_far2 hL (by simp [inB]; omega))
                  rw [HO] at h6
                  simp only at h6
                  subst h6
                  have hb7 := below1 w6 (.cells #[.int .i64 0, .int .i64 0] 26)
                  have HB7 := Lib.hid (HB6.out.trans (hb7.mono HB6.out.size))
                  have t7 := (N6.out.on hb7).one
                  obtain ⟨s7, s8⟩ := (M6.out.on hb7).two
                  have NS : Hid (Blk (w6.alloc (.cells #[.int .i64 0, .int .i64 0] 26)) w6.heap.size 26 #[.int .i64 0, .int .i64 0]) := Blk.new w6 _ _
                  have cs7 := on_some HB7.out HCS.out
                  clear hb7 HB6 N6 M6
                  go_wp2_with fail
                  go_quiet (fail)
                  have HB8 := Lib.hid (bldrewN HB7.out nq)
                  have NS8 := Lib.hid (NS.out.drewN nq)
                  clear t7 s7 s8 HB7 NS
                  generalize (w6.alloc (.cells #[.int .i64 0, .int .i64 0] 26)).drewN nq = w8 at HB8 NS8 ⊢
                  clear nq
                  generalize w6.heap.size = sb at NS8 ⊢
                  go_wp2_with fail
                  (with_reducible refine (awake7_c _).mono ?_)
                  rintro e w9 ⟨rfl, hb9⟩
                  obtain ⟨y0, y1⟩ := (NS8.out.on hb9).two
                  have HB9 := Lib.hid (HB8.out.trans (hb9.mono HB8.out.size))
                  clear hb9 HB8 NS8
                  go_wp2
                  go_ret
                  exact ⟨rfl, HB9.out⟩
              · have a3b : decide (0 ≤ i) = false := decide_eq_false a3
                have HO : othT T n' i = none := othT_none (ptAt_far2 hL (by simp [inB]; omega))
                rw [HO] at h6
                simp only at h6
                subst h6
                have hb7 := below1 w6 (.cells #[.int .i64 0, .int .i64 0] 26)
                have HB7 := Lib.hid (HB6.out.trans (hb7.mono HB6.out.size))
                have t7 := (N6.out.on hb7).one
                obtain ⟨s7, s8⟩ := (M6.out.on hb7).two
                have NS : Hid (Blk (w6.alloc (.cells #[.int .i64 0, .int .i64 0] 26)) w6.heap.size 26 #[.int .i64 0, .int .i64 0]) := Blk.new w6 _ _
                clear hb7 HB6 N6 M6
                go_wp2_with fail
                go_quiet (fail)
                have HB8 := Lib.hid (bldrewN HB7.out nq)
                have NS8 := Lib.hid (NS.out.drewN nq)
                clear t7 s7 s8 HB7 NS
                generalize (w6.alloc (.cells #[.int .i64 0, .int .i64 0] 26)).drewN nq = w8 at HB8 NS8 ⊢
                clear nq
                generalize w6.heap.size = sb at NS8 ⊢
                go_wp2_with fail
                (with_reducible refine (awake7_c _).mono ?_)
                rintro e w9 ⟨rfl, hb9⟩
                obtain ⟨y0, y1⟩ := (NS8.out.on hb9).two
                have HB9 := Lib.hid (HB8.out.trans (hb9.mono HB8.out.size))
                clear hb9 HB8 NS8
                go_wp2
                go_ret
                exact ⟨rfl, HB9.out⟩
            · have a2b : decide (n < (T.length : Int)) = false := decide_eq_false a2
              have HO : othT T n i = none := othT_none (ptAt_far1 (by simp [inB]; omega))
              rw [HO] at h6
              simp only at h6
              subst h6
              have hb7 := below1 w6 (.cells #[.int .i64 0, .int .i64 0] 26)
              have HB7 := Lib.hid (HB6.out.trans (hb7.mono HB6.out.size))
              have t7 := (N6.out.on hb7).one
              obtain ⟨s7, s8⟩ := (M6.out.on hb7).two
              have NS : Hid (Blk (w6.alloc (.cells #[.int .i64 0, .int .i64 0] 26)) w6.heap.size 26 #[.int .i64 0, .int .i64 0]) := Blk.new w6 _ _
              clear hb7 HB6 N6 M6
              go_wp2_with fail
              go_quiet (fail)
              have HB8 := Lib.hid (bldrewN HB7.out nq)
              have NS8 := Lib.hid (NS.out.drewN nq)
              clear t7 s7 s8 HB7 NS
              generalize (w6.alloc (.cells #[.int .i64 0, .int .i64 0] 26)).drewN nq = w8 at HB8 NS8 ⊢
              clear nq
              generalize w6.heap.size = sb at NS8 ⊢
              go_wp2_with fail
              (with_reducible refine (awake7_c _).mono ?_)
              rintro e w9 ⟨rfl, hb9⟩
              obtain ⟨y0, y1⟩ := (NS8.out.on hb9).two
              have HB9 := Lib.hid (HB8.out.trans (hb9.mono HB8.out.size))
              clear hb9 HB8 NS8
              go_wp2
              go_ret
              exact ⟨rfl, HB9.out⟩
          · have a1b : decide (0 ≤ n) = false := decide_eq_false a1
            have HO : othT T n i = none := othT_none (ptAt_far1 (by simp [inB]; omega))
            rw [HO] at h6
            simp only at h6
            subst h6
            have hb7 := below1 w6 (.cells #[.int .i64 0, .int .i64 0] 26)
            have HB7 := Lib.hid (HB6.out.trans (hb7.mono HB6.out.size))
            have t7 := (N6.out.on hb7).one
            obtain ⟨s7, s8⟩ := (M6.out.on hb7).two
            have NS : Hid (Blk (w6.alloc (.cells #[.int .i64 0, .int .i64 0] 26)) w6.heap.size 26 #[.int .i64 0, .int .i64 0]) := Blk.new w6 _ _
            clear hb7 HB6 N6 M6
            go_wp2_with fail
            go_quiet (fail)
            have HB8 := Lib.hid (bldrewN HB7.out nq)
            have NS8 := Lib.hid (NS.out.drewN nq)
            clear t7 s7 s8 HB7 NS
            generalize (w6.alloc (.cells #[.int .i64 0, .int .i64 0] 26)).drewN nq = w8 at HB8 NS8 ⊢
            clear nq
            generalize w6.heap.size = sb at NS8 ⊢
            go_wp2_with fail
            (with_reducible refine (awake7_c _).mono ?_)
            rintro e w9 ⟨rfl, hb9⟩
            obtain ⟨y0, y1⟩ := (NS8.out.on hb9).two
            have HB9 := Lib.hid (HB8.out.trans (hb9.mono HB8.out.size))
            clear hb9 HB8 NS8
            go_wp2
            go_ret
            exact ⟨rfl, HB9.out⟩
        · have a0b : (q == 0) = false := beq_false_of_ne a0
          have HO : othT T n i = none := othT_bad (by rw [HQ.out]; exact a0)
          rw [HO] at h6
          simp only at h6
          subst h6
          have hb7 := below1 w6 (.cells #[.int .i64 0, .int .i64 0] 26)
          have HB7 := Lib.hid (HB6.out.trans (hb7.mono HB6.out.size))
          have t7 := (N6.out.on hb7).one
          obtain ⟨s7, s8⟩ := (M6.out.on hb7).two
          have NS : Hid (Blk (w6.alloc (.cells #[.int .i64 0, .int .i64 0] 26)) w6.heap.size 26 #[.int .i64 0, .int .i64 0]) := Blk.new w6 _ _
          clear hb7 HB6 N6 M6
          go_wp2_with fail
          go_quiet (fail)
          have HB8 := Lib.hid (bldrewN HB7.out nq)
          have NS8 := Lib.hid (NS.out.drewN nq)
          clear t7 s7 s8 HB7 NS
          generalize (w6.alloc (.cells #[.int .i64 0, .int .i64 0] 26)).drewN nq = w8 at HB8 NS8 ⊢
          clear nq
          generalize w6.heap.size = sb at NS8 ⊢
          go_wp2_with fail
          (with_reducible refine (awake7_c _).mono ?_)
          rintro e w9 ⟨rfl, hb9⟩
          obtain ⟨y0, y1⟩ := (NS8.out.on hb9).two
          have HB9 := Lib.hid (HB8.out.trans (hb9.mono HB8.out.size))
          clear hb9 HB8 NS8
          go_wp2
          go_ret
          exact ⟨rfl, HB9.out⟩
end Go.Proofs

namespace Go.Proofs.Ytgehddklojplpaa
open Go.ChangeShapes Go.WideShapes Go.ChangeAt Go.RowKit Go.Joins Go.Proofs.Hd

theorem laidOut_tsnd : laidOutB Try.prog = true := by kernel_rfl
theorem bulk_len {H : Type} : ∀ l : List (DataW H), l.length ≤ Rows.uptoBulkAll l
  | [] => Nat.zero_le _
  | d :: l => by
    have h := bulk_len l
    have h1 : 1 ≤ Rows.uptoBulk d := by
      cases d with
      | lit l => cases l <;> simp [Rows.uptoBulk]
      | _ => simp [Rows.uptoBulk]
    rw [List.length_cons, Rows.uptoBulkAll]
    omega
theorem bulk_mem {H : Type} {d : DataW H} : ∀ {l : List (DataW H)}, d ∈ l → Rows.uptoBulk d ≤ Rows.uptoBulkAll l
  | e :: l, h => by
    rw [Rows.uptoBulkAll]
    rcases List.mem_cons.1 h with rfl | h
    · omega
    · have := bulk_mem h; omega
theorem bulk_wide {H : Type} {d : DataW H} {n : Nat} (h : wide d n) : n ≤ Rows.uptoBulk d := by
  rcases h with h | ⟨el, sp, rfl, rfl⟩
  · omega
  · have := bulk_len el
    rw [Rows.uptoBulk]
    omega
theorem bulk_rows {H : Type} : ∀ (T : List (List Pt)) (el : List (DataW H)), el.length = T.length → (∀ (k : Nat) (L : List Pt), T[k]? = some L → ∃ e, el[k]? = some e ∧ wide e L.length) → ports T ≤ Rows.uptoBulkAll el
  | [], _, _, _ => Nat.zero_le _
  | L :: T, [], h, _ => by simp at h
  | L :: T, e :: el, h, hw => by
    have h1 := bulk_rows T el (by simpa using h) (fun k L' hk => by simpa using hw (k + 1) L' (by simpa using hk))
    obtain ⟨e', he, hwe⟩ := hw 0 L rfl
    have e1 : e = e' := by simpa using he
    subst e1
    have h2 := bulk_wide hwe
    rw [Rows.uptoBulkAll]
    have h3 : ports (L :: T) = L.length + ports T := by simp [ports]
    omega
theorem bulk_ports {H : Type} {l : List (DataW H)} {d : DataW H} {T : List (List Pt)} (hk : Rows.uptoSmall H l = true) (hd : ∃ dp : DataW H, d = .agg [dp] ∧ (T = [] ∨ ∃ el sp, dp = .slice el sp ∧ el.length = T.length ∧ ∀ (k : Nat) (L : List Pt), T[k]? = some L → ∃ e, el[k]? = some e ∧ wide e L.length)) (hm : d ∈ l) : ports T ≤ 2000000 := by
  have hb : Rows.uptoBulkAll l ≤ 1048576 := of_decide_eq_true hk
  have h1 := bulk_mem hm
  obtain ⟨dp, rfl, rfl | ⟨el, sp, rfl, hl, hw⟩⟩ := hd
  · exact Nat.zero_le _
  · have h2 := bulk_rows T el hl hw
    simp only [Rows.uptoBulk, Rows.uptoBulkAll] at h1
    omega
set_option maxRecDepth 100000 in
theorem tsnd_contract (H : Type) (enc : TypeId × Value → H) (W : World) (base : Nat) (args : Array Value) (ds gs : List (DataW H)) (before : List MemPlace)
    (hval0 : ∀ (j : Nat) t v, Try.f3.params[j]? = some t → args[j]? = some v → Value.okWide Try.prog W .any base t v)
    (hW : DataW.Whole enc Try.prog Try.f3.params.toList Rows.topoSoundSpec.vars false W args.toList ds gs before) (hk : Rows.uptoSmall H (ds ++ gs) = true) :
    Calls Try.prog 3 args W fun e W' => ∃ v, e = .returned v ∧ Rows.topoSoundSpec.post enc Try.prog Try.f3 false true false false W args v W' := by
  have hval : ∀ (j : Nat) t v, Try.f3.params[j]? = some t → args[j]? = some v → Value.okWide Try.prog W .any base t v := hval0
  have hW' := hW
  obtain ⟨p, q, hA0, hV, rfl, hfz, hnd⟩ := hW
  have hA : DataW.TrodAll enc Try.prog W 0 (fun _ => true) true Try.f3.params.toList args.toList ds p := hA0
  rw [Try.params3] at hA hval
  obtain ⟨v0, vs0, d0, ds0, p0, q0, hargs, rfl, rfl, h0, r0⟩ := trodAll_cons hA
  obtain ⟨v1, vs1, d1, ds1, p1, q1, rfl, rfl, rfl, h1, r1⟩ := trodAll_cons r0
  obtain ⟨rfl, rfl, rfl⟩ := trodAll_nil r1
  obtain rfl : args = #[v0, v1] := by cases args; simp_all
  obtain ⟨rfl, rfl⟩ := trodVars_none hV
  have k0 := h0
  have lt0 : ∀ x ∈ p0, x.block < W.heap.size := by obtain ⟨m, hm⟩ := k0; exact DataW.trod_lt m _ _ _ hm
  obtain ⟨tV, tT, rfl, pt, dt⟩ := open_topo (hval 0 24 v0 rfl rfl) h0
  have k1 := h1
  have lt1 : ∀ x ∈ p1, x.block < W.heap.size := by obtain ⟨m, hm⟩ := k1; exact DataW.trod_lt m _ _ _ hm
  obtain ⟨sa, sb, rfl⟩ := open_spot (hval 1 26 v1 rfl rfl) h1
  clear hA0 hval0
  refine (tsndl_c tV tT sa sb W pt (bulk_ports hk dt (by simp))).mono fun e W' ⟨he, hg⟩ => ?_
  subst he
  exact ⟨_, rfl, _, _, _, [], _, [], hW', trodAll_mk1 (shut_bool Try.underlying4 _), (trodAll_cons_mk (Below.trod laidOut_tsnd (by kernel_rfl) (of_decide_eq_true (by kernel_rfl)) k0 hg lt0) (trodAll_cons_mk (Below.trod laidOut_tsnd (by kernel_rfl) (of_decide_eq_true (by kernel_rfl)) k1 hg lt1) trodAll_mk0)), rfl, hg.frame _, (fun h => by cases h)⟩

set_option maxRecDepth 100000 in
theorem tsnd_lifted (os : Os) (started : os.Started) (H : Type) (enc : TypeId × Value → H) (F : Stop.Interp) :
    ReturnsInHanded {} Try.checked os 3 .any ((Rows.OpenSpec.upto Rows.topoSoundSpec).pre6 enc Try.prog Try.f3 Rows.topoSoundUptoRow.domain false) (((Rows.OpenSpec.upto Rows.topoSoundSpec).at F).post enc Try.prog Try.f3 false true false false) := by
  refine returnsInHanded_of_cond (C := Try.checked) (s := Rows.OpenSpec.upto Rows.topoSoundSpec) (k := Rows.uptoSmall) rfl own started (by kernel_rfl) Try.func3
    (OpenSpec.witness (enc := enc) (C := Try.checked) (s := Rows.OpenSpec.upto Rows.topoSoundSpec) (k := Rows.uptoSmall) rfl false ⟨#[], #[.agg #[.slice none 0 0], .agg #[.int .i64 0, .int .i64 0]], []⟩ 8 (by kernel_rfl) (by kernel_rfl) (by kernel_rfl)
      (x := ([.agg [.nil], .agg [.lit (.int .i64 0), .lit (.int .i64 0)]], [], [])) (by kernel_rfl) rfl (by kernel_rfl)) ?_
  intro W base args ds gs before hval hW _ hk _
  exact tsnd_contract H enc W base args ds gs before hval hW hk

theorem tsnd_holds : Rows.TopoSoundUptoSaid :=
  OpenClaim.holds_of_cond 3 Try.f3 rfl rfl rfl rfl rfl rfl rfl ⟨rfl, rfl, rfl, rfl, rfl⟩ rfl rfl rfl rfl rfl (by kernel_rfl) Try.func3 (by kernel_rfl)
    (of_decide_eq_true (by kernel_rfl)) (by unfold Func.isWrapper; first | (rw [if_pos (by decide +kernel)]; kernel_rfl) | (rw [if_neg (by decide +kernel)]; exact ⟨rfl, rfl⟩))
    (fun os started H enc _ F => tsnd_lifted os started H enc F)
#print axioms tsnd_holds
end Go.Proofs.Ytgehddklojplpaa
