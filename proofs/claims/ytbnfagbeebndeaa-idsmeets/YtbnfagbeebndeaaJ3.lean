/-
  Contracts of the reference's Ints of layer 7 (at equal numbers) and of the law's own set. Conditions as each theorem lists them.
  Contracts of slices.Grow (of nil), slices.Concat (of two), slices.Compare and of ids.Join, Meet, Less and Compare. Conditions as each theorem lists them.
  Contract of the law's awake: it returns true. No conditions.
-/
import Derived.Test.YtbnfagbeebndeaaJ2
import Derived.BigQuiet
import Derived.Lib.SliceRun
namespace Go.Proofs.Hd
open Go.RowKit
theorem Nm.cells {w : World} {g n c : Nat} {F : List Int} (h : Nm w (.slice (some ⟨g, 0, none⟩) n c) F) : n = F.length ∧ n ≤ c ∧ c ≤ maxLen ∧ ∀ (k : Nat) (x : Int), F[k]? = some x → w.cell? ⟨g, k, none⟩ = some (.int .i64 x) := by
  obtain ⟨A, c', e, h1, h2, h3⟩ := h
  injection e with e1 e2 e3
  subst e1 e3
  refine ⟨e2, by omega, h2, fun k x hk => ?_⟩
  rcases h3 with rfl | ⟨b, o, e, _, hc⟩
  · simp at hk
  · injection e with e
    injection e with e4 e5
    subst e4 e5
    have := hc k x hk
    rwa [Nat.zero_add] at this
theorem src_bk {w : World} {b : Nat} {t : TypeId} {x : Int} (h : Blk w b t #[.int .i64 x]) : Src w 1 (.slice (some ⟨b, 0, none⟩) 1 1) 1 [.int .i64 x] := ⟨rfl, by simp [Value.oneCell'], .inr ⟨_, _, rfl, fun j u hj => by
  match j, hj with
  | 0, hj =>
    have e : (Value.int .i64 x) = u := by simpa using hj
    rw [add_plainN, h.cell, ← e]; rfl
  | j + 1, hj => simp at hj⟩⟩
/-- What lies behind the first a numbers. -/
theorem Nm.rest {w : World} {g n c a c' : Nat} {F : List Int} (h : Nm w (.slice (some ⟨g, 0, none⟩) n c) F) : Src w 1 (.slice (some ⟨g, a, none⟩) (F.length - a) c') (F.drop a).length (iv (F.drop a)) := by
  refine ⟨by simp [iv], ?_, .inr ⟨_, _, by rw [List.length_drop], fun j u hj => ?_⟩⟩
  · intro u hu
    simp only [iv, List.mem_map] at hu
    obtain ⟨x, _, rfl⟩ := hu
    rfl
  · simp only [iv, List.getElem?_map, Option.map_eq_some_iff] at hj
    obtain ⟨x, hx, rfl⟩ := hj
    rw [List.getElem?_drop] at hx
    rw [add_plainN]
    exact h.cells.2.2.2 _ x hx
theorem own_some {w : World} {base : Nat} {t : TypeId} {size n : Nat} {v : Value} {xs : List Value} (h : w.ownsRow base t size v n xs) (h0 : 0 < n) : ∃ g c, v = .slice (some ⟨g, 0, none⟩) n c := by
  rcases h.2 with ⟨rfl, rfl⟩ | ⟨g, cap, cur, rfl, _⟩
  · omega
  · exact ⟨g, cap, rfl⟩
end Go.Proofs.Hd
namespace Go.Proofs
open Go.RowKit Go.Proofs.Hd Go.Lib Go.Sort
attribute [local go_sem] uv_nonneg
set_option maxHeartbeats 1000000 in
theorem rints_c (v u : Value) (F : List Int) (w : World) (hv : Nm w v F) (hu : Nm w u F) (hF : F.length ≤ 35184372088832) : Calls Try.prog 7 #[v, u] w fun e w' => e = .returned (.bool true) ∧ Below w.heap.size w w' := by
  obtain ⟨A1, c1, rfl, _, _, h3⟩ := hv
  obtain ⟨A2, c2, rfl, _, _, h4⟩ := hu
  have hFz : (F.length : Int) ≤ 35184372088832 := by omega
  rcases h3 with rfl | ⟨b, o, rfl, hb, hc⟩
  · clear h4
    go_enter Try.func7, Try.ntmps7
    go_wp2
    refine wp_loop_rounds 1 ?_
    rw [rounds_succ]
    go_wp2
    go_ret
    exact ⟨rfl, Below.refl _ _⟩
  · rcases h4 with rfl | ⟨b2, o2, rfl, hb2, hc2⟩
    · clear hc
      go_enter Try.func7, Try.ntmps7
      go_wp2
      refine wp_loop_rounds 1 ?_
      rw [rounds_succ]
      go_wp2
      go_ret
      exact ⟨rfl, Below.refl _ _⟩
    · have HC := Lib.hid hc
      have HC2 := Lib.hid hc2
      clear hc hc2
      go_enter Try.func7, Try.ntmps7
      go_wp2
      go_loopg [5] F.length (fun gk s5 wr => ∃ k : Nat, k ≤ F.length ∧ gk = F.length - k ∧ s5 = .int .i64 k ∧ Hid (Below w.heap.size w wr))
      case atStart => exact ⟨0, Nat.zero_le _, rfl, rfl, Below.refl _ _⟩
      case round =>
        obtain ⟨k, hk, rfl, rfl, HB⟩ := hrel
        by_cases hlt : k < F.length
        · have hltz : (k : Int) < (F.length : Int) := by omega
          obtain ⟨x, hx⟩ : ∃ x, F[k]? = some x := ⟨_, List.getElem?_eq_getElem hlt⟩
          have d1 := on_some HB.out (HC.out k x hx)
          have d2 := on_some HB.out (HC2.out k x hx)
          clear hx
          go_wp2_with fail
          go_quiet (fail)
          have HB2 := Lib.hid (bdn HB.out nq)
          clear d1 d2 HB
          generalize wr.drewN nq = w2 at HB2 ⊢
          go_wp2
          go_roundg (F.length - (k + 1))
          case measure => omega
          case rel => exact ⟨k + 1, by omega, rfl, by go_num, HB2⟩
        · have hltz : ¬ (k : Int) < (F.length : Int) := by omega
          go_wp2
          go_ret
          exact ⟨rfl, HB.out⟩
set_option maxHeartbeats 8000000 in
set_option maxRecDepth 100000 in
theorem lset_c (v : Value) (L : List Int) (w : World) (hl : L.length ≤ 1000) (hv : Nm w v L) : Calls Try.prog 9 #[v] w (GotN w (setI L)) := by
  obtain ⟨ic, hic, hcz0, hcz1, hcz2⟩ := info_parts info_int
  obtain ⟨A, c0, rfl, _, _, h3⟩ := hv
  have hlz : (L.length : Int) ≤ 1000 := by omega
  have B0 := below1 w (.cells #[] 3)
  rcases h3 with rfl | ⟨b, o, rfl, hb, hc⟩
  · go_enter Try.func9, Try.ntmps9
    go_wp2
    refine wp_loop_rounds 1 ?_
    rw [rounds_succ]
    go_wp2
    go_ret
    exact ⟨_, rfl, ⟨_, _, rfl, Nat.le_refl _, Nat.zero_le _, .inl rfl⟩, B0⟩
  · have HC := Lib.hid hc
    have HB0 := Lib.hid B0
    have HL := Lib.hid hl
    clear hc B0
    go_enter Try.func9, Try.ntmps9
    go_wp2
    go_loopg [3, 4] L.length (fun gk s3 s4 wr => ∃ i g n c : Nat, i ≤ L.length ∧ gk = L.length - i ∧ s3 = .slice (some ⟨g, 0, none⟩) n c ∧ s4 = .int .i64 i ∧ Hid (Below w.heap.size w wr) ∧ Hid (Nm wr (.slice (some ⟨g, 0, none⟩) n c) (setI (L.take i))))
    case atStart => exact ⟨0, w.heap.size, 0, 0, Nat.zero_le _, rfl, rfl, rfl, HB0.out, ⟨some ⟨w.heap.size, 0, none⟩, 0, by simp [setI], by simp [setI], Nat.zero_le _, .inl (by simp [setI])⟩⟩
    case round =>
      obtain ⟨i, g, n, c, hi, rfl, rfl, rfl, HB, HN⟩ := hrel
      by_cases hlt : i < L.length
      · have hltz : (i : Int) < (L.length : Int) := by omega
        obtain ⟨x, hx⟩ : ∃ x, L[i]? = some x := ⟨_, List.getElem?_eq_getElem hlt⟩
        have HX := Lib.hid hx
        have d1 := on_some HB.out (HC.out i x hx)
        clear hx
        have hsl := setI_len (L.take i)
        have htl : (L.take i).length ≤ L.length := by rw [List.length_take]; omega
        have hst : Hid (setI (L.take (i + 1)) = insI x (setI (L.take i))) := by
          show _ = _
          rw [List.take_add_one, HX.out]
          exact setI_snoc _ _
        have hin : Hid (Inc (setI (L.take i))) := inc_setI _
        generalize hFF : setI (L.take i) = F at HN hsl hst hin
        clear hFF
        obtain ⟨rfl, hnc, hcm, hcells⟩ := HN.out.cells
        have HCE := Lib.hid hcells
        clear hcells
        have hF : F.length ≤ 1000 := by omega
        have hFz : (F.length : Int) ≤ 1000 := by omega
        have hncz : (F.length : Int) ≤ (c : Int) := by omega
        have hcz : (c : Int) ≤ 9223372036854775807 := by unfold maxLen at hcm; omega
        have hcon := lhas_c _ F x wr (by omega) HN.out
        clear hsl htl
        by_cases hmem : x ∈ F
        · rw [decide_eq_true hmem] at hcon
          have HM := Lib.hid hmem
          clear hmem
          go_wp2_with fail
          (with_reducible refine hcon.mono ?_)
          rintro e w2 ⟨rfl, hb2⟩
          have HB2 := Lib.hid (HB.out.trans (hb2.mono HB.out.size))
          have HN2 : Hid (Nm w2 (.slice (some ⟨g, 0, none⟩) F.length c) (setI (L.take (i + 1)))) := by
            show Nm _ _ _
            rw [hst.out, insI_in hin.out HM.out]
            exact HN.out.on hb2
          clear hcon hb2 HB HN d1
          go_wp2
          go_roundg (L.length - (i + 1))
          case measure => omega
          case rel => exact ⟨i + 1, g, F.length, c, by omega, rfl, rfl, by go_num, HB2, HN2⟩
        · rw [decide_eq_false hmem] at hcon
          have HM := Lib.hid hmem
          clear hmem
          go_wp2_with fail
          (with_reducible refine hcon.mono ?_)
          rintro e w2 ⟨rfl, hb2⟩
          have HB2 := Lib.hid (HB.out.trans (hb2.mono HB.out.size))
          have HN2 := Lib.hid (HN.out.on hb2)
          have HD2 := Lib.hid (on_some hb2 d1)
          clear hcon hb2 HB HN d1 HCE
          go_wp2
          go_loopg [5, 6] F.length (fun gk s5 s6 wr => ∃ k a : Nat, k ≤ F.length ∧ gk = F.length - k ∧ s5 = .int .i64 a ∧ s6 = .int .i64 k ∧ Hid (Below w2.heap.size w2 wr) ∧ Hid (AtIs F x k a))
          case atStart => exact ⟨0, 0, Nat.zero_le _, rfl, rfl, rfl, Below.refl _ _, AtIs.zero F x⟩
          case round =>
            obtain ⟨k, a, hk, rfl, rfl, rfl, HBi, HA⟩ := hrel
            by_cases hkl : k < F.length
            · have hklz : (k : Int) < (F.length : Int) := by omega
              obtain ⟨y, hy⟩ : ∃ y, F[k]? = some y := ⟨_, List.getElem?_eq_getElem hkl⟩
              have HY := Lib.hid hy
              have d1 := on_some HBi.out HD2.out
              have d2 := on_some HBi.out (HN2.out.cells.2.2.2 k y hy)
              clear hy
              by_cases hyx : y < x
              · have HA2 := Lib.hid (AtIs.yes hin.out HY.out hyx)
                have HYX := Lib.hid hyx
                have hd : decide (y < x) = true := decide_eq_true hyx
                clear hyx
                go_wp2_with fail
                go_quiet (fail)
                have HB3 := Lib.hid (bdn HBi.out nq)
                clear d1 d2 HBi HA
                generalize wr.drewN nq = w3 at HB3 ⊢
                go_wp2
                go_roundg (F.length - (k + 1))
                case measure => omega
                case rel => exact ⟨k + 1, k + 1, by omega, rfl, by go_num, by go_num, HB3, HA2⟩
              · have HA2 := Lib.hid (HA.out.no HY.out hyx)
                have HYX := Lib.hid hyx
                have hd : decide (y < x) = false := decide_eq_false hyx
                clear hyx
                go_wp2_with fail
                go_quiet (fail)
                have HB3 := Lib.hid (bdn HBi.out nq)
                clear d1 d2 HBi HA
                generalize wr.drewN nq = w3 at HB3 ⊢
                go_wp2
                go_roundg (F.length - (k + 1))
                case measure => omega
                case rel => exact ⟨k + 1, a, by omega, rfl, rfl, by go_num, HB3, HA2⟩
            · have hklz : ¬ (k : Int) < (F.length : Int) := by omega
              obtain rfl : k = F.length := by omega
              have hal : a ≤ F.length := HA.out.1
              have haz : (a : Int) ≤ (F.length : Int) := by omega
              have hacz : (a : Int) ≤ (c : Int) := by omega
              have hins : Hid (setI (L.take (i + 1)) = F.take a ++ x :: F.drop a) := by
                show _ = _
                rw [hst.out]
                exact HA.out.done hin.out HM.out
              have HNb := Lib.hid (HN2.out.on HBi.out)
              have HDb := Lib.hid (on_some HBi.out HD2.out)
              have HBb := Lib.hid (HB2.out.trans (HBi.out.mono HB2.out.size))
              clear HN2 HD2 HB2 HBi HA
              generalize wr = wb at HNb HDb HBb ⊢
              have hlen3 : ((F.take a ++ x :: F.drop a)).length = a + 1 + (F.drop a).length := by
                rw [List.length_append, List.length_take, List.length_cons]; omega
              have hcel3 : iv (F.take a ++ x :: F.drop a) = iv (F.take a) ++ [.int .i64 x] ++ iv (F.drop a) := by simp [iv]
              have hdl : (F.drop a).length ≤ 1000 := by rw [List.length_drop]; omega
              have HKP : Hid (∀ W, Below wb.heap.size wb W → Below wb.heap.size wb W ∧ W.cell? ⟨b, o + i, none⟩ = some (.int .i64 x)) := fun W h => ⟨h, on_some h HDb.out⟩
              have HS1 : Hid (∀ W, Below wb.heap.size wb W → Src W 1 (.slice (some ⟨g, 0, none⟩) a c) a (iv (F.take a))) := fun W h => by
                have := ((HNb.out.on h).take hal).src
                rwa [show (F.take a).length = a by rw [List.length_take]; omega] at this
              go_upto_region 12 with (fail)
              by_cases hca : a = c
              · have HS2 : Hid (∀ W, Below wb.heap.size wb W → Src W 1 (.slice (some ⟨g, 0, none⟩) 0 0) (F.drop a).length (iv (F.drop a))) := fun W _ => by
                  rw [show F.drop a = [] from List.drop_eq_nil_of_le (by omega)]
                  exact (show Nm W (.slice (some ⟨g, 0, none⟩) 0 0) [] from ⟨_, _, rfl, Nat.le_refl _, Nat.zero_le _, .inl rfl⟩).src
                have hfa : F.length = a := by omega
                have hfd : (F.length : Int) - (a : Int) = 0 := by omega
                subst hca
                refine wp_region_held_drew (S := fun w' => Below wb.heap.size wb w' ∧ w'.cell? ⟨b, o + i, none⟩ = some (.int .i64 x)) (by kernel_rfl) (HKP.out _ (Below.refl _ wb).drew) (fun hHeld => ?_)
                have hB : Below wb.heap.size wb wb.drew := (Below.refl _ wb).drew
                generalize wb.drew = u0 at hHeld hB ⊢
                refine wpAnyH_take (i := 1) (oi := ⟨some 38, _, _, _, _, _⟩) (v := ?vra1_1) rfl (by kernel_rfl) (by kernel_rfl) (by kernel_rfl) (fun _ _ _ h => h) (Or.inl ⟨by rfl, ?yra1_1⟩) hHeld ?rra1_1
                case yra1_1 => (intro w' hSw; (try dsimp only at hSw); go_simp; try (with_reducible rfl))
                simp only [Act.put, List.setIfInBounds_toArray, List.set_cons_zero, List.set_cons_succ]
                refine wpAnyH_take (i := 2) (oi := ⟨some 39, _, _, _, _, _⟩) (v := ?vra2_2) rfl (by kernel_rfl) (by kernel_rfl) (by kernel_rfl) (fun _ _ _ h => h) (Or.inl ⟨by rfl, ?yra2_2⟩) hHeld ?rra2_2
                case yra2_2 => (intro w' hSw; (try dsimp only at hSw); go_simp; try (with_reducible rfl))
                simp only [Act.put, List.setIfInBounds_toArray, List.set_cons_zero, List.set_cons_succ]
                refine wpAnyH_take (i := 3) (oi := ⟨some 40, _, _, _, _, _⟩) (v := ?vra3_3) rfl (by kernel_rfl) (by kernel_rfl) (by kernel_rfl) (fun _ _ _ h => h) (Or.inl ⟨by rfl, ?yra3_3⟩) hHeld ?rra3_3
                case yra3_3 => (intro w' hSw; (try dsimp only at hSw); go_simp; try (with_reducible rfl))
                simp only [Act.put, List.setIfInBounds_toArray, List.set_cons_zero, List.set_cons_succ]
                refine wpAnyH_take (i := 5) (oi := ⟨some 42, _, _, _, _, _⟩) (v := ?vra5_4) rfl (by kernel_rfl) (by kernel_rfl) (by kernel_rfl) (fun _ _ _ h => h) (Or.inl ⟨by rfl, ?yra5_4⟩) hHeld ?rra5_4
                case yra5_4 => (intro w' hSw; (try dsimp only at hSw); go_simp; try (with_reducible rfl))
                simp only [Act.put, List.setIfInBounds_toArray, List.set_cons_zero, List.set_cons_succ]
                refine wpAnyH_take (i := 6) (oi := ⟨some 43, _, _, _, _, _⟩) (v := ?vra6_5) rfl (by kernel_rfl) (by kernel_rfl) (by kernel_rfl) (fun _ _ _ h => h) (Or.inl ⟨by rfl, ?yra6_5⟩) hHeld ?rra6_5
                case yra6_5 => (intro w' hSw; (try dsimp only at hSw); go_simp; try (with_reducible rfl))
                simp only [Act.put, List.setIfInBounds_toArray, List.set_cons_zero, List.set_cons_succ]
                refine wpAnyH_take (i := 7) (oi := ⟨some 44, _, _, _, _, _⟩) (v := ?vra7_6) rfl (by kernel_rfl) (by kernel_rfl) (by kernel_rfl) (fun _ _ _ h => h) (Or.inl ⟨by rfl, ?yra7_6⟩) hHeld ?rra7_6
                case yra7_6 => (intro w' hSw; (try dsimp only at hSw); go_simp; try (with_reducible rfl))
                simp only [Act.put, List.setIfInBounds_toArray, List.set_cons_zero, List.set_cons_succ]
                refine wpAnyH_take (i := 8) (oi := ⟨some 45, _, _, _, _, _⟩) (v := ?vra8_7) rfl (by kernel_rfl) (by kernel_rfl) (by kernel_rfl) (fun _ _ _ h => h) (Or.inl ⟨by rfl, ?yra8_7⟩) hHeld ?rra8_7
                case yra8_7 => (intro w' hSw; (try dsimp only at hSw); go_simp; try (with_reducible rfl))
                simp only [Act.put, List.setIfInBounds_toArray, List.set_cons_zero, List.set_cons_succ]
                refine wpAnyH_take (i := 11) (oi := ⟨some 48, _, _, _, _, _⟩) (v := ?vra11_8) rfl (by kernel_rfl) (by kernel_rfl) (by kernel_rfl) (fun _ _ _ h => h) (Or.inl ⟨by rfl, ?yra11_8⟩) hHeld ?rra11_8
                case yra11_8 => (intro w' hSw; (try dsimp only at hSw); go_simp; try (with_reducible rfl))
                simp only [Act.put, List.setIfInBounds_toArray, List.set_cons_zero, List.set_cons_succ]
                refine wpAnyH_take (i := 12) (oi := ⟨some 49, _, _, _, _, _⟩) (v := ?vra12_9) rfl (by kernel_rfl) (by kernel_rfl) (by kernel_rfl) (fun _ _ _ h => h) (Or.inl ⟨by rfl, ?yra12_9⟩) hHeld ?rra12_9
                case yra12_9 => (intro w' hSw; (try dsimp only at hSw); go_simp; try (with_reducible rfl))
                simp only [Act.put, List.setIfInBounds_toArray, List.set_cons_zero, List.set_cons_succ]
                refine wpAnyH_take (i := 13) (oi := ⟨some 50, _, _, _, _, _⟩) (v := ?vra13_10) rfl (by kernel_rfl) (by kernel_rfl) (by kernel_rfl) (fun _ _ _ h => h) (Or.inl ⟨by rfl, ?yra13_10⟩) hHeld ?rra13_10
                case yra13_10 => (intro w' hSw; (try dsimp only at hSw); go_simp; try (with_reducible rfl))
                simp only [Act.put, List.setIfInBounds_toArray, List.set_cons_zero, List.set_cons_succ]
                refine wpAnyH_ready (rs := [0, 9]) (by kernel_rfl) (by simp) ?_
                refine AllReadyH.cons (o := ⟨some 37, _, _, _, _, _⟩) rfl (fun K hK => ?_) ?_
                · go_simp
                  have hb := below1 u0 (.cells #[] 3)
                  have hB2 := hB.trans (hb.mono hB.size)
                  refine hK.out _ _ (HKP.out _ hB2) (fun hNext => ?_)
                  have kO : (u0.alloc (.cells #[] 3)).ownsRow wb.heap.size 3 1 (.slice (some ⟨u0.heap.size, 0, none⟩) 0 0) 0 [] := World.ownsRow_made u0 #[] 0 hB.size (Nat.zero_le _) rfl
                  clear hK K hHeld
                  have hHeld := hNext
                  clear hNext
                  clear hB
                  have hB := hB2
                  clear hB2 hb
                  generalize hgen : (u0.alloc (.cells #[] 3)) = u1 at hHeld hB kO  ⊢
                  clear hgen
                  generalize hgen : u0.heap.size = bO at kO  ⊢
                  clear hgen
                  try simp only [Act.put, List.setIfInBounds_toArray, List.set_cons_zero, List.set_cons_succ]
                  refine wpAnyH_ready (rs := [4, 9]) (by kernel_rfl) (by simp) ?_
                  refine AllReadyH.cons (o := ⟨some 41, _, _, _, _, _⟩) rfl (fun K hK => ?_) ?_
                  · refine step_app _ rfl (.tmp 37) (.tmp 40) 22 rfl wb.heap.size 3 ic _ 1 8 Try.underlying22 hic hcz0 hcz1 hcz2 rfl (by decide) (.slice (some ⟨bO, 0, none⟩) 0 0) 0 [] rfl kO (.slice (some ⟨g, 0, none⟩) a a) a (iv (F.take a)) rfl (HS1.out _ hB) (by unfold maxLen; omega) (by omega) hB.size ?_
                    intro v2 u2 kO2 hgr
                    have hB2 := hB.grown hgr hB.size (fun j hj => (kO.lt j hj).1)
                    refine hK.out _ _ (HKP.out _ hB2) (fun hNext => ?_)
                    clear hK K hHeld
                    have hHeld := hNext
                    clear hNext
                    rw [Nat.zero_add, List.nil_append] at kO2
                    clear hB kO hgr
                    have hB := hB2
                    clear hB2
                    have kO := kO2
                    clear kO2
                    try simp only [Act.put, List.setIfInBounds_toArray, List.set_cons_zero, List.set_cons_succ]
                    refine wpAnyH_ready (rs := [9]) (by kernel_rfl) (by simp) ?_
                    refine AllReadyH.cons (o := ⟨some 46, _, _, _, _, _⟩) rfl (fun K hK => ?_) AllReadyH.nil
                    go_simp
                    have hb := below1 u2 (.cells #[.int .i64 x] 3)
                    have hB2 := hB.trans (hb.mono hB.size)
                    refine hK.out _ _ (HKP.out _ hB2) (fun hNext => ?_)
                    have kN : Blk (u2.alloc (.cells #[.int .i64 x] 3)) u2.heap.size 3 #[.int .i64 x] := Blk.new u2 _ _
                    replace kO := own_on kO hb
                    clear hK K hHeld
                    have hHeld := hNext
                    clear hNext
                    clear hB
                    have hB := hB2
                    clear hB2 hb
                    generalize hgen : (u2.alloc (.cells #[.int .i64 x] 3)) = u3 at hHeld hB kN kO ⊢
                    clear hgen
                    generalize hgen : u2.heap.size = bN at kN  ⊢
                    clear hgen
                    try simp only [Act.put, List.setIfInBounds_toArray, List.set_cons_zero, List.set_cons_succ]
                    refine wpAnyH_ready (rs := [10]) (by kernel_rfl) (by simp) ?_
                    refine AllReadyH.cons (o := ⟨some 47, _, _, _, _, _⟩) rfl (fun K hK => ?_) AllReadyH.nil
                    have SR : Src u3 1 (.slice (some ⟨bN, 0, none⟩) 1 1) 1 [.int .i64 x] := src_bk kN
                    refine step_app _ rfl (.tmp 41) (.tmp 46) 22 rfl wb.heap.size 3 ic _ 1 8 Try.underlying22 hic hcz0 hcz1 hcz2 rfl (by decide) (v2) a (iv (F.take a)) rfl kO (.slice (some ⟨bN, 0, none⟩) 1 1) 1 [.int .i64 x] rfl (SR) (by unfold maxLen; omega) (by omega) hB.size ?_
                    intro v3 u4 kO2 hgr
                    have hB2 := hB.grown hgr hB.size (fun j hj => (kO.lt j hj).1)
                    refine hK.out _ _ (HKP.out _ hB2) (fun hNext => ?_)
                    clear hK K hHeld
                    have hHeld := hNext
                    clear hNext
                    clear hB kO hgr SR kN
                    have hB := hB2
                    clear hB2
                    have kO := kO2
                    clear kO2
                    try simp only [Act.put, List.setIfInBounds_toArray, List.set_cons_zero, List.set_cons_succ]
                    refine wpAnyH_ready (rs := [14]) (by kernel_rfl) (by simp) ?_
                    refine AllReadyH.cons (o := ⟨some 51, _, _, _, _, _⟩) rfl (fun K hK => ?_) AllReadyH.nil
                    refine step_app _ rfl (.tmp 47) (.tmp 50) 22 rfl wb.heap.size 3 ic _ 1 8 Try.underlying22 hic hcz0 hcz1 hcz2 rfl (by decide) (v3) (a + 1) (iv (F.take a) ++ [.int .i64 x]) rfl kO (.slice (some ⟨g, 0, none⟩) 0 0) (F.drop a).length (iv (F.drop a)) rfl (HS2.out _ hB) (by unfold maxLen; omega) (by omega) hB.size ?_
                    intro v4 u5 kO2 hgr
                    have hB2 := hB.grown hgr hB.size (fun j hj => (kO.lt j hj).1)
                    refine hK.out _ _ (HKP.out _ hB2) (fun hNext => ?_)
                    clear hK K hHeld
                    have hHeld := hNext
                    clear hNext
                    clear hB kO hgr
                    have hB := hB2
                    clear hB2
                    have kO := kO2
                    clear kO2
                    try simp only [Act.put, List.setIfInBounds_toArray, List.set_cons_zero, List.set_cons_succ]
                    refine wpAnyH_take (i := 15) (oi := ⟨some 3, _, _, _, _, _⟩) (v := ?vra15_11) rfl (by kernel_rfl) (by kernel_rfl) (by kernel_rfl) (fun _ _ _ h => h) (Or.inl ⟨by rfl, ?yra15_11⟩) hHeld ?rra15_11
                    case yra15_11 => (intro w' hSw; (try dsimp only at hSw); go_simp; try (with_reducible rfl))
                    simp only [Act.put, List.setIfInBounds_toArray, List.set_cons_zero, List.set_cons_succ]
                    refine wpAnyH_done (by kernel_rfl) ?_ _
                    rw [← hlen3, ← hcel3] at kO
                    obtain ⟨g2, c2, rfl⟩ := own_some kO (by rw [hlen3]; omega)
                    have HB4 := Lib.hid (HBb.out.trans (hB.mono HBb.out.size))
                    have HN4 : Hid (Nm u5 (.slice (some ⟨g2, 0, none⟩) (F.take a ++ x :: F.drop a).length c2) (setI (L.take (i + 1)))) := by
                      show Nm _ _ _
                      rw [hins.out]
                      exact own_Nm kO
                    clear hB kO hHeld HBb HNb HDb HKP HS1 HS2 hlen3 hcel3
                    generalize (F.take a ++ x :: F.drop a).length = n4 at HN4 ⊢
                    go_wp2
                    go_roundg (L.length - (i + 1))
                    case measure => omega
                    case rel => exact ⟨i + 1, g2, n4, c2, by omega, rfl, rfl, by go_num, HB4, HN4⟩
                  refine AllReadyH.cons (o := ⟨some 46, _, _, _, _, _⟩) rfl (fun K hK => ?_) AllReadyH.nil
                  go_simp
                  have hb := below1 u1 (.cells #[.int .i64 x] 3)
                  have hB2 := hB.trans (hb.mono hB.size)
                  refine hK.out _ _ (HKP.out _ hB2) (fun hNext => ?_)
                  have kN : Blk (u1.alloc (.cells #[.int .i64 x] 3)) u1.heap.size 3 #[.int .i64 x] := Blk.new u1 _ _
                  have hne : u1.heap.size ≠ bO := (Nat.ne_of_lt (kO.lt bO rfl).2).symm
                  replace kO := own_on kO hb
                  clear hK K hHeld
                  have hHeld := hNext
                  clear hNext
                  clear hB
                  have hB := hB2
                  clear hB2 hb
                  generalize hgen : (u1.alloc (.cells #[.int .i64 x] 3)) = u6 at hHeld hB kN kO ⊢
                  clear hgen
                  generalize hgen : u1.heap.size = bN at kN hne ⊢
                  clear hgen
                  try simp only [Act.put, List.setIfInBounds_toArray, List.set_cons_zero, List.set_cons_succ]
                  refine wpAnyH_ready (rs := [4]) (by kernel_rfl) (by simp) ?_
                  refine AllReadyH.cons (o := ⟨some 41, _, _, _, _, _⟩) rfl (fun K hK => ?_) AllReadyH.nil
                  refine step_app _ rfl (.tmp 37) (.tmp 40) 22 rfl wb.heap.size 3 ic _ 1 8 Try.underlying22 hic hcz0 hcz1 hcz2 rfl (by decide) (.slice (some ⟨bO, 0, none⟩) 0 0) 0 [] rfl kO (.slice (some ⟨g, 0, none⟩) a a) a (iv (F.take a)) rfl (HS1.out _ hB) (by unfold maxLen; omega) (by omega) hB.size ?_
                  intro v2 u7 kO2 hgr
                  have hB2 := hB.grown hgr hB.size (fun j hj => (kO.lt j hj).1)
                  refine hK.out _ _ (HKP.out _ hB2) (fun hNext => ?_)
                  clear hK K hHeld
                  have hHeld := hNext
                  clear hNext
                  replace kN := kN.grown hgr (by intro e; injection e with e; exact hne e)
                  rw [Nat.zero_add, List.nil_append] at kO2
                  clear hB kO hgr
                  have hB := hB2
                  clear hB2
                  have kO := kO2
                  clear kO2
                  try simp only [Act.put, List.setIfInBounds_toArray, List.set_cons_zero, List.set_cons_succ]
                  refine wpAnyH_ready (rs := [10]) (by kernel_rfl) (by simp) ?_
                  refine AllReadyH.cons (o := ⟨some 47, _, _, _, _, _⟩) rfl (fun K hK => ?_) AllReadyH.nil
                  have SR : Src u7 1 (.slice (some ⟨bN, 0, none⟩) 1 1) 1 [.int .i64 x] := src_bk kN
                  refine step_app _ rfl (.tmp 41) (.tmp 46) 22 rfl wb.heap.size 3 ic _ 1 8 Try.underlying22 hic hcz0 hcz1 hcz2 rfl (by decide) (v2) a (iv (F.take a)) rfl kO (.slice (some ⟨bN, 0, none⟩) 1 1) 1 [.int .i64 x] rfl (SR) (by unfold maxLen; omega) (by omega) hB.size ?_
                  intro v3 u8 kO2 hgr
                  have hB2 := hB.grown hgr hB.size (fun j hj => (kO.lt j hj).1)
                  refine hK.out _ _ (HKP.out _ hB2) (fun hNext => ?_)
                  clear hK K hHeld
                  have hHeld := hNext
                  clear hNext
                  clear hB kO hgr SR kN
                  have hB := hB2
                  clear hB2
                  have kO := kO2
                  clear kO2
                  try simp only [Act.put, List.setIfInBounds_toArray, List.set_cons_zero, List.set_cons_succ]
                  refine wpAnyH_ready (rs := [14]) (by kernel_rfl) (by simp) ?_
                  refine AllReadyH.cons (o := ⟨some 51, _, _, _, _, _⟩) rfl (fun K hK => ?_) AllReadyH.nil
                  refine step_app _ rfl (.tmp 47) (.tmp 50) 22 rfl wb.heap.size 3 ic _ 1 8 Try.underlying22 hic hcz0 hcz1 hcz2 rfl (by decide) (v3) (a + 1) (iv (F.take a) ++ [.int .i64 x]) rfl kO (.slice (some ⟨g, 0, none⟩) 0 0) (F.drop a).length (iv (F.drop a)) rfl (HS2.out _ hB) (by unfold maxLen; omega) (by omega) hB.size ?_
                  intro v4 u9 kO2 hgr
                  have hB2 := hB.grown hgr hB.size (fun j hj => (kO.lt j hj).1)
                  refine hK.out _ _ (HKP.out _ hB2) (fun hNext => ?_)
                  clear hK K hHeld
                  have hHeld := hNext
                  clear hNext
                  clear hB kO hgr
                  have hB := hB2
                  clear hB2
                  have kO := kO2
                  clear kO2
                  try simp only [Act.put, List.setIfInBounds_toArray, List.set_cons_zero, List.set_cons_succ]
                  refine wpAnyH_take (i := 15) (oi := ⟨some 3, _, _, _, _, _⟩) (v := ?vra15_12) rfl (by kernel_rfl) (by kernel_rfl) (by kernel_rfl) (fun _ _ _ h => h) (Or.inl ⟨by rfl, ?yra15_12⟩) hHeld ?rra15_12
                  case yra15_12 => (intro w' hSw; (try dsimp only at hSw); go_simp; try (with_reducible rfl))
                  simp only [Act.put, List.setIfInBounds_toArray, List.set_cons_zero, List.set_cons_succ]
                  refine wpAnyH_done (by kernel_rfl) ?_ _
                  rw [← hlen3, ← hcel3] at kO
                  obtain ⟨g2, c2, rfl⟩ := own_some kO (by rw [hlen3]; omega)
                  have HB4 := Lib.hid (HBb.out.trans (hB.mono HBb.out.size))
                  have HN4 : Hid (Nm u9 (.slice (some ⟨g2, 0, none⟩) (F.take a ++ x :: F.drop a).length c2) (setI (L.take (i + 1)))) := by
                    show Nm _ _ _
                    rw [hins.out]
                    exact own_Nm kO
                  clear hB kO hHeld HBb HNb HDb HKP HS1 HS2 hlen3 hcel3
                  generalize (F.take a ++ x :: F.drop a).length = n4 at HN4 ⊢
                  go_wp2
                  go_roundg (L.length - (i + 1))
                  case measure => omega
                  case rel => exact ⟨i + 1, g2, n4, c2, by omega, rfl, rfl, by go_num, HB4, HN4⟩
                refine AllReadyH.cons (o := ⟨some 46, _, _, _, _, _⟩) rfl (fun K hK => ?_) AllReadyH.nil
                go_simp
                have hb := below1 u0 (.cells #[.int .i64 x] 3)
                have hB2 := hB.trans (hb.mono hB.size)
                refine hK.out _ _ (HKP.out _ hB2) (fun hNext => ?_)
                have kN : Blk (u0.alloc (.cells #[.int .i64 x] 3)) u0.heap.size 3 #[.int .i64 x] := Blk.new u0 _ _
                clear hK K hHeld
                have hHeld := hNext
                clear hNext
                clear hB
                have hB := hB2
                clear hB2 hb
                generalize hgen : (u0.alloc (.cells #[.int .i64 x] 3)) = u10 at hHeld hB kN  ⊢
                clear hgen
                generalize hgen : u0.heap.size = bN at kN  ⊢
                clear hgen
                try simp only [Act.put, List.setIfInBounds_toArray, List.set_cons_zero, List.set_cons_succ]
                refine wpAnyH_ready (rs := [0]) (by kernel_rfl) (by simp) ?_
                refine AllReadyH.cons (o := ⟨some 37, _, _, _, _, _⟩) rfl (fun K hK => ?_) AllReadyH.nil
                go_simp
                have hb := below1 u10 (.cells #[] 3)
                have hB2 := hB.trans (hb.mono hB.size)
                refine hK.out _ _ (HKP.out _ hB2) (fun hNext => ?_)
                have kO : (u10.alloc (.cells #[] 3)).ownsRow wb.heap.size 3 1 (.slice (some ⟨u10.heap.size, 0, none⟩) 0 0) 0 [] := World.ownsRow_made u10 #[] 0 hB.size (Nat.zero_le _) rfl
                have hne : bN ≠ u10.heap.size := Nat.ne_of_lt kN.lt
                replace kN := kN.on hb
                clear hK K hHeld
                have hHeld := hNext
                clear hNext
                clear hB
                have hB := hB2
                clear hB2 hb
                generalize hgen : (u10.alloc (.cells #[] 3)) = u11 at hHeld hB kO kN ⊢
                clear hgen
                generalize hgen : u10.heap.size = bO at kO hne ⊢
                clear hgen
                try simp only [Act.put, List.setIfInBounds_toArray, List.set_cons_zero, List.set_cons_succ]
                refine wpAnyH_ready (rs := [4]) (by kernel_rfl) (by simp) ?_
                refine AllReadyH.cons (o := ⟨some 41, _, _, _, _, _⟩) rfl (fun K hK => ?_) AllReadyH.nil
                refine step_app _ rfl (.tmp 37) (.tmp 40) 22 rfl wb.heap.size 3 ic _ 1 8 Try.underlying22 hic hcz0 hcz1 hcz2 rfl (by decide) (.slice (some ⟨bO, 0, none⟩) 0 0) 0 [] rfl kO (.slice (some ⟨g, 0, none⟩) a a) a (iv (F.take a)) rfl (HS1.out _ hB) (by unfold maxLen; omega) (by omega) hB.size ?_
                intro v2 u12 kO2 hgr
                have hB2 := hB.grown hgr hB.size (fun j hj => (kO.lt j hj).1)
                refine hK.out _ _ (HKP.out _ hB2) (fun hNext => ?_)
                clear hK K hHeld
                have hHeld := hNext
                clear hNext
                replace kN := kN.grown hgr (by intro e; injection e with e; exact hne e)
                rw [Nat.zero_add, List.nil_append] at kO2
                clear hB kO hgr
                have hB := hB2
                clear hB2
                have kO := kO2
                clear kO2
                try simp only [Act.put, List.setIfInBounds_toArray, List.set_cons_zero, List.set_cons_succ]
                refine wpAnyH_ready (rs := [10]) (by kernel_rfl) (by simp) ?_
                refine AllReadyH.cons (o := ⟨some 47, _, _, _, _, _⟩) rfl (fun K hK => ?_) AllReadyH.nil
                have SR : Src u12 1 (.slice (some ⟨bN, 0, none⟩) 1 1) 1 [.int .i64 x] := src_bk kN
                refine step_app _ rfl (.tmp 41) (.tmp 46) 22 rfl wb.heap.size 3 ic _ 1 8 Try.underlying22 hic hcz0 hcz1 hcz2 rfl (by decide) (v2) a (iv (F.take a)) rfl kO (.slice (some ⟨bN, 0, none⟩) 1 1) 1 [.int .i64 x] rfl (SR) (by unfold maxLen; omega) (by omega) hB.size ?_
                intro v3 u13 kO2 hgr
                have hB2 := hB.grown hgr hB.size (fun j hj => (kO.lt j hj).1)
                refine hK.out _ _ (HKP.out _ hB2) (fun hNext => ?_)
                clear hK K hHeld
                have hHeld := hNext
                clear hNext
                clear hB kO hgr SR kN
                have hB := hB2
                clear hB2
                have kO := kO2
                clear kO2
                try simp only [Act.put, List.setIfInBounds_toArray, List.set_cons_zero, List.set_cons_succ]
                refine wpAnyH_ready (rs := [14]) (by kernel_rfl) (by simp) ?_
                refine AllReadyH.cons (o := ⟨some 51, _, _, _, _, _⟩) rfl (fun K hK => ?_) AllReadyH.nil
                refine step_app _ rfl (.tmp 47) (.tmp 50) 22 rfl wb.heap.size 3 ic _ 1 8 Try.underlying22 hic hcz0 hcz1 hcz2 rfl (by decide) (v3) (a + 1) (iv (F.take a) ++ [.int .i64 x]) rfl kO (.slice (some ⟨g, 0, none⟩) 0 0) (F.drop a).length (iv (F.drop a)) rfl (HS2.out _ hB) (by unfold maxLen; omega) (by omega) hB.size ?_
                intro v4 u14 kO2 hgr
                have hB2 := hB.grown hgr hB.size (fun j hj => (kO.lt j hj).1)
                refine hK.out _ _ (HKP.out _ hB2) (fun hNext => ?_)
                clear hK K hHeld
                have hHeld := hNext
                clear hNext
                clear hB kO hgr
                have hB := hB2
                clear hB2
                have kO := kO2
                clear kO2
                try simp only [Act.put, List.setIfInBounds_toArray, List.set_cons_zero, List.set_cons_succ]
                refine wpAnyH_take (i := 15) (oi := ⟨some 3, _, _, _, _, _⟩) (v := ?vra15_13) rfl (by kernel_rfl) (by kernel_rfl) (by kernel_rfl) (fun _ _ _ h => h) (Or.inl ⟨by rfl, ?yra15_13⟩) hHeld ?rra15_13
                case yra15_13 => (intro w' hSw; (try dsimp only at hSw); go_simp; try (with_reducible rfl))
                simp only [Act.put, List.setIfInBounds_toArray, List.set_cons_zero, List.set_cons_succ]
                refine wpAnyH_done (by kernel_rfl) ?_ _
                rw [← hlen3, ← hcel3] at kO
                obtain ⟨g2, c2, rfl⟩ := own_some kO (by rw [hlen3]; omega)
                have HB4 := Lib.hid (HBb.out.trans (hB.mono HBb.out.size))
                have HN4 : Hid (Nm u14 (.slice (some ⟨g2, 0, none⟩) (F.take a ++ x :: F.drop a).length c2) (setI (L.take (i + 1)))) := by
                  show Nm _ _ _
                  rw [hins.out]
                  exact own_Nm kO
                clear hB kO hHeld HBb HNb HDb HKP HS1 HS2 hlen3 hcel3
                generalize (F.take a ++ x :: F.drop a).length = n4 at HN4 ⊢
                go_wp2
                go_roundg (L.length - (i + 1))
                case measure => omega
                case rel => exact ⟨i + 1, g2, n4, c2, by omega, rfl, rfl, by go_num, HB4, HN4⟩
              · have hca2 : ¬ c = a := fun e => hca e.symm
                have HS2 : Hid (∀ W, Below wb.heap.size wb W → Src W 1 (.slice (some ⟨g, a, none⟩) (F.length - a) (c - a)) (F.drop a).length (iv (F.drop a))) := fun W h => (HNb.out.on h).rest
                refine wp_region_held_drew (S := fun w' => Below wb.heap.size wb w' ∧ w'.cell? ⟨b, o + i, none⟩ = some (.int .i64 x)) (by kernel_rfl) (HKP.out _ (Below.refl _ wb).drew) (fun hHeld => ?_)
                have hB : Below wb.heap.size wb wb.drew := (Below.refl _ wb).drew
                generalize wb.drew = u0 at hHeld hB ⊢
                refine wpAnyH_take (i := 1) (oi := ⟨some 38, _, _, _, _, _⟩) (v := ?vrb1_1) rfl (by kernel_rfl) (by kernel_rfl) (by kernel_rfl) (fun _ _ _ h => h) (Or.inl ⟨by rfl, ?yrb1_1⟩) hHeld ?rrb1_1
                case yrb1_1 => (intro w' hSw; (try dsimp only at hSw); go_simp; try (with_reducible rfl))
                simp only [Act.put, List.setIfInBounds_toArray, List.set_cons_zero, List.set_cons_succ]
                refine wpAnyH_take (i := 2) (oi := ⟨some 39, _, _, _, _, _⟩) (v := ?vrb2_2) rfl (by kernel_rfl) (by kernel_rfl) (by kernel_rfl) (fun _ _ _ h => h) (Or.inl ⟨by rfl, ?yrb2_2⟩) hHeld ?rrb2_2
                case yrb2_2 => (intro w' hSw; (try dsimp only at hSw); go_simp; try (with_reducible rfl))
                simp only [Act.put, List.setIfInBounds_toArray, List.set_cons_zero, List.set_cons_succ]
                refine wpAnyH_take (i := 3) (oi := ⟨some 40, _, _, _, _, _⟩) (v := ?vrb3_3) rfl (by kernel_rfl) (by kernel_rfl) (by kernel_rfl) (fun _ _ _ h => h) (Or.inl ⟨by rfl, ?yrb3_3⟩) hHeld ?rrb3_3
                case yrb3_3 => (intro w' hSw; (try dsimp only at hSw); go_simp; try (with_reducible rfl))
                simp only [Act.put, List.setIfInBounds_toArray, List.set_cons_zero, List.set_cons_succ]
                refine wpAnyH_take (i := 5) (oi := ⟨some 42, _, _, _, _, _⟩) (v := ?vrb5_4) rfl (by kernel_rfl) (by kernel_rfl) (by kernel_rfl) (fun _ _ _ h => h) (Or.inl ⟨by rfl, ?yrb5_4⟩) hHeld ?rrb5_4
                case yrb5_4 => (intro w' hSw; (try dsimp only at hSw); go_simp; try (with_reducible rfl))
                simp only [Act.put, List.setIfInBounds_toArray, List.set_cons_zero, List.set_cons_succ]
                refine wpAnyH_take (i := 6) (oi := ⟨some 43, _, _, _, _, _⟩) (v := ?vrb6_5) rfl (by kernel_rfl) (by kernel_rfl) (by kernel_rfl) (fun _ _ _ h => h) (Or.inl ⟨by rfl, ?yrb6_5⟩) hHeld ?rrb6_5
                case yrb6_5 => (intro w' hSw; (try dsimp only at hSw); go_simp; try (with_reducible rfl))
                simp only [Act.put, List.setIfInBounds_toArray, List.set_cons_zero, List.set_cons_succ]
                refine wpAnyH_take (i := 7) (oi := ⟨some 44, _, _, _, _, _⟩) (v := ?vrb7_6) rfl (by kernel_rfl) (by kernel_rfl) (by kernel_rfl) (fun _ _ _ h => h) (Or.inl ⟨by rfl, ?yrb7_6⟩) hHeld ?rrb7_6
                case yrb7_6 => (intro w' hSw; (try dsimp only at hSw); go_simp; try (with_reducible rfl))
                simp only [Act.put, List.setIfInBounds_toArray, List.set_cons_zero, List.set_cons_succ]
                refine wpAnyH_take (i := 8) (oi := ⟨some 45, _, _, _, _, _⟩) (v := ?vrb8_7) rfl (by kernel_rfl) (by kernel_rfl) (by kernel_rfl) (fun _ _ _ h => h) (Or.inl ⟨by rfl, ?yrb8_7⟩) hHeld ?rrb8_7
                case yrb8_7 => (intro w' hSw; (try dsimp only at hSw); go_simp; try (with_reducible rfl))
                simp only [Act.put, List.setIfInBounds_toArray, List.set_cons_zero, List.set_cons_succ]
                refine wpAnyH_take (i := 11) (oi := ⟨some 48, _, _, _, _, _⟩) (v := ?vrb11_8) rfl (by kernel_rfl) (by kernel_rfl) (by kernel_rfl) (fun _ _ _ h => h) (Or.inl ⟨by rfl, ?yrb11_8⟩) hHeld ?rrb11_8
                case yrb11_8 => (intro w' hSw; (try dsimp only at hSw); go_simp; try (with_reducible rfl))
                simp only [Act.put, List.setIfInBounds_toArray, List.set_cons_zero, List.set_cons_succ]
                refine wpAnyH_take (i := 12) (oi := ⟨some 49, _, _, _, _, _⟩) (v := ?vrb12_9) rfl (by kernel_rfl) (by kernel_rfl) (by kernel_rfl) (fun _ _ _ h => h) (Or.inl ⟨by rfl, ?yrb12_9⟩) hHeld ?rrb12_9
                case yrb12_9 => (intro w' hSw; (try dsimp only at hSw); go_simp; try (with_reducible rfl))
                simp only [Act.put, List.setIfInBounds_toArray, List.set_cons_zero, List.set_cons_succ]
                refine wpAnyH_take (i := 13) (oi := ⟨some 50, _, _, _, _, _⟩) (v := ?vrb13_10) rfl (by kernel_rfl) (by kernel_rfl) (by kernel_rfl) (fun _ _ _ h => h) (Or.inl ⟨by rfl, ?yrb13_10⟩) hHeld ?rrb13_10
                case yrb13_10 => (intro w' hSw; (try dsimp only at hSw); go_simp; try (with_reducible rfl))
                simp only [Act.put, List.setIfInBounds_toArray, List.set_cons_zero, List.set_cons_succ]
                refine wpAnyH_ready (rs := [0, 9]) (by kernel_rfl) (by simp) ?_
                refine AllReadyH.cons (o := ⟨some 37, _, _, _, _, _⟩) rfl (fun K hK => ?_) ?_
                · go_simp
                  have hb := below1 u0 (.cells #[] 3)
                  have hB2 := hB.trans (hb.mono hB.size)
                  refine hK.out _ _ (HKP.out _ hB2) (fun hNext => ?_)
                  have kO : (u0.alloc (.cells #[] 3)).ownsRow wb.heap.size 3 1 (.slice (some ⟨u0.heap.size, 0, none⟩) 0 0) 0 [] := World.ownsRow_made u0 #[] 0 hB.size (Nat.zero_le _) rfl
                  clear hK K hHeld
                  have hHeld := hNext
                  clear hNext
                  clear hB
                  have hB := hB2
                  clear hB2 hb
                  generalize hgen : (u0.alloc (.cells #[] 3)) = u1 at hHeld hB kO  ⊢
                  clear hgen
                  generalize hgen : u0.heap.size = bO at kO  ⊢
                  clear hgen
                  try simp only [Act.put, List.setIfInBounds_toArray, List.set_cons_zero, List.set_cons_succ]
                  refine wpAnyH_ready (rs := [4, 9]) (by kernel_rfl) (by simp) ?_
                  refine AllReadyH.cons (o := ⟨some 41, _, _, _, _, _⟩) rfl (fun K hK => ?_) ?_
                  · refine step_app _ rfl (.tmp 37) (.tmp 40) 22 rfl wb.heap.size 3 ic _ 1 8 Try.underlying22 hic hcz0 hcz1 hcz2 rfl (by decide) (.slice (some ⟨bO, 0, none⟩) 0 0) 0 [] rfl kO (.slice (some ⟨g, 0, none⟩) a c) a (iv (F.take a)) rfl (HS1.out _ hB) (by unfold maxLen; omega) (by omega) hB.size ?_
                    intro v2 u2 kO2 hgr
                    have hB2 := hB.grown hgr hB.size (fun j hj => (kO.lt j hj).1)
                    refine hK.out _ _ (HKP.out _ hB2) (fun hNext => ?_)
                    clear hK K hHeld
                    have hHeld := hNext
                    clear hNext
                    rw [Nat.zero_add, List.nil_append] at kO2
                    clear hB kO hgr
                    have hB := hB2
                    clear hB2
                    have kO := kO2
                    clear kO2
                    try simp only [Act.put, List.setIfInBounds_toArray, List.set_cons_zero, List.set_cons_succ]
                    refine wpAnyH_ready (rs := [9]) (by kernel_rfl) (by simp) ?_
                    refine AllReadyH.cons (o := ⟨some 46, _, _, _, _, _⟩) rfl (fun K hK => ?_) AllReadyH.nil
                    go_simp
                    have hb := below1 u2 (.cells #[.int .i64 x] 3)
                    have hB2 := hB.trans (hb.mono hB.size)
                    refine hK.out _ _ (HKP.out _ hB2) (fun hNext => ?_)
                    have kN : Blk (u2.alloc (.cells #[.int .i64 x] 3)) u2.heap.size 3 #[.int .i64 x] := Blk.new u2 _ _
                    replace kO := own_on kO hb
                    clear hK K hHeld
                    have hHeld := hNext
                    clear hNext
                    clear hB
                    have hB := hB2
                    clear hB2 hb
                    generalize hgen : (u2.alloc (.cells #[.int .i64 x] 3)) = u3 at hHeld hB kN kO ⊢
                    clear hgen
                    generalize hgen : u2.heap.size = bN at kN  ⊢
                    clear hgen
                    try simp only [Act.put, List.setIfInBounds_toArray, List.set_cons_zero, List.set_cons_succ]
                    refine wpAnyH_ready (rs := [10]) (by kernel_rfl) (by simp) ?_
                    refine AllReadyH.cons (o := ⟨some 47, _, _, _, _, _⟩) rfl (fun K hK => ?_) AllReadyH.nil
                    have SR : Src u3 1 (.slice (some ⟨bN, 0, none⟩) 1 1) 1 [.int .i64 x] := src_bk kN
                    refine step_app _ rfl (.tmp 41) (.tmp 46) 22 rfl wb.heap.size 3 ic _ 1 8 Try.underlying22 hic hcz0 hcz1 hcz2 rfl (by decide) (v2) a (iv (F.take a)) rfl kO (.slice (some ⟨bN, 0, none⟩) 1 1) 1 [.int .i64 x] rfl (SR) (by unfold maxLen; omega) (by omega) hB.size ?_
                    intro v3 u4 kO2 hgr
                    have hB2 := hB.grown hgr hB.size (fun j hj => (kO.lt j hj).1)
                    refine hK.out _ _ (HKP.out _ hB2) (fun hNext => ?_)
                    clear hK K hHeld
                    have hHeld := hNext
                    clear hNext
                    clear hB kO hgr SR kN
                    have hB := hB2
                    clear hB2
                    have kO := kO2
                    clear kO2
                    try simp only [Act.put, List.setIfInBounds_toArray, List.set_cons_zero, List.set_cons_succ]
                    refine wpAnyH_ready (rs := [14]) (by kernel_rfl) (by simp) ?_
                    refine AllReadyH.cons (o := ⟨some 51, _, _, _, _, _⟩) rfl (fun K hK => ?_) AllReadyH.nil
                    refine step_app _ rfl (.tmp 47) (.tmp 50) 22 rfl wb.heap.size 3 ic _ 1 8 Try.underlying22 hic hcz0 hcz1 hcz2 rfl (by decide) (v3) (a + 1) (iv (F.take a) ++ [.int .i64 x]) rfl kO (.slice (some ⟨g, a, none⟩) (F.length - a) (c - a)) (F.drop a).length (iv (F.drop a)) rfl (HS2.out _ hB) (by unfold maxLen; omega) (by omega) hB.size ?_
                    intro v4 u5 kO2 hgr
                    have hB2 := hB.grown hgr hB.size (fun j hj => (kO.lt j hj).1)
                    refine hK.out _ _ (HKP.out _ hB2) (fun hNext => ?_)
                    clear hK K hHeld
                    have hHeld := hNext
                    clear hNext
                    clear hB kO hgr
                    have hB := hB2
                    clear hB2
                    have kO := kO2
                    clear kO2
                    try simp only [Act.put, List.setIfInBounds_toArray, List.set_cons_zero, List.set_cons_succ]
                    refine wpAnyH_take (i := 15) (oi := ⟨some 3, _, _, _, _, _⟩) (v := ?vrb15_11) rfl (by kernel_rfl) (by kernel_rfl) (by kernel_rfl) (fun _ _ _ h => h) (Or.inl ⟨by rfl, ?yrb15_11⟩) hHeld ?rrb15_11
                    case yrb15_11 => (intro w' hSw; (try dsimp only at hSw); go_simp; try (with_reducible rfl))
                    simp only [Act.put, List.setIfInBounds_toArray, List.set_cons_zero, List.set_cons_succ]
                    refine wpAnyH_done (by kernel_rfl) ?_ _
                    rw [← hlen3, ← hcel3] at kO
                    obtain ⟨g2, c2, rfl⟩ := own_some kO (by rw [hlen3]; omega)
                    have HB4 := Lib.hid (HBb.out.trans (hB.mono HBb.out.size))
                    have HN4 : Hid (Nm u5 (.slice (some ⟨g2, 0, none⟩) (F.take a ++ x :: F.drop a).length c2) (setI (L.take (i + 1)))) := by
                      show Nm _ _ _
                      rw [hins.out]
                      exact own_Nm kO
                    clear hB kO hHeld HBb HNb HDb HKP HS1 HS2 hlen3 hcel3
                    generalize (F.take a ++ x :: F.drop a).length = n4 at HN4 ⊢
                    go_wp2
                    go_roundg (L.length - (i + 1))
                    case measure => omega
                    case rel => exact ⟨i + 1, g2, n4, c2, by omega, rfl, rfl, by go_num, HB4, HN4⟩
                  refine AllReadyH.cons (o := ⟨some 46, _, _, _, _, _⟩) rfl (fun K hK => ?_) AllReadyH.nil
                  go_simp
                  have hb := below1 u1 (.cells #[.int .i64 x] 3)
                  have hB2 := hB.trans (hb.mono hB.size)
                  refine hK.out _ _ (HKP.out _ hB2) (fun hNext => ?_)
                  have kN : Blk (u1.alloc (.cells #[.int .i64 x] 3)) u1.heap.size 3 #[.int .i64 x] := Blk.new u1 _ _
                  have hne : u1.heap.size ≠ bO := (Nat.ne_of_lt (kO.lt bO rfl).2).symm
                  replace kO := own_on kO hb
                  clear hK K hHeld
                  have hHeld := hNext
                  clear hNext
                  clear hB
                  have hB := hB2
                  clear hB2 hb
                  generalize hgen : (u1.alloc (.cells #[.int .i64 x] 3)) = u6 at hHeld hB kN kO ⊢
                  clear hgen
                  generalize hgen : u1.heap.size = bN at kN hne ⊢
                  clear hgen
                  try simp only [Act.put, List.setIfInBounds_toArray, List.set_cons_zero, List.set_cons_succ]
                  refine wpAnyH_ready (rs := [4]) (by kernel_rfl) (by simp) ?_
                  refine AllReadyH.cons (o := ⟨some 41, _, _, _, _, _⟩) rfl (fun K hK => ?_) AllReadyH.nil
                  refine step_app _ rfl (.tmp 37) (.tmp 40) 22 rfl wb.heap.size 3 ic _ 1 8 Try.underlying22 hic hcz0 hcz1 hcz2 rfl (by decide) (.slice (some ⟨bO, 0, none⟩) 0 0) 0 [] rfl kO (.slice (some ⟨g, 0, none⟩) a c) a (iv (F.take a)) rfl (HS1.out _ hB) (by unfold maxLen; omega) (by omega) hB.size ?_
                  intro v2 u7 kO2 hgr
                  have hB2 := hB.grown hgr hB.size (fun j hj => (kO.lt j hj).1)
                  refine hK.out _ _ (HKP.out _ hB2) (fun hNext => ?_)
                  clear hK K hHeld
                  have hHeld := hNext
                  clear hNext
                  replace kN := kN.grown hgr (by intro e; injection e with e; exact hne e)
                  rw [Nat.zero_add, List.nil_append] at kO2
                  clear hB kO hgr
                  have hB := hB2
                  clear hB2
                  have kO := kO2
                  clear kO2
                  try simp only [Act.put, List.setIfInBounds_toArray, List.set_cons_zero, List.set_cons_succ]
                  refine wpAnyH_ready (rs := [10]) (by kernel_rfl) (by simp) ?_
                  refine AllReadyH.cons (o := ⟨some 47, _, _, _, _, _⟩) rfl (fun K hK => ?_) AllReadyH.nil
                  have SR : Src u7 1 (.slice (some ⟨bN, 0, none⟩) 1 1) 1 [.int .i64 x] := src_bk kN
                  refine step_app _ rfl (.tmp 41) (.tmp 46) 22 rfl wb.heap.size 3 ic _ 1 8 Try.underlying22 hic hcz0 hcz1 hcz2 rfl (by decide) (v2) a (iv (F.take a)) rfl kO (.slice (some ⟨bN, 0, none⟩) 1 1) 1 [.int .i64 x] rfl (SR) (by unfold maxLen; omega) (by omega) hB.size ?_
                  intro v3 u8 kO2 hgr
                  have hB2 := hB.grown hgr hB.size (fun j hj => (kO.lt j hj).1)
                  refine hK.out _ _ (HKP.out _ hB2) (fun hNext => ?_)
                  clear hK K hHeld
                  have hHeld := hNext
                  clear hNext
                  clear hB kO hgr SR kN
                  have hB := hB2
                  clear hB2
                  have kO := kO2
                  clear kO2
                  try simp only [Act.put, List.setIfInBounds_toArray, List.set_cons_zero, List.set_cons_succ]
                  refine wpAnyH_ready (rs := [14]) (by kernel_rfl) (by simp) ?_
                  refine AllReadyH.cons (o := ⟨some 51, _, _, _, _, _⟩) rfl (fun K hK => ?_) AllReadyH.nil
                  refine step_app _ rfl (.tmp 47) (.tmp 50) 22 rfl wb.heap.size 3 ic _ 1 8 Try.underlying22 hic hcz0 hcz1 hcz2 rfl (by decide) (v3) (a + 1) (iv (F.take a) ++ [.int .i64 x]) rfl kO (.slice (some ⟨g, a, none⟩) (F.length - a) (c - a)) (F.drop a).length (iv (F.drop a)) rfl (HS2.out _ hB) (by unfold maxLen; omega) (by omega) hB.size ?_
                  intro v4 u9 kO2 hgr
                  have hB2 := hB.grown hgr hB.size (fun j hj => (kO.lt j hj).1)
                  refine hK.out _ _ (HKP.out _ hB2) (fun hNext => ?_)
                  clear hK K hHeld
                  have hHeld := hNext
                  clear hNext
                  clear hB kO hgr
                  have hB := hB2
                  clear hB2
                  have kO := kO2
                  clear kO2
                  try simp only [Act.put, List.setIfInBounds_toArray, List.set_cons_zero, List.set_cons_succ]
                  refine wpAnyH_take (i := 15) (oi := ⟨some 3, _, _, _, _, _⟩) (v := ?vrb15_12) rfl (by kernel_rfl) (by kernel_rfl) (by kernel_rfl) (fun _ _ _ h => h) (Or.inl ⟨by rfl, ?yrb15_12⟩) hHeld ?rrb15_12
                  case yrb15_12 => (intro w' hSw; (try dsimp only at hSw); go_simp; try (with_reducible rfl))
                  simp only [Act.put, List.setIfInBounds_toArray, List.set_cons_zero, List.set_cons_succ]
                  refine wpAnyH_done (by kernel_rfl) ?_ _
                  rw [← hlen3, ← hcel3] at kO
                  obtain ⟨g2, c2, rfl⟩ := own_some kO (by rw [hlen3]; omega)
                  have HB4 := Lib.hid (HBb.out.trans (hB.mono HBb.out.size))
                  have HN4 : Hid (Nm u9 (.slice (some ⟨g2, 0, none⟩) (F.take a ++ x :: F.drop a).length c2) (setI (L.take (i + 1)))) := by
                    show Nm _ _ _
                    rw [hins.out]
                    exact own_Nm kO
                  clear hB kO hHeld HBb HNb HDb HKP HS1 HS2 hlen3 hcel3
                  generalize (F.take a ++ x :: F.drop a).length = n4 at HN4 ⊢
                  go_wp2
                  go_roundg (L.length - (i + 1))
                  case measure => omega
                  case rel => exact ⟨i + 1, g2, n4, c2, by omega, rfl, rfl, by go_num, HB4, HN4⟩
                refine AllReadyH.cons (o := ⟨some 46, _, _, _, _, _⟩) rfl (fun K hK => ?_) AllReadyH.nil
                go_simp
                have hb := below1 u0 (.cells #[.int .i64 x] 3)
                have hB2 := hB.trans (hb.mono hB.size)
                refine hK.out _ _ (HKP.out _ hB2) (fun hNext => ?_)
                have kN : Blk (u0.alloc (.cells #[.int .i64 x] 3)) u0.heap.size 3 #[.int .i64 x] := Blk.new u0 _ _
                clear hK K hHeld
                have hHeld := hNext
                clear hNext
                clear hB
                have hB := hB2
                clear hB2 hb
                generalize hgen : (u0.alloc (.cells #[.int .i64 x] 3)) = u10 at hHeld hB kN  ⊢
                clear hgen
                generalize hgen : u0.heap.size = bN at kN  ⊢
                clear hgen
                try simp only [Act.put, List.setIfInBounds_toArray, List.set_cons_zero, List.set_cons_succ]
                refine wpAnyH_ready (rs := [0]) (by kernel_rfl) (by simp) ?_
                refine AllReadyH.cons (o := ⟨some 37, _, _, _, _, _⟩) rfl (fun K hK => ?_) AllReadyH.nil
                go_simp
                have hb := below1 u10 (.cells #[] 3)
                have hB2 := hB.trans (hb.mono hB.size)
                refine hK.out _ _ (HKP.out _ hB2) (fun hNext => ?_)
                have kO : (u10.alloc (.cells #[] 3)).ownsRow wb.heap.size 3 1 (.slice (some ⟨u10.heap.size, 0, none⟩) 0 0) 0 [] := World.ownsRow_made u10 #[] 0 hB.size (Nat.zero_le _) rfl
                have hne : bN ≠ u10.heap.size := Nat.ne_of_lt kN.lt
                replace kN := kN.on hb
                clear hK K hHeld
                have hHeld := hNext
                clear hNext
                clear hB
                have hB := hB2
                clear hB2 hb
                generalize hgen : (u10.alloc (.cells #[] 3)) = u11 at hHeld hB kO kN ⊢
                clear hgen
                generalize hgen : u10.heap.size = bO at kO hne ⊢
                clear hgen
                try simp only [Act.put, List.setIfInBounds_toArray, List.set_cons_zero, List.set_cons_succ]
                refine wpAnyH_ready (rs := [4]) (by kernel_rfl) (by simp) ?_
                refine AllReadyH.cons (o := ⟨some 41, _, _, _, _, _⟩) rfl (fun K hK => ?_) AllReadyH.nil
                refine step_app _ rfl (.tmp 37) (.tmp 40) 22 rfl wb.heap.size 3 ic _ 1 8 Try.underlying22 hic hcz0 hcz1 hcz2 rfl (by decide) (.slice (some ⟨bO, 0, none⟩) 0 0) 0 [] rfl kO (.slice (some ⟨g, 0, none⟩) a c) a (iv (F.take a)) rfl (HS1.out _ hB) (by unfold maxLen; omega) (by omega) hB.size ?_
                intro v2 u12 kO2 hgr
                have hB2 := hB.grown hgr hB.size (fun j hj => (kO.lt j hj).1)
                refine hK.out _ _ (HKP.out _ hB2) (fun hNext => ?_)
                clear hK K hHeld
                have hHeld := hNext
                clear hNext
                replace kN := kN.grown hgr (by intro e; injection e with e; exact hne e)
                rw [Nat.zero_add, List.nil_append] at kO2
                clear hB kO hgr
                have hB := hB2
                clear hB2
                have kO := kO2
                clear kO2
                try simp only [Act.put, List.setIfInBounds_toArray, List.set_cons_zero, List.set_cons_succ]
                refine wpAnyH_ready (rs := [10]) (by kernel_rfl) (by simp) ?_
                refine AllReadyH.cons (o := ⟨some 47, _, _, _, _, _⟩) rfl (fun K hK => ?_) AllReadyH.nil
                have SR : Src u12 1 (.slice (some ⟨bN, 0, none⟩) 1 1) 1 [.int .i64 x] := src_bk kN
                refine step_app _ rfl (.tmp 41) (.tmp 46) 22 rfl wb.heap.size 3 ic _ 1 8 Try.underlying22 hic hcz0 hcz1 hcz2 rfl (by decide) (v2) a (iv (F.take a)) rfl kO (.slice (some ⟨bN, 0, none⟩) 1 1) 1 [.int .i64 x] rfl (SR) (by unfold maxLen; omega) (by omega) hB.size ?_
                intro v3 u13 kO2 hgr
                have hB2 := hB.grown hgr hB.size (fun j hj => (kO.lt j hj).1)
                refine hK.out _ _ (HKP.out _ hB2) (fun hNext => ?_)
                clear hK K hHeld
                have hHeld := hNext
                clear hNext
                clear hB kO hgr SR kN
                have hB := hB2
                clear hB2
                have kO := kO2
                clear kO2
                try simp only [Act.put, List.setIfInBounds_toArray, List.set_cons_zero, List.set_cons_succ]
                refine wpAnyH_ready (rs := [14]) (by kernel_rfl) (by simp) ?_
                refine AllReadyH.cons (o := ⟨some 51, _, _, _, _, _⟩) rfl (fun K hK => ?_) AllReadyH.nil
                refine step_app _ rfl (.tmp 47) (.tmp 50) 22 rfl wb.heap.size 3 ic _ 1 8 Try.underlying22 hic hcz0 hcz1 hcz2 rfl (by decide) (v3) (a + 1) (iv (F.take a) ++ [.int .i64 x]) rfl kO (.slice (some ⟨g, a, none⟩) (F.length - a) (c - a)) (F.drop a).length (iv (F.drop a)) rfl (HS2.out _ hB) (by unfold maxLen; omega) (by omega) hB.size ?_
                intro v4 u14 kO2 hgr
                have hB2 := hB.grown hgr hB.size (fun j hj => (kO.lt j hj).1)
                refine hK.out _ _ (HKP.out _ hB2) (fun hNext => ?_)
                clear hK K hHeld
                have hHeld := hNext
                clear hNext
                clear hB kO hgr
                have hB := hB2
                clear hB2
                have kO := kO2
                clear kO2
                try simp only [Act.put, List.setIfInBounds_toArray, List.set_cons_zero, List.set_cons_succ]
                refine wpAnyH_take (i := 15) (oi := ⟨some 3, _, _, _, _, _⟩) (v := ?vrb15_13) rfl (by kernel_rfl) (by kernel_rfl) (by kernel_rfl) (fun _ _ _ h => h) (Or.inl ⟨by rfl, ?yrb15_13⟩) hHeld ?rrb15_13
                case yrb15_13 => (intro w' hSw; (try dsimp only at hSw); go_simp; try (with_reducible rfl))
                simp only [Act.put, List.setIfInBounds_toArray, List.set_cons_zero, List.set_cons_succ]
                refine wpAnyH_done (by kernel_rfl) ?_ _
                rw [← hlen3, ← hcel3] at kO
                obtain ⟨g2, c2, rfl⟩ := own_some kO (by rw [hlen3]; omega)
                have HB4 := Lib.hid (HBb.out.trans (hB.mono HBb.out.size))
                have HN4 : Hid (Nm u14 (.slice (some ⟨g2, 0, none⟩) (F.take a ++ x :: F.drop a).length c2) (setI (L.take (i + 1)))) := by
                  show Nm _ _ _
                  rw [hins.out]
                  exact own_Nm kO
                clear hB kO hHeld HBb HNb HDb HKP HS1 HS2 hlen3 hcel3
                generalize (F.take a ++ x :: F.drop a).length = n4 at HN4 ⊢
                go_wp2
                go_roundg (L.length - (i + 1))
                case measure => omega
                case rel => exact ⟨i + 1, g2, n4, c2, by omega, rfl, rfl, by go_num, HB4, HN4⟩
      · have hltz : ¬ (i : Int) < (L.length : Int) := by omega
        have HN2 : Hid (Nm wr (.slice (some ⟨g, 0, none⟩) n c) (setI L)) := by
          have := HN.out
          rw [List.take_of_length_le (by omega)] at this
          exact this
        go_wp2
        go_ret
        exact ⟨_, rfl, HN2.out, HB.out⟩
end Go.Proofs

namespace Go.Proofs
open Go.RowKit Go.Proofs.Hd Go.Lib Go.Sort
attribute [local go_sem] uv_nonneg
set_option maxRecDepth 100000 in
theorem growI_c (n : Nat) (w : World) (hl : n ≤ 35184372088832) (h0 : 0 < n) : Calls Try.prog 29 #[.slice none 0 0, .int .i64 (n : Int)] w fun e w' => ∃ cap, e = .returned (.slice (some ⟨w.heap.size, 0, none⟩) 0 cap) ∧ n ≤ cap ∧ w'.ownsRow w.heap.size 3 1 (.slice (some ⟨w.heap.size, 0, none⟩) 0 cap) 0 [] ∧ Below w.heap.size w w' := by
  have hz : (n : Int) ≤ 35184372088832 := by omega
  have hpz : (0 : Int) < (n : Int) := by omega
  obtain ⟨ic, hic, hcz0, hcz1, hcz2⟩ := info_parts info_int
  have hr := fun ty => run_append_nil_zeros w 22 3 ty 3 ic _ .i64 .i64 Try.underlying22 Try.underlying3 hic hcz0 n (by omega) (by omega) (by omega) (by rw [hcz2]; omega)
  have hcap : n ≤ grownCap w n 0 3 ∧ grownCap w n 0 3 ≤ maxLen := ⟨grownCap_ge _ _ _ _, grownCap_le_maxLen _ _ _ _ (by unfold maxLen; omega)⟩
  generalize grownCap w n 0 3 = cap at hr hcap
  have O : (w.drew.alloc (.cells (Builtin.zeroCells (Value.int .i64 0).cells n ++ Builtin.zeroCells (Value.int .i64 0).cells (cap - n)) 3)).ownsRow w.heap.size 3 1 (.slice (some ⟨w.heap.size, 0, none⟩) 0 cap) 0 [] :=
    World.ownsRow_made (base := w.heap.size) (e := 3) (size := 1) w.drew _ cap (Nat.le_refl _) hcap.2 (by rw [Array.size_append, size_zeroCells, size_zeroCells, ← Nat.add_mul, show n + (cap - n) = cap by omega]; rfl)
  have B := (Below.refl w.heap.size w).drew.alloc (Nat.le_refl _) (.cells (Builtin.zeroCells (Value.int .i64 0).cells n ++ Builtin.zeroCells (Value.int .i64 0).cells (cap - n)) 3)
  have hcz := hcap.1
  have HO := Lib.hid O
  have HB := Lib.hid B
  clear O B
  go_enter Try.func29, Try.ntmps29
  go_wp2_with (at_builtin; refine Lib.wpList_append_run _ rfl _ _ _ _ rfl _ _ rfl rfl _ _ (hr _) ?_)
  go_wp2
  go_ret
  exact ⟨cap, rfl, hcz, HO.out, HB.out⟩
theorem growI_0 (w : World) : Calls Try.prog 29 #[.slice none 0 0, .int .i64 0] w fun e w' => e = .returned (.slice none 0 0) ∧ w' = w := by
  go_enter Try.func29, Try.ntmps29
  go_wp2
  go_ret
  exact ⟨rfl, rfl⟩
set_option maxHeartbeats 1000000 in
set_option maxRecDepth 100000 in
theorem iconcat_c (a b : Value) (A B : List Int) (g : Nat) (w : World) (hl : A.length ≤ 17592186044416) (hm : B.length ≤ 17592186044416) (ha : Nm w a A) (hb : Nm w b B) (hg : w.cell? ⟨g, 0, none⟩ = some a ∧ w.cell? ⟨g, 1, none⟩ = some b) :
    Calls Try.prog 20 #[.slice (some ⟨g, 0, none⟩) 2 2] w (GotN w (A ++ B)) := by
  obtain ⟨ic, hic, hcz0, hcz1, hcz2⟩ := info_parts info_int
  have hlz : (A.length : Int) ≤ 17592186044416 := by omega
  have hmz : (B.length : Int) ≤ 17592186044416 := by omega
  have HA := Lib.hid ha
  have HB := Lib.hid hb
  obtain ⟨A1, c1, rfl, _, _, _⟩ := ha
  obtain ⟨A2, c2, rfl, _, _, _⟩ := hb
  have HG := Lib.hid hg
  obtain ⟨g0, g1⟩ := hg
  by_cases h0 : A.length + B.length = 0
  · have eA : A = [] := List.eq_nil_of_length_eq_zero (by omega)
    have eB : B = [] := List.eq_nil_of_length_eq_zero (by omega)
    subst eA eB
    have hcon := growI_0 w
    clear h0
    have O0 := World.ownsRow_nil w w.heap.size 3 1
    have hs1 := HA.out.src
    go_enter Try.func20, Try.ntmps20
    go_wp2
    refine wp_loop_rounds 3 ?_
    rw [rounds_succ]
    go_wp2
    rw [rounds_succ]
    go_wp2
    rw [rounds_succ]
    go_wp2_with (go_at_call 29; refine hcon.mono ?_; rintro e w1 ⟨rfl, rfl⟩)
    clear hcon
    refine wp_loop_rounds 3 ?_
    rw [rounds_succ]
    go_wp2_with (at_builtin; refine wpList_app _ rfl (.tmp 31) (.tmp 32) 22 rfl w1.heap.size 3 ic _ 1 8 Try.underlying22 hic hcz0 hcz1 hcz2 rfl (by decide) _ 0 [] rfl O0 _ 0 [] rfl hs1 (by unfold maxLen; omega) (by omega) (Nat.le_refl _) ?_)
    intro v2 w2 O2 hg2
    have B2 := (Below.refl w1.heap.size w1).grown hg2 (Nat.le_refl _) (fun j hj => by simp [Value.ownBlock] at hj)
    have hz2 := B2.size
    clear O0 hs1 hg2 g0 g1
    have g0 := on_some B2 HG.out.1
    have g1 := on_some B2 HG.out.2
    go_wp2
    rw [rounds_succ]
    have hs2 := (HB.out.on B2).src
    go_wp2_with (at_builtin; refine wpList_app _ rfl (.tmp 31) (.tmp 32) 22 rfl w1.heap.size 3 ic _ 1 8 Try.underlying22 hic hcz0 hcz1 hcz2 rfl (by decide) _ 0 [] rfl O2 _ 0 [] rfl hs2 (by unfold maxLen; omega) (by omega) hz2 ?_)
    intro v3 w3 O3 hg3
    have B3 := Lib.hid (B2.grown hg3 hz2 (fun j hj => (O2.lt j hj).1))
    have N3 : Hid (Nm w3 v3 []) := own_Nm (n := 0) (by simpa [iv] using O3)
    clear O2 hs2 hg3 B2 g0 g1 O3
    go_wp2
    rw [rounds_succ]
    go_wp2
    go_ret
    exact ⟨_, rfl, N3.out, B3.out⟩
  · have HS : Hid (A.length + B.length ≤ 35184372088832) := by show _ ≤ _; omega
    have hcon := growI_c (A.length + B.length) w HS.out (by omega)
    rw [show ((A.length + B.length : Nat) : Int) = (A.length : Int) + (B.length : Int) by omega] at hcon
    have HZ := Lib.hid h0
    clear HS h0
    go_enter Try.func20, Try.ntmps20
    go_wp2
    refine wp_loop_rounds 3 ?_
    rw [rounds_succ]
    go_wp2
    rw [rounds_succ]
    go_wp2
    rw [rounds_succ]
    go_wp2_with (go_at_call 29; refine hcon.mono ?_; rintro e w1 ⟨cap, rfl, hcap, O1, B1⟩)
    clear hcon
    replace g0 := on_some B1 HG.out.1
    replace g1 := on_some B1 HG.out.2
    have hz1 := B1.size
    have HC := Lib.hid hcap
    clear hcap
    refine wp_loop_rounds 3 ?_
    rw [rounds_succ]
    have hs1 := (HA.out.on B1).src
    generalize hgg : w.heap.size = gg at O1 ⊢
    have HGG := Lib.hid hgg
    clear hgg
    go_wp2_with (at_builtin; refine wpList_fit _ rfl (.tmp 31) (.tmp 32) 22 rfl gg 3 ic 1 Try.underlying22 hic hcz1 gg 0 cap [] rfl O1 _ A.length (iv A) rfl hs1 (by have := HC.out; omega) ?_)
    intro w2 O2 hg2
    have B2 := B1.grown hg2 hz1 (fun j hj => by have := HGG.out; simp at hj; omega)
    have hz2 := B2.size
    clear O1 hs1 hg2 B1 g0 g1
    have g0 := on_some B2 HG.out.1
    have g1 := on_some B2 HG.out.2
    go_wp2
    rw [rounds_succ]
    have hs2 := (HB.out.on B2).src
    go_wp2_with (at_builtin; refine wpList_fit _ rfl (.tmp 31) (.tmp 32) 22 rfl gg 3 ic 1 Try.underlying22 hic hcz1 gg A.length cap (iv A) rfl (by simpa using O2) _ B.length (iv B) rfl hs2 (by have := HC.out; omega) ?_)
    intro w3 O3 hg3
    have B3 := Lib.hid (B2.grown hg3 hz2 (fun j hj => by have := HGG.out; simp at hj; omega))
    have N3 : Hid (Nm w3 (.slice (some ⟨gg, 0, none⟩) (A.length + B.length) cap) (A ++ B)) := own_Nm (n := A.length + B.length) (by rw [← iv_app]; exact O3)
    clear O2 hs2 hg3 B2 g0 g1 O3
    go_wp2
    rw [rounds_succ]
    go_wp2
    go_ret
    exact ⟨_, rfl, N3.out, B3.out⟩
set_option maxHeartbeats 2000000 in
theorem icompare_c (v u : Value) (A B : List Int) (w : World) (hl : A.length ≤ 17592186044416) (hm : B.length ≤ 17592186044416) (ha : Nm w v A) (hb : Nm w u B) : Calls Try.prog 25 #[v, u] w fun e w' => e = .returned (.int .i64 (lexI A B)) ∧ Below w.heap.size w w' := by
  obtain ⟨A1, c1, rfl, _, _, h3⟩ := ha
  obtain ⟨A2, c2, rfl, _, _, h4⟩ := hb
  have hlz : (A.length : Int) ≤ 17592186044416 := by omega
  have hmz : (B.length : Int) ≤ 17592186044416 := by omega
  obtain ⟨r, hr⟩ : ∃ r, lexI A B = r := ⟨_, rfl⟩
  rw [hr]
  have HR := Lib.hid hr
  have H3 := Lib.hid h3
  have H4 := Lib.hid h4
  clear hr h3 h4
  go_enter Try.func25, Try.ntmps25
  go_wp2
  go_loopg [11] A.length (fun gk s11 wr => ∃ k : Nat, k ≤ A.length ∧ gk = A.length - k ∧ s11 = .int .i64 k ∧ Hid (Below w.heap.size w wr) ∧ Hid (lexI (A.drop k) (B.drop k) = r))
  case atStart => exact ⟨0, Nat.zero_le _, rfl, rfl, Below.refl _ _, HR.out⟩
  case round =>
    obtain ⟨k, hk, rfl, rfl, HB, HI⟩ := hrel
    by_cases hlt : k < A.length
    · have hltz : (k : Int) < (A.length : Int) := by omega
      obtain ⟨x, hx⟩ : ∃ x, A[k]? = some x := ⟨_, List.getElem?_eq_getElem hlt⟩
      obtain ⟨b1, o1, e1, hb1, hc1⟩ := (show ∃ b o, A1 = some ⟨b, o, none⟩ ∧ b < w.heap.size ∧ ∀ (k : Nat) (x : Int), A[k]? = some x → w.cell? ⟨b, o + k, none⟩ = some (.int .i64 x) from by
        rcases H3.out with h | h
        · subst h; simp at hlt
        · exact h)
      have d1 := on_some HB.out (hc1 k x hx)
      clear hc1
      subst e1
      have HX := Lib.hid hx
      clear hx
      by_cases hkb : k < B.length
      · have hkz : (k : Int) < (B.length : Int) := by omega
        have hkd : decide ((B.length : Int) ≤ (k : Int)) = false := by simp; omega
        obtain ⟨y, hy⟩ : ∃ y, B[k]? = some y := ⟨_, List.getElem?_eq_getElem hkb⟩
        obtain ⟨b2, o2, e2, hb2, hc2⟩ := (show ∃ b o, A2 = some ⟨b, o, none⟩ ∧ b < w.heap.size ∧ ∀ (k : Nat) (x : Int), B[k]? = some x → w.cell? ⟨b, o + k, none⟩ = some (.int .i64 x) from by
          rcases H4.out with h | h
          · subst h; simp at hkb
          · exact h)
        have d2 := on_some HB.out (hc2 k y hy)
        clear hc2
        subst e2
        have HY := Lib.hid hy
        clear hy
        have st := Lib.hid (lexI_drop HX.out HY.out)
        by_cases h1 : x < y
        · have hcon := cmpI_g x y (-1) wr (by unfold icmp; rw [if_pos h1])
          have hr : Hid (r = -1) := by
            have := st.out
            rw [HI.out, if_pos h1] at this
            exact this
          have E := Lib.hid h1
          clear h1
          go_wp2_with fail
          (with_reducible refine hcon.mono ?_)
          rintro e w2 ⟨rfl, hg⟩
          have B2 := Lib.hid (HB.out.trans (hg.below.mono HB.out.size))
          clear hg d1 d2
          go_wp2
          go_ret
          exact ⟨by rw [hr.out]; rfl, B2.out⟩
        · by_cases h2 : y < x
          · have hcon := cmpI_g x y 1 wr (by unfold icmp; rw [if_neg h1, if_pos h2])
            have hr : Hid (r = 1) := by
              have := st.out
              rw [HI.out, if_neg h1, if_pos h2] at this
              exact this
            have E := Lib.hid h1
            have E2 := Lib.hid h2
            clear h1 h2
            go_wp2_with fail
            (with_reducible refine hcon.mono ?_)
            rintro e w2 ⟨rfl, hg⟩
            have B2 := Lib.hid (HB.out.trans (hg.below.mono HB.out.size))
            clear hg d1 d2
            go_wp2
            go_ret
            exact ⟨by rw [hr.out]; rfl, B2.out⟩
          · have hcon := cmpI_g x y 0 wr (by unfold icmp; rw [if_neg h1, if_neg h2])
            have hr : Hid (lexI (A.drop (k + 1)) (B.drop (k + 1)) = r) := by
              have := st.out
              rw [HI.out, if_neg h1, if_neg h2] at this
              exact this.symm
            have E := Lib.hid h1
            have E2 := Lib.hid h2
            clear h1 h2
            go_wp2_with fail
            (with_reducible refine hcon.mono ?_)
            rintro e w2 ⟨rfl, hg⟩
            have B2 := Lib.hid (HB.out.trans (hg.below.mono HB.out.size))
            clear hg d1 d2
            go_wp2
            go_roundg (A.length - (k + 1))
            case measure => omega
            case rel => exact ⟨k + 1, by omega, rfl, by go_num, B2, hr⟩
      · have hkz : ¬ (k : Int) < (B.length : Int) := by omega
        have hkd : decide ((B.length : Int) ≤ (k : Int)) = true := by simp; omega
        have hr : Hid (r = 1) := by
          have := lexI_right (A := A) (B := B) hlt (by omega)
          rw [HI.out] at this
          exact this
        go_wp2
        go_ret
        exact ⟨by rw [hr.out]; rfl, HB.out⟩
    · have hltz : ¬ (k : Int) < (A.length : Int) := by omega
      by_cases hab : A.length < B.length
      · have habz : (A.length : Int) < (B.length : Int) := by omega
        have hr : Hid (r = -1) := by
          have := lexI_left (A := A) (B := B) (i := k) (by omega) (by omega)
          rw [HI.out] at this
          exact this
        go_wp2
        go_ret
        exact ⟨by rw [hr.out]; rfl, HB.out⟩
      · have habz : ¬ (A.length : Int) < (B.length : Int) := by omega
        have hr : Hid (r = 0) := by
          have := lexI_both (A := A) (B := B) (i := k) (by omega) (by omega)
          rw [HI.out] at this
          exact this
        go_wp2
        go_ret
        exact ⟨by rw [hr.out]; rfl, HB.out⟩
theorem idjoin_c (v u : Value) (A B : List Int) (w : World) (hl : A.length ≤ 17592186044416) (hm : B.length ≤ 17592186044416) (ha : Nm w v A) (hb : Nm w u B) : Calls Try.prog 13 #[v, u] w (GotN w (joinI A B)) := by
  have HA := Lib.hid ha
  have HB := Lib.hid hb
  obtain ⟨A1, c1, rfl, _, _, _⟩ := ha
  obtain ⟨A2, c2, rfl, _, _, _⟩ := hb
  have B0 := below1 w (.cells #[.slice A1 A.length c1, .slice A2 B.length c2] 22)
  have K := Blk.new w 22 #[.slice A1 A.length c1, .slice A2 B.length c2]
  have hcon := iconcat_c _ _ A B w.heap.size _ hl hm (HA.out.on B0) (HB.out.on B0) ⟨by rw [K.cell]; rfl, by rw [K.cell]; rfl⟩
  have HB0 := Lib.hid B0
  have HL := Lib.hid (And.intro hl hm)
  clear B0 K hl hm
  go_enter Try.func13, Try.ntmps13
  go_wp2_with fail
  (with_reducible refine hcon.mono ?_)
  rintro e w2 ⟨v2, rfl, hn, hb⟩
  have hmk := idmake_c v2 (A ++ B) w2 (by have := HL.out; rw [List.length_append]; omega) hn
  have B2 := Lib.hid (HB0.out.trans (hb.mono HB0.out.size))
  clear hcon hn hb
  go_wp2_with fail
  (with_reducible refine hmk.mono ?_)
  rintro e w3 ⟨v3, rfl, hn, hb⟩
  have N3 := Lib.hid hn
  have B3 := Lib.hid (B2.out.trans (hb.mono B2.out.size))
  clear hmk hn hb
  go_wp2
  go_ret
  exact ⟨v3, rfl, N3.out, B3.out⟩
theorem idmeet_c (v u : Value) (A B : List Int) (w : World) (hl : A.length ≤ 17592186044416) (hm : B.length ≤ 17592186044416) (ha : Nm w v A) (hb : Nm w u B) : Calls Try.prog 14 #[v, u] w (GotN w (meetI A B)) := by
  have hcon := idset_c v A w hl ha
  have HB := Lib.hid hb
  have HL := Lib.hid (And.intro hl hm)
  clear ha hb hl hm
  go_enter Try.func14, Try.ntmps14
  go_wp2_with fail
  (with_reducible refine hcon.mono ?_)
  rintro e w1 ⟨v1, rfl, hn, hb1⟩
  have hcon2 := idset_c u B w1 HL.out.2 (HB.out.on hb1)
  have N1 := Lib.hid hn
  have B1 := Lib.hid hb1
  clear hcon hn hb1
  go_wp2_with fail
  (with_reducible refine hcon2.mono ?_)
  rintro e w2 ⟨v2, rfl, hn, hb⟩
  have hcon3 := onlyh_c v1 v2 (setI A) (setI B) (meetI A B) w2 (Nat.le_trans (setI_len A) HL.out.1) (Nat.le_trans (setI_len B) HL.out.2) (inc_setI B) (by unfold meetI; congr 1; funext x; rw [decide_eq_decide]; exact mem_setI) (N1.out.on hb) hn
  have B2 := Lib.hid (B1.out.trans (hb.mono B1.out.size))
  clear hcon2 hn hb
  go_wp2_with fail
  (with_reducible refine hcon3.mono ?_)
  rintro e w3 ⟨v3, rfl, hn, hb⟩
  have N3 := Lib.hid hn
  have B3 := Lib.hid (B2.out.trans (hb.mono B2.out.size))
  clear hcon3 hn hb
  go_wp2
  go_ret
  exact ⟨v3, rfl, N3.out, B3.out⟩
theorem idless_c (v u : Value) (A B : List Int) (w : World) (hl : A.length ≤ 17592186044416) (hm : B.length ≤ 17592186044416) (ha : Nm w v A) (hb : Nm w u B) : Calls Try.prog 15 #[v, u] w (GotN w (diffI A B)) := by
  have hcon := idset_c v A w hl ha
  have HB := Lib.hid hb
  have HL := Lib.hid (And.intro hl hm)
  clear ha hb hl hm
  go_enter Try.func15, Try.ntmps15
  go_wp2_with fail
  (with_reducible refine hcon.mono ?_)
  rintro e w1 ⟨v1, rfl, hn, hb1⟩
  have hcon2 := idset_c u B w1 HL.out.2 (HB.out.on hb1)
  have N1 := Lib.hid hn
  have B1 := Lib.hid hb1
  clear hcon hn hb1
  go_wp2_with fail
  (with_reducible refine hcon2.mono ?_)
  rintro e w2 ⟨v2, rfl, hn, hb⟩
  have hcon3 := onlyl_c v1 v2 (setI A) (setI B) (diffI A B) w2 (Nat.le_trans (setI_len A) HL.out.1) (Nat.le_trans (setI_len B) HL.out.2) (inc_setI B) (by unfold diffI; congr 1; funext x; congr 1; rw [decide_eq_decide]; exact mem_setI) (N1.out.on hb) hn
  have B2 := Lib.hid (B1.out.trans (hb.mono B1.out.size))
  clear hcon2 hn hb
  go_wp2_with fail
  (with_reducible refine hcon3.mono ?_)
  rintro e w3 ⟨v3, rfl, hn, hb⟩
  have N3 := Lib.hid hn
  have B3 := Lib.hid (B2.out.trans (hb.mono B2.out.size))
  clear hcon3 hn hb
  go_wp2
  go_ret
  exact ⟨v3, rfl, N3.out, B3.out⟩
theorem idcomp_c (v u : Value) (A B : List Int) (w : World) (hl : A.length ≤ 17592186044416) (hm : B.length ≤ 17592186044416) (ha : Nm w v A) (hb : Nm w u B) : Calls Try.prog 16 #[v, u] w fun e w' => e = .returned (.int .i64 (lexI (setI A) (setI B))) ∧ Below w.heap.size w w' := by
  have hcon := idset_c v A w hl ha
  have HB := Lib.hid hb
  have HL := Lib.hid (And.intro hl hm)
  clear ha hb hl hm
  go_enter Try.func16, Try.ntmps16
  go_wp2_with fail
  (with_reducible refine hcon.mono ?_)
  rintro e w1 ⟨v1, rfl, hn, hb1⟩
  have hcon2 := idset_c u B w1 HL.out.2 (HB.out.on hb1)
  have N1 := Lib.hid hn
  have B1 := Lib.hid hb1
  clear hcon hn hb1
  go_wp2_with fail
  (with_reducible refine hcon2.mono ?_)
  rintro e w2 ⟨v2, rfl, hn, hb⟩
  have hcon3 := icompare_c v1 v2 (setI A) (setI B) w2 (Nat.le_trans (setI_len A) HL.out.1) (Nat.le_trans (setI_len B) HL.out.2) (N1.out.on hb) hn
  have B2 := Lib.hid (B1.out.trans (hb.mono B1.out.size))
  clear hcon2 hn hb
  go_wp2_with fail
  (with_reducible refine hcon3.mono ?_)
  rintro e w3 ⟨rfl, hb⟩
  have B3 := Lib.hid (B2.out.trans (hb.mono B2.out.size))
  clear hcon3 hb
  go_wp2
  go_ret
  exact ⟨rfl, B3.out⟩
end Go.Proofs

namespace Go.Proofs.Hd
open Go.RowKit
theorem Nm.lit (w : World) (L : List Int) (t : TypeId) (hl : L.length ≤ maxLen) : Nm (w.alloc (.cells (iv L).toArray t)) (.slice (some ⟨w.heap.size, 0, none⟩) L.length L.length) L := by
  refine ⟨_, _, rfl, Nat.le_refl _, hl, .inr ⟨_, _, rfl, by simp, fun k x hk => ?_⟩⟩
  rw [(Blk.new w t (iv L).toArray).cell, Nat.zero_add]
  simp [iv, hk]
theorem Nm.form {w : World} {v : Value} {L : List Int} (h : Nm w v L) {n : Nat} (hn : L.length = n) : ∃ A c, v = .slice A n c := by
  obtain ⟨A, c, e, _⟩ := h
  exact ⟨A, c, by rw [e, hn]⟩
theorem Nm.at {w : World} {v : Value} {L : List Int} (h : Nm w v L) {n : Nat} (hn : L.length = n) (h0 : 0 < n) : ∃ b o c, v = .slice (some ⟨b, o, none⟩) n c ∧ ∀ (k : Nat) (x : Int), L[k]? = some x → w.cell? ⟨b, o + k, none⟩ = some (.int .i64 x) := by
  obtain ⟨A, c, e, _, _, h3⟩ := h
  rcases h3 with rfl | ⟨b, o, rfl, _, hc⟩
  · simp at hn; omega
  · exact ⟨b, o, c, by rw [e, hn], hc⟩
theorem set_a : setI [3, 1, 3, 2] = [1, 2, 3] := by decide
theorem set_b : setI [2, 9] = [2, 9] := by decide
theorem join_ab : (joinI [1, 2, 3] [2, 9]).length = 4 := by decide
theorem meet_ab : (meetI [1, 2, 3] [2, 9]).length = 1 := by decide
theorem diff_ab : (diffI [1, 2, 3] [2, 9]).length = 2 := by decide
theorem lex_ab : lexI (setI [1, 2, 3]) (setI [2, 9]) = -1 := by decide
end Go.Proofs.Hd
namespace Go.Proofs
open Go.RowKit Go.Proofs.Hd Go.Lib Go.Sort
attribute [local go_sem] uv_nonneg
set_option maxHeartbeats 2000000 in
set_option maxRecDepth 100000 in
theorem awake10_c (w : World) : Calls Try.prog 6 #[] w fun e w' => e = .returned (.bool true) ∧ Below w.heap.size w w' := by
  have B0 := below1 w (.cells #[.int .i64 3, .int .i64 1, .int .i64 3, .int .i64 2] 3)
  have N0 : Nm (w.alloc (.cells #[.int .i64 3, .int .i64 1, .int .i64 3, .int .i64 2] 3)) (.slice (some ⟨w.heap.size, 0, none⟩) 4 4) [3, 1, 3, 2] := Nm.lit w [3, 1, 3, 2] 3 (by decide)
  have h1 := idmake_c _ _ _ (by decide) N0
  rw [set_a] at h1
  have HB0 := Lib.hid B0
  clear B0 N0
  go_enter Try.func6, Try.ntmps6
  go_wp2_with fail
  (with_reducible refine h1.mono ?_)
  rintro e w2 ⟨v1, rfl, hn, hb⟩
  have B2 := HB0.out.trans (hb.mono HB0.out.size)
  have B3 := B2.trans ((below1 w2 (.cells #[.int .i64 2, .int .i64 9] 3)).mono B2.size)
  have N1 := Lib.hid (hn.on (below1 w2 (.cells #[.int .i64 2, .int .i64 9] 3)))
  have N3 : Nm (w2.alloc (.cells #[.int .i64 2, .int .i64 9] 3)) (.slice (some ⟨w2.heap.size, 0, none⟩) 2 2) [2, 9] := Nm.lit w2 [2, 9] 3 (by decide)
  have h2 := idmake_c _ _ _ (by decide) N3
  rw [set_b] at h2
  have HB3 := Lib.hid B3
  clear h1 hn hb B2 B3 N3
  go_wp2_with fail
  (with_reducible refine h2.mono ?_)
  rintro e w4 ⟨v2, rfl, hn, hb⟩
  have HB4 := Lib.hid (HB3.out.trans (hb.mono HB3.out.size))
  have HN1 := Lib.hid (N1.out.on hb)
  have HN2 := Lib.hid hn
  clear h2 hn hb N1 HB3
  have c1 := idsound_c v1 _ w4 (by decide) HN1.out
  rw [show decide (Inc [1, 2, 3]) = true by decide] at c1
  go_wp2_with fail
  (with_reducible refine c1.mono ?_)
  rintro e w5 ⟨rfl, hb⟩
  have HB5 := Lib.hid (HB4.out.trans (hb.mono HB4.out.size))
  have HM1 := Lib.hid (HN1.out.on hb)
  have HM2 := Lib.hid (HN2.out.on hb)
  clear c1 hb HB4 HN1 HN2
  have c2 := idhas_c v1 _ 2 w5 (by decide) HM1.out
  rw [show decide ((2 : Int) ∈ [(1 : Int), 2, 3]) = true by decide] at c2
  have c3 := idjoin_c v1 v2 _ _ w5 (by decide) (by decide) HM1.out HM2.out
  obtain ⟨b1, o1, k1, rfl, hcell⟩ := HM1.out.at (n := 3) rfl (by decide)
  have d1 := hcell 2 3 rfl
  clear hcell
  go_wp2_with fail
  (with_reducible refine c2.mono ?_)
  rintro e w6 ⟨rfl, rfl⟩
  clear c2 d1
  go_wp2_with fail
  (with_reducible refine c3.mono ?_)
  rintro e w7 ⟨v7, rfl, hn, hb⟩
  have HB7 := Lib.hid (HB5.out.trans (hb.mono HB5.out.size))
  have HM3 := Lib.hid (HM1.out.on hb)
  have HM4 := Lib.hid (HM2.out.on hb)
  obtain ⟨A7, k7, rfl⟩ := hn.form join_ab
  have c4 := idmeet_c _ v2 _ _ w7 (by decide) (by decide) HM3.out HM4.out
  clear c3 hn hb HB5 HM1 HM2
  go_wp2_with fail
  (with_reducible refine c4.mono ?_)
  rintro e w8 ⟨v8, rfl, hn, hb⟩
  have HB8 := Lib.hid (HB7.out.trans (hb.mono HB7.out.size))
  have HM5 := Lib.hid (HM3.out.on hb)
  have HM6 := Lib.hid (HM4.out.on hb)
  obtain ⟨A8, k8, rfl⟩ := hn.form meet_ab
  have c5 := idless_c _ v2 _ _ w8 (by decide) (by decide) HM5.out HM6.out
  clear c4 hn hb HB7 HM3 HM4
  go_wp2_with fail
  (with_reducible refine c5.mono ?_)
  rintro e w9 ⟨v9, rfl, hn, hb⟩
  have HB9 := Lib.hid (HB8.out.trans (hb.mono HB8.out.size))
  have HM7 := HM5.out.on hb
  have HM8 := HM6.out.on hb
  obtain ⟨A9, k9, rfl⟩ := hn.form diff_ab
  have c6 := idcomp_c _ v2 _ _ w9 (by decide) (by decide) HM7 HM8
  rw [lex_ab] at c6
  clear c5 hn hb HB8 HM5 HM6 HM7 HM8
  go_wp2_with fail
  (with_reducible refine c6.mono ?_)
  rintro e w10 ⟨rfl, hb⟩
  have HB10 := Lib.hid (HB9.out.trans (hb.mono HB9.out.size))
  clear c6 hb HB9
  go_wp2
  go_ret
  exact ⟨rfl, HB10.out⟩
end Go.Proofs
