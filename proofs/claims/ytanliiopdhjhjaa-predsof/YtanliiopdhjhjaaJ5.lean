/-
  Contract of the reference's Policy of layer 8. Conditions as the theorem lists them.
  Contract of the reference's port of layer 7. Conditions as the theorem lists them.
  Contract of the reference's port of layer 7. Conditions as the theorem lists them.
  Contract of the reference's port of layer 7. Conditions as the theorem lists them.
-/
import Derived.Test.YtanliiopdhjhjaaJ4
import Derived.Deep.RegionHeld3
import Derived.Deep.DeepCutAuto
import Derived.Deep.Light
namespace Go.Proofs.Hd
open Go.RowKit
/-- v is a slice that reads as the spots E. -/
def Spt (w : World) (v : Value) (E : List Rc) : Prop := ∃ A cap, v = .slice A E.length cap ∧ (E ≠ [] → ∃ b, A = some ⟨b, 0, none⟩ ∧ ∀ (k : Nat) (x : Rc), E[k]? = some x → w.cell? ⟨b, k * 2, none⟩ = some (.int .i64 x.1) ∧ w.cell? ⟨b, k * 2 + 1, none⟩ = some (.int .i64 x.2))
theorem Spt.of {w : World} {base : Nat} {v : Value} {E : List Rc} (h : w.ownsRow base 56 2 v E.length (flS E)) : Spt w v E := by
  rcases h.2 with ⟨rfl, h0⟩ | ⟨g, cap, cur, rfl, _⟩
  · exact ⟨none, 0, by rw [h0], fun hne => absurd (List.eq_nil_of_length_eq_zero h0) hne⟩
  · refine ⟨_, cap, rfl, fun _ => ⟨g, rfl, fun k x hk => ?_⟩⟩
    have hkl := (List.getElem?_eq_some_iff.1 hk).1
    exact ⟨(h.cellAt (k * 2) (by omega)).trans (flS_get hk).1, (h.cellAt (k * 2 + 1) (by omega)).trans (flS_get hk).2⟩
/-- Are the edges' tenants there? -/
def okE (T : List (List Pt)) (ten : Int) (k : Nat) : Prop := ∀ (j : Nat) (x : Rc), j < k → (eTo T T.length)[j]? = some x → inB (edgT T x.1 x.2) ten = true
/-- Are the peers tenants? -/
def okPe (P : List (Int × Int)) (ten : Int) (k : Nat) : Prop := ∀ (j : Nat) (x : Int × Int), j < k → P[j]? = some x → inB x.1 ten = true ∧ inB x.2 ten = true
/-- May the ways be? -/
def okWy (Q : List Wa) (ten : Int) (N k : Nat) : Prop := ∀ (j : Nat) (x : Wa), j < k → Q[j]? = some x → inB x.frm ten = true ∧ inB x.too ten = true ∧ inB x.via N = true
open Classical in
/-- What is said of a policy. -/
noncomputable def polT (T : List (List Pt)) (ten : Int) (P : List (Int × Int)) (Q : List Wa) : Int :=
  if ten < 1 ∨ 4 < ten ∨ 16 < P.length ∨ 4 < Q.length ∨ ¬ okE T ten (eTo T T.length).length then 4 else if ¬ okPe P ten P.length ∨ ¬ okWy Q ten T.length Q.length then 2 else 0
end Go.Proofs.Hd
namespace Go.Proofs
open Go.RowKit Go.Proofs.Hd Go.Lib
set_option maxRecDepth 100000 in
set_option maxHeartbeats 4000000 in
theorem rpolicy_c (tv pv wv : Value) (T : List (List Pt)) (ten : Int) (P : List (Int × Int)) (Q : List Wa) (w : World) (hT : PsT w tv T) (hP : Pe w pv P) (hQ : Wy w wv Q) (hn : ports T ≤ 2000000) : Calls Try.prog 45 #[.agg #[tv], .agg #[.int .i64 ten, pv, wv]] w fun e w' => e = .returned (.int .i64 (polT T ten P Q)) ∧ Below w.heap.size w w' := by
  have HT := Lib.hid hT
  obtain ⟨A, cap, rfl, htm, -⟩ := hT
  obtain ⟨pA, pc, rfl, hpm, hPA⟩ := hP
  obtain ⟨wA, wc, rfl, hwm, hWA⟩ := hQ
  have hpz : (P.length : Int) ≤ 9223372036854775807 := by unfold maxLen at hpm; omega
  have hwz : (Q.length : Int) ≤ 9223372036854775807 := by unfold maxLen at hwm; omega
  have B0 : Below w.heap.size w ((w.alloc (.cells #[.slice A T.length cap] 24)).alloc (.cells #[.int .i64 ten, .slice pA P.length pc, .slice wA Q.length wc] 28)) := below2 w _ _
  have N0 : Hid (Blk ((w.alloc (.cells #[.slice A T.length cap] 24)).alloc (.cells #[.int .i64 ten, .slice pA P.length pc, .slice wA Q.length wc] 28)) w.heap.size 24 #[.slice A T.length cap]) := (Blk.new w _ _).on (below1 _ _)
  have M0 : Hid (Blk ((w.alloc (.cells #[.slice A T.length cap] 24)).alloc (.cells #[.int .i64 ten, .slice pA P.length pc, .slice wA Q.length wc] 28)) (w.heap.size + 1) 28 #[.int .i64 ten, .slice pA P.length pc, .slice wA Q.length wc]) := Blk.new2 w _ _ _
  have HPA := Lib.hid hPA
  have HWA := Lib.hid hWA
  clear hPA hWA
  have bad4 : ∀ h : (ten < 1 ∨ 4 < ten ∨ 16 < P.length ∨ 4 < Q.length ∨ ¬ okE T ten (eTo T T.length).length), polT T ten P Q = 4 := fun h => by unfold polT; rw [if_pos h]
  by_cases h1 : ten < 1
  · have HE := Lib.hid (bad4 (.inl h1))
    clear bad4 HPA HWA
    go_enter Try.func45, Try.ntmps45
    go_wp2
    go_ret
    exact ⟨by rw [HE.out]; rfl, B0⟩
  by_cases h2 : 4 < ten
  · have HE := Lib.hid (bad4 (.inr (.inl h2)))
    clear bad4 HPA HWA
    go_enter Try.func45, Try.ntmps45
    go_wp2
    go_ret
    exact ⟨by rw [HE.out]; rfl, B0⟩
  by_cases h3 : 16 < P.length
  · have HE := Lib.hid (bad4 (.inr (.inr (.inl h3))))
    have h3z : (16 : Int) < (P.length : Int) := by omega
    clear bad4 HPA HWA
    go_enter Try.func45, Try.ntmps45
    go_wp2
    go_ret
    exact ⟨by rw [HE.out]; rfl, B0⟩
  have h3z : ¬ (16 : Int) < (P.length : Int) := by omega
  by_cases h4 : 4 < Q.length
  · have HE := Lib.hid (bad4 (.inr (.inr (.inr (.inl h4)))))
    have h4z : (4 : Int) < (Q.length : Int) := by omega
    clear bad4 HPA HWA
    go_enter Try.func45, Try.ntmps45
    go_wp2
    go_ret
    exact ⟨by rw [HE.out]; rfl, B0⟩
  have h4z : ¬ (4 : Int) < (Q.length : Int) := by omega
  have HBAD := Lib.hid bad4
  clear bad4
  go_enter Try.func45, Try.ntmps45
  go_wp2_with fail
  (with_reducible refine (redges_c _ T _ (HT.out.on B0) hn).mono ?_)
  rintro e w1 ⟨ev, rfl, OE, hb1⟩
  obtain ⟨EE, hEE⟩ : ∃ EE, Hid (eTo T T.length = EE) := ⟨_, rfl⟩
  have hEl : (eTo T T.length).length ≤ 2000000 := Nat.le_trans (eTo_len T T.length (Nat.le_refl _)) (Nat.le_trans (take_le T _) hn)
  rw [hEE.out] at OE hEl
  obtain ⟨eA, ec, rfl, hE⟩ := Spt.of OE
  have HES := Lib.hid hE
  have HB1 := Lib.hid (B0.trans (hb1.mono B0.size))
  have N1 := Lib.hid (N0.out.on hb1)
  have M1 := Lib.hid (M0.out.on hb1)
  have hEz : (EE.length : Int) ≤ 2000000 := by omega
  clear hb1 B0 N0 M0 OE hE
  go_wp2
  go_loopg [6] EE.length (fun gk s6 wr => ∃ k : Nat, k ≤ EE.length ∧ gk = EE.length - k ∧ s6 = .int .i64 k ∧ Hid (okE T ten k) ∧ Hid (Below w1.heap.size w1 wr))
  case atStart => exact ⟨0, Nat.zero_le _, rfl, rfl, fun j x hj => absurd hj (Nat.not_lt_zero _), Below.refl _ _⟩
  case round =>
    obtain ⟨k, hk, rfl, rfl, HO, HW⟩ := hrel
    have HB2 := Lib.hid (HB1.out.trans (HW.out.mono HB1.out.size))
    have N2 := Lib.hid (N1.out.on HW.out)
    have M2 := Lib.hid (M1.out.on HW.out)
    have t2 := N2.out.single
    obtain ⟨d0, d1, d2⟩ := M2.out.three
    by_cases hlt : k < EE.length
    · have hltz : (k : Int) < (EE.length : Int) := by omega
      obtain ⟨x, hx⟩ : ∃ x, EE[k]? = some x := ⟨_, List.getElem?_eq_getElem hlt⟩
      obtain ⟨eb, rfl, hec⟩ := HES.out (by rintro rfl; simp at hlt)
      have x0 := on_some HW.out (hec k x hx).1
      have x1 := on_some HW.out (hec k x hx).2
      obtain ⟨xa, xb⟩ := x
      simp only at x0 x1
      have KP : ∀ W, Below wr.heap.size wr W → (Below wr.heap.size wr W ∧ W.cell? ⟨w.heap.size, 0, none⟩ = some (.slice A T.length cap) ∧ W.cell? ⟨w.heap.size + 1, 0, none⟩ = some (.int .i64 ten) ∧ W.cell? ⟨w.heap.size + 1, 1, none⟩ = some (.slice pA P.length pc) ∧ W.cell? ⟨w.heap.size + 1, 2, none⟩ = some (.slice wA Q.length wc) ∧ W.cell? ⟨eb, k * 2, none⟩ = some (.int .i64 xa) ∧ W.cell? ⟨eb, k * 2 + 1, none⟩ = some (.int .i64 xb)) := fun W hb => ⟨hb, on_some hb t2, on_some hb d0, on_some hb d1, on_some hb d2, on_some hb x0, on_some hb x1⟩
      have HKP := Lib.hid KP
      have HXX := Lib.hid hx
      clear KP t2 d0 d1 d2 x0 x1 hec hx N2 M2
      cases hin : inB (edgT T xa xb) ten with
        | false =>
          go_upto_region 7 with (fail)
          refine wp_region_held_drew (S := fun w' => Below wr.heap.size wr w' ∧ w'.cell? ⟨w.heap.size, 0, none⟩ = some (.slice A T.length cap) ∧ w'.cell? ⟨w.heap.size + 1, 0, none⟩ = some (.int .i64 ten) ∧ w'.cell? ⟨w.heap.size + 1, 1, none⟩ = some (.slice pA P.length pc) ∧ w'.cell? ⟨w.heap.size + 1, 2, none⟩ = some (.slice wA Q.length wc) ∧ w'.cell? ⟨eb, k * 2, none⟩ = some (.int .i64 xa) ∧ w'.cell? ⟨eb, k * 2 + 1, none⟩ = some (.int .i64 xb)) (by kernel_rfl) (HKP.out _ (Below.refl _ wr).drew) (fun hHeld => ?_)
          refine wpAnyH_take (i := 0) (oi := ⟨some 38, _, _, _, _, _⟩) (v := ?vb0) rfl (by kernel_rfl) (by kernel_rfl) (by kernel_rfl) (fun _ _ _ h => h) (Or.inl ⟨by rfl, ?yb0⟩) hHeld ?rb0
          case yb0 => (intro w' hSw; (try dsimp only at hSw); go_simp; try (with_reducible rfl))
          simp only [Act.put, List.setIfInBounds_toArray, List.set_cons_zero, List.set_cons_succ]
          refine wpAnyH_take (i := 1) (oi := ⟨some 39, _, _, _, _, _⟩) (v := ?vb1) rfl (by kernel_rfl) (by kernel_rfl) (by kernel_rfl) (fun _ _ _ h => h) (Or.inl ⟨by rfl, ?yb1⟩) hHeld ?rb1
          case yb1 => (intro w' hSw; (try dsimp only at hSw); go_simp; try (with_reducible rfl))
          simp only [Act.put, List.setIfInBounds_toArray, List.set_cons_zero, List.set_cons_succ]
          refine wpAnyH_take (i := 2) (oi := ⟨some 40, _, _, _, _, _⟩) (v := ?vb2) rfl (by kernel_rfl) (by kernel_rfl) (by kernel_rfl) (fun _ _ _ h => h) (Or.inl ⟨by rfl, ?yb2⟩) hHeld ?rb2
          case yb2 => (intro w' hSw; (try dsimp only at hSw); go_simp; try (with_reducible rfl))
          simp only [Act.put, List.setIfInBounds_toArray, List.set_cons_zero, List.set_cons_succ]
          refine wpAnyH_take (i := 3) (oi := ⟨some 41, _, _, _, _, _⟩) (v := ?vb3) rfl (by kernel_rfl) (by kernel_rfl) (by kernel_rfl) (fun _ _ _ h => h) (Or.inl ⟨by rfl, ?yb3⟩) hHeld ?rb3
          case yb3 => (intro w' hSw; (try dsimp only at hSw); go_simp; try (with_reducible rfl))
          simp only [Act.put, List.setIfInBounds_toArray, List.set_cons_zero, List.set_cons_succ]
          refine wpAnyH_take (i := 4) (oi := ⟨some 42, _, _, _, _, _⟩) (v := ?vb4) rfl (by kernel_rfl) (by kernel_rfl) (by kernel_rfl) (fun _ _ _ h => h) (Or.inl ⟨by rfl, ?yb4⟩) hHeld ?rb4
          case yb4 => (intro w' hSw; (try dsimp only at hSw); go_simp; try (with_reducible rfl))
          simp only [Act.put, List.setIfInBounds_toArray, List.set_cons_zero, List.set_cons_succ]
          refine wpAnyH_take (i := 5) (oi := ⟨some 43, _, _, _, _, _⟩) (v := ?vb5) rfl (by kernel_rfl) (by kernel_rfl) (by kernel_rfl) (fun _ _ _ h => h) (Or.inl ⟨by rfl, ?yb5⟩) hHeld ?rb5
          case yb5 => (intro w' hSw; (try dsimp only at hSw); go_simp; try (with_reducible rfl))
          simp only [Act.put, List.setIfInBounds_toArray, List.set_cons_zero, List.set_cons_succ]
          refine wpAnyH_ready (rs := [6]) (by kernel_rfl) (by simp) ?_
          refine AllReadyH.cons (o := ⟨some 44, _, _, _, _, _⟩) rfl (fun K hK => ?_) AllReadyH.nil
          go_simp
          (with_reducible refine (redge_c _ T _ _ _ (HT.out.on (HB2.out.trans (hHeld.1.mono HB2.out.size)))).mono ?_)
          rintro e w5 ⟨rfl, hb⟩
          (try dsimp only)
          refine hK.out _ _ (HKP.out _ (hHeld.1.trans (hb.mono hHeld.1.size))) (fun hNext => ?_)
          clear hK K hHeld
          have hHeld := hNext
          clear hNext
          try simp only [Act.put, List.setIfInBounds_toArray, List.set_cons_zero, List.set_cons_succ]
          refine wpAnyH_ready (rs := [7]) (by kernel_rfl) (by simp) ?_
          refine AllReadyH.cons (o := ⟨some 45, _, _, _, _, _⟩) rfl (fun K hK => ?_) AllReadyH.nil
          go_simp
          (with_reducible refine (rtenant_c false ten _ _ _ _ hin).mono ?_)
          rintro e w6 ⟨rfl, hb⟩
          (try dsimp only)
          refine hK.out _ _ (HKP.out _ (hHeld.1.trans (hb.mono hHeld.1.size))) (fun hNext => ?_)
          clear hK K hHeld
          have hHeld := hNext
          clear hNext
          try simp only [Act.put, List.setIfInBounds_toArray, List.set_cons_zero, List.set_cons_succ]
          refine wpAnyH_take (i := 8) (oi := ⟨some 46, _, _, _, _, _⟩) (v := ?vb8) rfl (by kernel_rfl) (by kernel_rfl) (by kernel_rfl) (fun _ _ _ h => h) (Or.inl ⟨by rfl, ?yb8⟩) hHeld ?rb8
          case yb8 => (intro w' hSw; (try dsimp only at hSw); go_simp; try (with_reducible rfl))
          simp only [Act.put, List.setIfInBounds_toArray, List.set_cons_zero, List.set_cons_succ]
          refine wpAnyH_done (by kernel_rfl) ?_ _
          have HE : Hid (polT T ten P Q = 4) := HBAD.out (.inr (.inr (.inr (.inr fun h => by
            rw [hEE.out] at h
            have := h k (xa, xb) hlt (by rw [hEE.out]; exact HXX.out)
            simp only at this
            rw [hin] at this
            cases this))))
          have HBE := Lib.hid (HB2.out.trans (hHeld.1.mono HB2.out.size))
          clear hHeld HKP
          go_wp2
          go_ret
          exact ⟨by rw [HE.out]; rfl, HBE.out⟩
        | true =>
          go_upto_region 7 with (fail)
          refine wp_region_held_drew (S := fun w' => Below wr.heap.size wr w' ∧ w'.cell? ⟨w.heap.size, 0, none⟩ = some (.slice A T.length cap) ∧ w'.cell? ⟨w.heap.size + 1, 0, none⟩ = some (.int .i64 ten) ∧ w'.cell? ⟨w.heap.size + 1, 1, none⟩ = some (.slice pA P.length pc) ∧ w'.cell? ⟨w.heap.size + 1, 2, none⟩ = some (.slice wA Q.length wc) ∧ w'.cell? ⟨eb, k * 2, none⟩ = some (.int .i64 xa) ∧ w'.cell? ⟨eb, k * 2 + 1, none⟩ = some (.int .i64 xb)) (by kernel_rfl) (HKP.out _ (Below.refl _ wr).drew) (fun hHeld => ?_)
          refine wpAnyH_take (i := 0) (oi := ⟨some 38, _, _, _, _, _⟩) (v := ?va0) rfl (by kernel_rfl) (by kernel_rfl) (by kernel_rfl) (fun _ _ _ h => h) (Or.inl ⟨by rfl, ?ya0⟩) hHeld ?ra0
          case ya0 => (intro w' hSw; (try dsimp only at hSw); go_simp; try (with_reducible rfl))
          simp only [Act.put, List.setIfInBounds_toArray, List.set_cons_zero, List.set_cons_succ]
          refine wpAnyH_take (i := 1) (oi := ⟨some 39, _, _, _, _, _⟩) (v := ?va1) rfl (by kernel_rfl) (by kernel_rfl) (by kernel_rfl) (fun _ _ _ h => h) (Or.inl ⟨by rfl, ?ya1⟩) hHeld ?ra1
          case ya1 => (intro w' hSw; (try dsimp only at hSw); go_simp; try (with_reducible rfl))
          simp only [Act.put, List.setIfInBounds_toArray, List.set_cons_zero, List.set_cons_succ]
          refine wpAnyH_take (i := 2) (oi := ⟨some 40, _, _, _, _, _⟩) (v := ?va2) rfl (by kernel_rfl) (by kernel_rfl) (by kernel_rfl) (fun _ _ _ h => h) (Or.inl ⟨by rfl, ?ya2⟩) hHeld ?ra2
          case ya2 => (intro w' hSw; (try dsimp only at hSw); go_simp; try (with_reducible rfl))
          simp only [Act.put, List.setIfInBounds_toArray, List.set_cons_zero, List.set_cons_succ]
          refine wpAnyH_take (i := 3) (oi := ⟨some 41, _, _, _, _, _⟩) (v := ?va3) rfl (by kernel_rfl) (by kernel_rfl) (by kernel_rfl) (fun _ _ _ h => h) (Or.inl ⟨by rfl, ?ya3⟩) hHeld ?ra3
          case ya3 => (intro w' hSw; (try dsimp only at hSw); go_simp; try (with_reducible rfl))
          simp only [Act.put, List.setIfInBounds_toArray, List.set_cons_zero, List.set_cons_succ]
          refine wpAnyH_take (i := 4) (oi := ⟨some 42, _, _, _, _, _⟩) (v := ?va4) rfl (by kernel_rfl) (by kernel_rfl) (by kernel_rfl) (fun _ _ _ h => h) (Or.inl ⟨by rfl, ?ya4⟩) hHeld ?ra4
          case ya4 => (intro w' hSw; (try dsimp only at hSw); go_simp; try (with_reducible rfl))
          simp only [Act.put, List.setIfInBounds_toArray, List.set_cons_zero, List.set_cons_succ]
          refine wpAnyH_take (i := 5) (oi := ⟨some 43, _, _, _, _, _⟩) (v := ?va5) rfl (by kernel_rfl) (by kernel_rfl) (by kernel_rfl) (fun _ _ _ h => h) (Or.inl ⟨by rfl, ?ya5⟩) hHeld ?ra5
          case ya5 => (intro w' hSw; (try dsimp only at hSw); go_simp; try (with_reducible rfl))
          simp only [Act.put, List.setIfInBounds_toArray, List.set_cons_zero, List.set_cons_succ]
          refine wpAnyH_ready (rs := [6]) (by kernel_rfl) (by simp) ?_
          refine AllReadyH.cons (o := ⟨some 44, _, _, _, _, _⟩) rfl (fun K hK => ?_) AllReadyH.nil
          go_simp
          (with_reducible refine (redge_c _ T _ _ _ (HT.out.on (HB2.out.trans (hHeld.1.mono HB2.out.size)))).mono ?_)
          rintro e w5 ⟨rfl, hb⟩
          (try dsimp only)
          refine hK.out _ _ (HKP.out _ (hHeld.1.trans (hb.mono hHeld.1.size))) (fun hNext => ?_)
          clear hK K hHeld
          have hHeld := hNext
          clear hNext
          try simp only [Act.put, List.setIfInBounds_toArray, List.set_cons_zero, List.set_cons_succ]
          refine wpAnyH_ready (rs := [7]) (by kernel_rfl) (by simp) ?_
          refine AllReadyH.cons (o := ⟨some 45, _, _, _, _, _⟩) rfl (fun K hK => ?_) AllReadyH.nil
          go_simp
          (with_reducible refine (rtenant_c true ten _ _ _ _ hin).mono ?_)
          rintro e w6 ⟨rfl, hb⟩
          (try dsimp only)
          refine hK.out _ _ (HKP.out _ (hHeld.1.trans (hb.mono hHeld.1.size))) (fun hNext => ?_)
          clear hK K hHeld
          have hHeld := hNext
          clear hNext
          try simp only [Act.put, List.setIfInBounds_toArray, List.set_cons_zero, List.set_cons_succ]
          refine wpAnyH_take (i := 8) (oi := ⟨some 46, _, _, _, _, _⟩) (v := ?va8) rfl (by kernel_rfl) (by kernel_rfl) (by kernel_rfl) (fun _ _ _ h => h) (Or.inl ⟨by rfl, ?ya8⟩) hHeld ?ra8
          case ya8 => (intro w' hSw; (try dsimp only at hSw); go_simp; try (with_reducible rfl))
          simp only [Act.put, List.setIfInBounds_toArray, List.set_cons_zero, List.set_cons_succ]
          refine wpAnyH_done (by kernel_rfl) ?_ _
          have HO2 : Hid (okE T ten (k + 1)) := fun j x hj hx => by
            by_cases e : j = k
            · subst e
              rw [hEE.out, HXX.out] at hx
              injection hx with hx
              subst hx
              exact hin
            · exact HO.out j x (by omega) hx
          have HW2 := Lib.hid (HW.out.trans (hHeld.1.mono HW.out.size))
          clear hHeld HKP HW HB2
          go_wp2
          go_roundg (EE.length - (k + 1))
          case measure => omega
          case rel => exact ⟨k + 1, by omega, rfl, by go_num, HO2, HW2⟩
    · have hltz : ¬ (k : Int) < (EE.length : Int) := by omega
      obtain rfl : k = EE.length := by omega
      have HOE : Hid (okE T ten (eTo T T.length).length) := by show okE _ _ _; rw [hEE.out]; exact HO.out
      clear HO HES HW HB1 N1 M1 HBAD
      go_wp2
      clear t2 d0 d1 d2
      go_loopg [7] P.length (fun gk s7 wq => ∃ k : Nat, k ≤ P.length ∧ gk = P.length - k ∧ s7 = .int .i64 k ∧ Hid (okPe P ten k) ∧ Hid (Below wr.heap.size wr wq))
      case atStart => exact ⟨0, Nat.zero_le _, rfl, rfl, fun j x hj => absurd hj (Nat.not_lt_zero _), Below.refl _ _⟩
      case round =>
        rename_i wr0
        obtain ⟨k, hk, rfl, rfl, HO, HW⟩ := hrel
        have HB3 := Lib.hid (HB2.out.trans (HW.out.mono HB2.out.size))
        have N3 := Lib.hid (N2.out.on HW.out)
        have M3 := Lib.hid (M2.out.on HW.out)
        have t3 := N3.out.single
        obtain ⟨d0, d1, d2⟩ := M3.out.three
        by_cases hlt : k < P.length
        · have hltz : (k : Int) < (P.length : Int) := by omega
          obtain ⟨x, hx⟩ : ∃ x, P[k]? = some x := ⟨_, List.getElem?_eq_getElem hlt⟩
          obtain ⟨pb, po, rfl, _, hpc⟩ := HPA.out (by rintro rfl; simp at hlt)
          have x0 := on_some HB3.out (hpc k x hx).1
          have x1 := on_some HB3.out (hpc k x hx).2
          obtain ⟨xa, xb⟩ := x
          simp only at x0 x1
          have KP : ∀ W, Below wr.heap.size wr W → (Below wr.heap.size wr W ∧ W.cell? ⟨w.heap.size + 1, 0, none⟩ = some (.int .i64 ten) ∧ W.cell? ⟨w.heap.size + 1, 1, none⟩ = some (.slice (some ⟨pb, po, none⟩) P.length pc) ∧ W.cell? ⟨w.heap.size + 1, 2, none⟩ = some (.slice wA Q.length wc) ∧ W.cell? ⟨pb, po + k * 2, none⟩ = some (.int .i64 xa) ∧ W.cell? ⟨pb, po + k * 2 + 1, none⟩ = some (.int .i64 xb)) := fun W hb => ⟨hb, on_some hb d0, on_some hb d1, on_some hb d2, on_some hb x0, on_some hb x1⟩
          have HKP := Lib.hid KP
          have HXX := Lib.hid hx
          clear KP t3 x0 x1 hpc hx
          cases hi1 : inB xa ten with
          | false =>
            go_upto_region 12 with (fail)
            refine wp_region_held_drew (S := fun w' => Below wr.heap.size wr w' ∧ w'.cell? ⟨w.heap.size + 1, 0, none⟩ = some (.int .i64 ten) ∧ w'.cell? ⟨w.heap.size + 1, 1, none⟩ = some (.slice (some ⟨pb, po, none⟩) P.length pc) ∧ w'.cell? ⟨w.heap.size + 1, 2, none⟩ = some (.slice wA Q.length wc) ∧ w'.cell? ⟨pb, po + k * 2, none⟩ = some (.int .i64 xa) ∧ w'.cell? ⟨pb, po + k * 2 + 1, none⟩ = some (.int .i64 xb)) (by kernel_rfl) (HKP.out _ (Below.refl _ wr).drew) (fun hHeld => ?_)
            refine wpAnyH_take (i := 0) (oi := ⟨some 54, _, _, _, _, _⟩) (v := ?vc0) rfl (by kernel_rfl) (by kernel_rfl) (by kernel_rfl) (fun _ _ _ h => h) (Or.inl ⟨by rfl, ?yc0⟩) hHeld ?rc0
            case yc0 => (intro w' hSw; (try dsimp only at hSw); go_simp; try (with_reducible rfl))
            simp only [Act.put, List.setIfInBounds_toArray, List.set_cons_zero, List.set_cons_succ]
            refine wpAnyH_take (i := 1) (oi := ⟨some 55, _, _, _, _, _⟩) (v := ?vc1) rfl (by kernel_rfl) (by kernel_rfl) (by kernel_rfl) (fun _ _ _ h => h) (Or.inl ⟨by rfl, ?yc1⟩) hHeld ?rc1
            case yc1 => (intro w' hSw; (try dsimp only at hSw); go_simp; try (with_reducible rfl))
            simp only [Act.put, List.setIfInBounds_toArray, List.set_cons_zero, List.set_cons_succ]
            refine wpAnyH_take (i := 2) (oi := ⟨some 56, _, _, _, _, _⟩) (v := ?vc2) rfl (by kernel_rfl) (by kernel_rfl) (by kernel_rfl) (fun _ _ _ h => h) (Or.inl ⟨by rfl, ?yc2⟩) hHeld ?rc2
            case yc2 => (intro w' hSw; (try dsimp only at hSw); go_simp; try (with_reducible rfl))
            simp only [Act.put, List.setIfInBounds_toArray, List.set_cons_zero, List.set_cons_succ]
            refine wpAnyH_take (i := 3) (oi := ⟨some 57, _, _, _, _, _⟩) (v := ?vc3) rfl (by kernel_rfl) (by kernel_rfl) (by kernel_rfl) (fun _ _ _ h => h) (Or.inl ⟨by rfl, ?yc3⟩) hHeld ?rc3
            case yc3 => (intro w' hSw; (try dsimp only at hSw); go_simp; try (with_reducible rfl))
            simp only [Act.put, List.setIfInBounds_toArray, List.set_cons_zero, List.set_cons_succ]
            refine wpAnyH_take (i := 4) (oi := ⟨some 58, _, _, _, _, _⟩) (v := ?vc4) rfl (by kernel_rfl) (by kernel_rfl) (by kernel_rfl) (fun _ _ _ h => h) (Or.inl ⟨by rfl, ?yc4⟩) hHeld ?rc4
            case yc4 => (intro w' hSw; (try dsimp only at hSw); go_simp; try (with_reducible rfl))
            simp only [Act.put, List.setIfInBounds_toArray, List.set_cons_zero, List.set_cons_succ]
            refine wpAnyH_take (i := 5) (oi := ⟨some 59, _, _, _, _, _⟩) (v := ?vc5) rfl (by kernel_rfl) (by kernel_rfl) (by kernel_rfl) (fun _ _ _ h => h) (Or.inl ⟨by rfl, ?yc5⟩) hHeld ?rc5
            case yc5 => (intro w' hSw; (try dsimp only at hSw); go_simp; try (with_reducible rfl))
            simp only [Act.put, List.setIfInBounds_toArray, List.set_cons_zero, List.set_cons_succ]
            refine wpAnyH_take (i := 6) (oi := ⟨some 60, _, _, _, _, _⟩) (v := ?vc6) rfl (by kernel_rfl) (by kernel_rfl) (by kernel_rfl) (fun _ _ _ h => h) (Or.inl ⟨by rfl, ?yc6⟩) hHeld ?rc6
            case yc6 => (intro w' hSw; (try dsimp only at hSw); go_simp; try (with_reducible rfl))
            simp only [Act.put, List.setIfInBounds_toArray, List.set_cons_zero, List.set_cons_succ]
            refine wpAnyH_ready (rs := [7]) (by kernel_rfl) (by simp) ?_
            refine AllReadyH.cons (o := ⟨some 61, _, _, _, _, _⟩) rfl (fun K hK => ?_) AllReadyH.nil
            go_simp
            (with_reducible refine (rtenant_c false ten _ _ _ _ hi1).mono ?_)
            rintro e w5 ⟨rfl, hb⟩
            (try dsimp only)
            refine hK.out _ _ (HKP.out _ (hHeld.1.trans (hb.mono hHeld.1.size))) (fun hNext => ?_)
            clear hK K hHeld
            have hHeld := hNext
            clear hNext
            try simp only [Act.put, List.setIfInBounds_toArray, List.set_cons_zero, List.set_cons_succ]
            refine wpAnyH_take (i := 8) (oi := ⟨some 62, _, _, _, _, _⟩) (v := ?vc8) rfl (by kernel_rfl) (by kernel_rfl) (by kernel_rfl) (fun _ _ _ h => h) (Or.inl ⟨by rfl, ?yc8⟩) hHeld ?rc8
            case yc8 => (intro w' hSw; (try dsimp only at hSw); go_simp; try (with_reducible rfl))
            simp only [Act.put, List.setIfInBounds_toArray, List.set_cons_zero, List.set_cons_succ]
            refine wpAnyH_take (i := 9) (oi := ⟨some 63, _, _, _, _, _⟩) (v := ?vc9) rfl (by kernel_rfl) (by kernel_rfl) (by kernel_rfl) (fun _ _ _ h => h) (Or.inl ⟨by rfl, ?yc9⟩) hHeld ?rc9
            case yc9 => (intro w' hSw; (try dsimp only at hSw); go_simp; try (with_reducible rfl))
            simp only [Act.put, List.setIfInBounds_toArray, List.set_cons_zero, List.set_cons_succ]
            refine wpAnyH_take (i := 10) (oi := ⟨some 64, _, _, _, _, _⟩) (v := undef) rfl (by kernel_rfl) (by kernel_rfl) (by kernel_rfl) (fun _ _ _ h => h) (Or.inr ⟨by rfl, rfl⟩) hHeld ?_
            simp only [Act.put, List.setIfInBounds_toArray, List.set_cons_zero, List.set_cons_succ]
            refine wpAnyH_take (i := 11) (oi := ⟨some 65, _, _, _, _, _⟩) (v := undef) rfl (by kernel_rfl) (by kernel_rfl) (by kernel_rfl) (fun _ _ _ h => h) (Or.inr ⟨by rfl, rfl⟩) hHeld ?_
            simp only [Act.put, List.setIfInBounds_toArray, List.set_cons_zero, List.set_cons_succ]
            refine wpAnyH_take (i := 12) (oi := ⟨some 66, _, _, _, _, _⟩) (v := undef) rfl (by kernel_rfl) (by kernel_rfl) (by kernel_rfl) (fun _ _ _ h => h) (Or.inr ⟨by rfl, rfl⟩) hHeld ?_
            simp only [Act.put, List.setIfInBounds_toArray, List.set_cons_zero, List.set_cons_succ]
            refine wpAnyH_take (i := 13) (oi := ⟨some 67, _, _, _, _, _⟩) (v := undef) rfl (by kernel_rfl) (by kernel_rfl) (by kernel_rfl) (fun _ _ _ h => h) (Or.inr ⟨by rfl, rfl⟩) hHeld ?_
            simp only [Act.put, List.setIfInBounds_toArray, List.set_cons_zero, List.set_cons_succ]
            refine wpAnyH_take (i := 14) (oi := ⟨some 68, _, _, _, _, _⟩) (v := undef) rfl (by kernel_rfl) (by kernel_rfl) (by kernel_rfl) (fun _ _ _ h => h) (Or.inr ⟨by rfl, rfl⟩) hHeld ?_
            simp only [Act.put, List.setIfInBounds_toArray, List.set_cons_zero, List.set_cons_succ]
            refine wpAnyH_take (i := 15) (oi := ⟨some 69, _, _, _, _, _⟩) (v := undef) rfl (by kernel_rfl) (by kernel_rfl) (by kernel_rfl) (fun _ _ _ h => h) (Or.inr ⟨by rfl, rfl⟩) hHeld ?_
            simp only [Act.put, List.setIfInBounds_toArray, List.set_cons_zero, List.set_cons_succ]
            refine wpAnyH_take (i := 16) (oi := ⟨some 70, _, _, _, _, _⟩) (v := undef) rfl (by kernel_rfl) (by kernel_rfl) (by kernel_rfl) (fun _ _ _ h => h) (Or.inr ⟨by rfl, rfl⟩) hHeld ?_
            simp only [Act.put, List.setIfInBounds_toArray, List.set_cons_zero, List.set_cons_succ]
            refine wpAnyH_ready (rs := [17]) (by kernel_rfl) (by simp) ?_
            refine AllReadyH.cons (o := ⟨some 71, _, _, _, _, _⟩) rfl (fun K hK => ?_) AllReadyH.nil
            go_simp
            refine hK.out _ _ hHeld (fun hNext => ?_)
            clear hK K hHeld
            have hHeld := hNext
            clear hNext
            try simp only [Act.put, List.setIfInBounds_toArray, List.set_cons_zero, List.set_cons_succ]
            refine wpAnyH_take (i := 18) (oi := ⟨some 72, _, _, _, _, _⟩) (v := undef) rfl (by kernel_rfl) (by kernel_rfl) (by kernel_rfl) (fun _ _ _ h => h) (Or.inr ⟨by rfl, rfl⟩) hHeld ?_
            simp only [Act.put, List.setIfInBounds_toArray, List.set_cons_zero, List.set_cons_succ]
            refine wpAnyH_take (i := 19) (oi := ⟨some 73, _, _, _, _, _⟩) (v := ?vc19) rfl (by kernel_rfl) (by kernel_rfl) (by kernel_rfl) (fun _ _ _ h => h) (Or.inl ⟨by rfl, ?yc19⟩) hHeld ?rc19
            case yc19 => (intro w' hSw; (try dsimp only at hSw); go_simp; try (with_reducible rfl))
            simp only [Act.put, List.setIfInBounds_toArray, List.set_cons_zero, List.set_cons_succ]
            refine wpAnyH_done (by kernel_rfl) ?_ _
            have HE : Hid (polT T ten P Q = 2) := by
              show _ = _
              unfold polT
              rw [if_neg (by rintro (h | h | h | h | h) <;> first | omega | exact h HOE.out), if_pos (.inl fun h => by
                have := (h k (xa, xb) hlt HXX.out).1
                simp only at this
                rw [hi1] at this
                cases this)]
            have HBE := Lib.hid (HB3.out.trans (hHeld.1.mono HB3.out.size))
            clear hHeld HKP
            go_wp2
            go_ret
            exact ⟨by rw [HE.out]; rfl, HBE.out⟩
          | true =>
            cases hi2 : inB xb ten with
            | false =>
              go_upto_region 12 with (fail)
              refine wp_region_held_drew (S := fun w' => Below wr.heap.size wr w' ∧ w'.cell? ⟨w.heap.size + 1, 0, none⟩ = some (.int .i64 ten) ∧ w'.cell? ⟨w.heap.size + 1, 1, none⟩ = some (.slice (some ⟨pb, po, none⟩) P.length pc) ∧ w'.cell? ⟨w.heap.size + 1, 2, none⟩ = some (.slice wA Q.length wc) ∧ w'.cell? ⟨pb, po + k * 2, none⟩ = some (.int .i64 xa) ∧ w'.cell? ⟨pb, po + k * 2 + 1, none⟩ = some (.int .i64 xb)) (by kernel_rfl) (HKP.out _ (Below.refl _ wr).drew) (fun hHeld => ?_)
              refine wpAnyH_take (i := 0) (oi := ⟨some 54, _, _, _, _, _⟩) (v := ?vd0) rfl (by kernel_rfl) (by kernel_rfl) (by kernel_rfl) (fun _ _ _ h => h) (Or.inl ⟨by rfl, ?yd0⟩) hHeld ?rd0
              case yd0 => (intro w' hSw; (try dsimp only at hSw); go_simp; try (with_reducible rfl))
              simp only [Act.put, List.setIfInBounds_toArray, List.set_cons_zero, List.set_cons_succ]
              refine wpAnyH_take (i := 1) (oi := ⟨some 55, _, _, _, _, _⟩) (v := ?vd1) rfl (by kernel_rfl) (by kernel_rfl) (by kernel_rfl) (fun _ _ _ h => h) (Or.inl ⟨by rfl, ?yd1⟩) hHeld ?rd1
              case yd1 => (intro w' hSw; (try dsimp only at hSw); go_simp; try (with_reducible rfl))
              simp only [Act.put, List.setIfInBounds_toArray, List.set_cons_zero, List.set_cons_succ]
              refine wpAnyH_take (i := 2) (oi := ⟨some 56, _, _, _, _, _⟩) (v := ?vd2) rfl (by kernel_rfl) (by kernel_rfl) (by kernel_rfl) (fun _ _ _ h => h) (Or.inl ⟨by rfl, ?yd2⟩) hHeld ?rd2
              case yd2 => (intro w' hSw; (try dsimp only at hSw); go_simp; try (with_reducible rfl))
              simp only [Act.put, List.setIfInBounds_toArray, List.set_cons_zero, List.set_cons_succ]
              refine wpAnyH_take (i := 3) (oi := ⟨some 57, _, _, _, _, _⟩) (v := ?vd3) rfl (by kernel_rfl) (by kernel_rfl) (by kernel_rfl) (fun _ _ _ h => h) (Or.inl ⟨by rfl, ?yd3⟩) hHeld ?rd3
              case yd3 => (intro w' hSw; (try dsimp only at hSw); go_simp; try (with_reducible rfl))
              simp only [Act.put, List.setIfInBounds_toArray, List.set_cons_zero, List.set_cons_succ]
              refine wpAnyH_take (i := 4) (oi := ⟨some 58, _, _, _, _, _⟩) (v := ?vd4) rfl (by kernel_rfl) (by kernel_rfl) (by kernel_rfl) (fun _ _ _ h => h) (Or.inl ⟨by rfl, ?yd4⟩) hHeld ?rd4
              case yd4 => (intro w' hSw; (try dsimp only at hSw); go_simp; try (with_reducible rfl))
              simp only [Act.put, List.setIfInBounds_toArray, List.set_cons_zero, List.set_cons_succ]
              refine wpAnyH_take (i := 5) (oi := ⟨some 59, _, _, _, _, _⟩) (v := ?vd5) rfl (by kernel_rfl) (by kernel_rfl) (by kernel_rfl) (fun _ _ _ h => h) (Or.inl ⟨by rfl, ?yd5⟩) hHeld ?rd5
              case yd5 => (intro w' hSw; (try dsimp only at hSw); go_simp; try (with_reducible rfl))
              simp only [Act.put, List.setIfInBounds_toArray, List.set_cons_zero, List.set_cons_succ]
              refine wpAnyH_take (i := 6) (oi := ⟨some 60, _, _, _, _, _⟩) (v := ?vd6) rfl (by kernel_rfl) (by kernel_rfl) (by kernel_rfl) (fun _ _ _ h => h) (Or.inl ⟨by rfl, ?yd6⟩) hHeld ?rd6
              case yd6 => (intro w' hSw; (try dsimp only at hSw); go_simp; try (with_reducible rfl))
              simp only [Act.put, List.setIfInBounds_toArray, List.set_cons_zero, List.set_cons_succ]
              refine wpAnyH_ready (rs := [7]) (by kernel_rfl) (by simp) ?_
              refine AllReadyH.cons (o := ⟨some 61, _, _, _, _, _⟩) rfl (fun K hK => ?_) AllReadyH.nil
              go_simp
              (with_reducible refine (rtenant_c true ten _ _ _ _ hi1).mono ?_)
              rintro e w5 ⟨rfl, hb⟩
              (try dsimp only)
              refine hK.out _ _ (HKP.out _ (hHeld.1.trans (hb.mono hHeld.1.size))) (fun hNext => ?_)
              clear hK K hHeld
              have hHeld := hNext
              clear hNext
              try simp only [Act.put, List.setIfInBounds_toArray, List.set_cons_zero, List.set_cons_succ]
              refine wpAnyH_take (i := 8) (oi := ⟨some 62, _, _, _, _, _⟩) (v := ?vd8) rfl (by kernel_rfl) (by kernel_rfl) (by kernel_rfl) (fun _ _ _ h => h) (Or.inl ⟨by rfl, ?yd8⟩) hHeld ?rd8
              case yd8 => (intro w' hSw; (try dsimp only at hSw); go_simp; try (with_reducible rfl))
              simp only [Act.put, List.setIfInBounds_toArray, List.set_cons_zero, List.set_cons_succ]
              refine wpAnyH_take (i := 9) (oi := ⟨some 63, _, _, _, _, _⟩) (v := ?vd9) rfl (by kernel_rfl) (by kernel_rfl) (by kernel_rfl) (fun _ _ _ h => h) (Or.inl ⟨by rfl, ?yd9⟩) hHeld ?rd9
              case yd9 => (intro w' hSw; (try dsimp only at hSw); go_simp; try (with_reducible rfl))
              simp only [Act.put, List.setIfInBounds_toArray, List.set_cons_zero, List.set_cons_succ]
              refine wpAnyH_take (i := 10) (oi := ⟨some 64, _, _, _, _, _⟩) (v := ?vd10) rfl (by kernel_rfl) (by kernel_rfl) (by kernel_rfl) (fun _ _ _ h => h) (Or.inl ⟨by rfl, ?yd10⟩) hHeld ?rd10
              case yd10 => (intro w' hSw; (try dsimp only at hSw); go_simp; try (with_reducible rfl))
              simp only [Act.put, List.setIfInBounds_toArray, List.set_cons_zero, List.set_cons_succ]
              refine wpAnyH_take (i := 11) (oi := ⟨some 65, _, _, _, _, _⟩) (v := ?vd11) rfl (by kernel_rfl) (by kernel_rfl) (by kernel_rfl) (fun _ _ _ h => h) (Or.inl ⟨by rfl, ?yd11⟩) hHeld ?rd11
              case yd11 => (intro w' hSw; (try dsimp only at hSw); go_simp; try (with_reducible rfl))
              simp only [Act.put, List.setIfInBounds_toArray, List.set_cons_zero, List.set_cons_succ]
              refine wpAnyH_take (i := 12) (oi := ⟨some 66, _, _, _, _, _⟩) (v := ?vd12) rfl (by kernel_rfl) (by kernel_rfl) (by kernel_rfl) (fun _ _ _ h => h) (Or.inl ⟨by rfl, ?yd12⟩) hHeld ?rd12
              case yd12 => (intro w' hSw; (try dsimp only at hSw); go_simp; try (with_reducible rfl))
              simp only [Act.put, List.setIfInBounds_toArray, List.set_cons_zero, List.set_cons_succ]
              refine wpAnyH_take (i := 13) (oi := ⟨some 67, _, _, _, _, _⟩) (v := ?vd13) rfl (by kernel_rfl) (by kernel_rfl) (by kernel_rfl) (fun _ _ _ h => h) (Or.inl ⟨by rfl, ?yd13⟩) hHeld ?rd13
              case yd13 => (intro w' hSw; (try dsimp only at hSw); go_simp; try (with_reducible rfl))
              simp only [Act.put, List.setIfInBounds_toArray, List.set_cons_zero, List.set_cons_succ]
              refine wpAnyH_take (i := 14) (oi := ⟨some 68, _, _, _, _, _⟩) (v := ?vd14) rfl (by kernel_rfl) (by kernel_rfl) (by kernel_rfl) (fun _ _ _ h => h) (Or.inl ⟨by rfl, ?yd14⟩) hHeld ?rd14
              case yd14 => (intro w' hSw; (try dsimp only at hSw); go_simp; try (with_reducible rfl))
              simp only [Act.put, List.setIfInBounds_toArray, List.set_cons_zero, List.set_cons_succ]
              refine wpAnyH_take (i := 15) (oi := ⟨some 69, _, _, _, _, _⟩) (v := ?vd15) rfl (by kernel_rfl) (by kernel_rfl) (by kernel_rfl) (fun _ _ _ h => h) (Or.inl ⟨by rfl, ?yd15⟩) hHeld ?rd15
              case yd15 => (intro w' hSw; (try dsimp only at hSw); go_simp; try (with_reducible rfl))
              simp only [Act.put, List.setIfInBounds_toArray, List.set_cons_zero, List.set_cons_succ]
              refine wpAnyH_take (i := 16) (oi := ⟨some 70, _, _, _, _, _⟩) (v := ?vd16) rfl (by kernel_rfl) (by kernel_rfl) (by kernel_rfl) (fun _ _ _ h => h) (Or.inl ⟨by rfl, ?yd16⟩) hHeld ?rd16
              case yd16 => (intro w' hSw; (try dsimp only at hSw); go_simp; try (with_reducible rfl))
              simp only [Act.put, List.setIfInBounds_toArray, List.set_cons_zero, List.set_cons_succ]
              refine wpAnyH_ready (rs := [17]) (by kernel_rfl) (by simp) ?_
              refine AllReadyH.cons (o := ⟨some 71, _, _, _, _, _⟩) rfl (fun K hK => ?_) AllReadyH.nil
              go_simp
              (with_reducible refine (rtenant_c false ten _ _ _ _ hi2).mono ?_)
              rintro e w6 ⟨rfl, hb⟩
              (try dsimp only)
              refine hK.out _ _ (HKP.out _ (hHeld.1.trans (hb.mono hHeld.1.size))) (fun hNext => ?_)
              clear hK K hHeld
              have hHeld := hNext
              clear hNext
              try simp only [Act.put, List.setIfInBounds_toArray, List.set_cons_zero, List.set_cons_succ]
              refine wpAnyH_take (i := 18) (oi := ⟨some 72, _, _, _, _, _⟩) (v := ?vd18) rfl (by kernel_rfl) (by kernel_rfl) (by kernel_rfl) (fun _ _ _ h => h) (Or.inl ⟨by rfl, ?yd18⟩) hHeld ?rd18
              case yd18 => (intro w' hSw; (try dsimp only at hSw); go_simp; try (with_reducible rfl))
              simp only [Act.put, List.setIfInBounds_toArray, List.set_cons_zero, List.set_cons_succ]
              refine wpAnyH_take (i := 19) (oi := ⟨some 73, _, _, _, _, _⟩) (v := ?vd19) rfl (by kernel_rfl) (by kernel_rfl) (by kernel_rfl) (fun _ _ _ h => h) (Or.inl ⟨by rfl, ?yd19⟩) hHeld ?rd19
              case yd19 => (intro w' hSw; (try dsimp only at hSw); go_simp; try (with_reducible rfl))
              simp only [Act.put, List.setIfInBounds_toArray, List.set_cons_zero, List.set_cons_succ]
              refine wpAnyH_done (by kernel_rfl) ?_ _
              have HE : Hid (polT T ten P Q = 2) := by
                show _ = _
                unfold polT
                rw [if_neg (by rintro (h | h | h | h | h) <;> first | omega | exact h HOE.out), if_pos (.inl fun h => by
                  have := (h k (xa, xb) hlt HXX.out).2
                  simp only at this
                  rw [hi2] at this
                  cases this)]
              have HBE := Lib.hid (HB3.out.trans (hHeld.1.mono HB3.out.size))
              clear hHeld HKP
              go_wp2
              go_ret
              exact ⟨by rw [HE.out]; rfl, HBE.out⟩
            | true =>
              go_upto_region 12 with (fail)
              refine wp_region_held_drew (S := fun w' => Below wr.heap.size wr w' ∧ w'.cell? ⟨w.heap.size + 1, 0, none⟩ = some (.int .i64 ten) ∧ w'.cell? ⟨w.heap.size + 1, 1, none⟩ = some (.slice (some ⟨pb, po, none⟩) P.length pc) ∧ w'.cell? ⟨w.heap.size + 1, 2, none⟩ = some (.slice wA Q.length wc) ∧ w'.cell? ⟨pb, po + k * 2, none⟩ = some (.int .i64 xa) ∧ w'.cell? ⟨pb, po + k * 2 + 1, none⟩ = some (.int .i64 xb)) (by kernel_rfl) (HKP.out _ (Below.refl _ wr).drew) (fun hHeld => ?_)
              refine wpAnyH_take (i := 0) (oi := ⟨some 54, _, _, _, _, _⟩) (v := ?ve0) rfl (by kernel_rfl) (by kernel_rfl) (by kernel_rfl) (fun _ _ _ h => h) (Or.inl ⟨by rfl, ?ye0⟩) hHeld ?re0
              case ye0 => (intro w' hSw; (try dsimp only at hSw); go_simp; try (with_reducible rfl))
              simp only [Act.put, List.setIfInBounds_toArray, List.set_cons_zero, List.set_cons_succ]
              refine wpAnyH_take (i := 1) (oi := ⟨some 55, _, _, _, _, _⟩) (v := ?ve1) rfl (by kernel_rfl) (by kernel_rfl) (by kernel_rfl) (fun _ _ _ h => h) (Or.inl ⟨by rfl, ?ye1⟩) hHeld ?re1
              case ye1 => (intro w' hSw; (try dsimp only at hSw); go_simp; try (with_reducible rfl))
              simp only [Act.put, List.setIfInBounds_toArray, List.set_cons_zero, List.set_cons_succ]
              refine wpAnyH_take (i := 2) (oi := ⟨some 56, _, _, _, _, _⟩) (v := ?ve2) rfl (by kernel_rfl) (by kernel_rfl) (by kernel_rfl) (fun _ _ _ h => h) (Or.inl ⟨by rfl, ?ye2⟩) hHeld ?re2
              case ye2 => (intro w' hSw; (try dsimp only at hSw); go_simp; try (with_reducible rfl))
              simp only [Act.put, List.setIfInBounds_toArray, List.set_cons_zero, List.set_cons_succ]
              refine wpAnyH_take (i := 3) (oi := ⟨some 57, _, _, _, _, _⟩) (v := ?ve3) rfl (by kernel_rfl) (by kernel_rfl) (by kernel_rfl) (fun _ _ _ h => h) (Or.inl ⟨by rfl, ?ye3⟩) hHeld ?re3
              case ye3 => (intro w' hSw; (try dsimp only at hSw); go_simp; try (with_reducible rfl))
              simp only [Act.put, List.setIfInBounds_toArray, List.set_cons_zero, List.set_cons_succ]
              refine wpAnyH_take (i := 4) (oi := ⟨some 58, _, _, _, _, _⟩) (v := ?ve4) rfl (by kernel_rfl) (by kernel_rfl) (by kernel_rfl) (fun _ _ _ h => h) (Or.inl ⟨by rfl, ?ye4⟩) hHeld ?re4
              case ye4 => (intro w' hSw; (try dsimp only at hSw); go_simp; try (with_reducible rfl))
              simp only [Act.put, List.setIfInBounds_toArray, List.set_cons_zero, List.set_cons_succ]
              refine wpAnyH_take (i := 5) (oi := ⟨some 59, _, _, _, _, _⟩) (v := ?ve5) rfl (by kernel_rfl) (by kernel_rfl) (by kernel_rfl) (fun _ _ _ h => h) (Or.inl ⟨by rfl, ?ye5⟩) hHeld ?re5
              case ye5 => (intro w' hSw; (try dsimp only at hSw); go_simp; try (with_reducible rfl))
              simp only [Act.put, List.setIfInBounds_toArray, List.set_cons_zero, List.set_cons_succ]
              refine wpAnyH_take (i := 6) (oi := ⟨some 60, _, _, _, _, _⟩) (v := ?ve6) rfl (by kernel_rfl) (by kernel_rfl) (by kernel_rfl) (fun _ _ _ h => h) (Or.inl ⟨by rfl, ?ye6⟩) hHeld ?re6
              case ye6 => (intro w' hSw; (try dsimp only at hSw); go_simp; try (with_reducible rfl))
              simp only [Act.put, List.setIfInBounds_toArray, List.set_cons_zero, List.set_cons_succ]
              refine wpAnyH_ready (rs := [7]) (by kernel_rfl) (by simp) ?_
              refine AllReadyH.cons (o := ⟨some 61, _, _, _, _, _⟩) rfl (fun K hK => ?_) AllReadyH.nil
              go_simp
              (with_reducible refine (rtenant_c true ten _ _ _ _ hi1).mono ?_)
              rintro e w5 ⟨rfl, hb⟩
              (try dsimp only)
              refine hK.out _ _ (HKP.out _ (hHeld.1.trans (hb.mono hHeld.1.size))) (fun hNext => ?_)
              clear hK K hHeld
              have hHeld := hNext
              clear hNext
              try simp only [Act.put, List.setIfInBounds_toArray, List.set_cons_zero, List.set_cons_succ]
              refine wpAnyH_take (i := 8) (oi := ⟨some 62, _, _, _, _, _⟩) (v := ?ve8) rfl (by kernel_rfl) (by kernel_rfl) (by kernel_rfl) (fun _ _ _ h => h) (Or.inl ⟨by rfl, ?ye8⟩) hHeld ?re8
              case ye8 => (intro w' hSw; (try dsimp only at hSw); go_simp; try (with_reducible rfl))
              simp only [Act.put, List.setIfInBounds_toArray, List.set_cons_zero, List.set_cons_succ]
              refine wpAnyH_take (i := 9) (oi := ⟨some 63, _, _, _, _, _⟩) (v := ?ve9) rfl (by kernel_rfl) (by kernel_rfl) (by kernel_rfl) (fun _ _ _ h => h) (Or.inl ⟨by rfl, ?ye9⟩) hHeld ?re9
              case ye9 => (intro w' hSw; (try dsimp only at hSw); go_simp; try (with_reducible rfl))
              simp only [Act.put, List.setIfInBounds_toArray, List.set_cons_zero, List.set_cons_succ]
              refine wpAnyH_take (i := 10) (oi := ⟨some 64, _, _, _, _, _⟩) (v := ?ve10) rfl (by kernel_rfl) (by kernel_rfl) (by kernel_rfl) (fun _ _ _ h => h) (Or.inl ⟨by rfl, ?ye10⟩) hHeld ?re10
              case ye10 => (intro w' hSw; (try dsimp only at hSw); go_simp; try (with_reducible rfl))
              simp only [Act.put, List.setIfInBounds_toArray, List.set_cons_zero, List.set_cons_succ]
              refine wpAnyH_take (i := 11) (oi := ⟨some 65, _, _, _, _, _⟩) (v := ?ve11) rfl (by kernel_rfl) (by kernel_rfl) (by kernel_rfl) (fun _ _ _ h => h) (Or.inl ⟨by rfl, ?ye11⟩) hHeld ?re11
              case ye11 => (intro w' hSw; (try dsimp only at hSw); go_simp; try (with_reducible rfl))
              simp only [Act.put, List.setIfInBounds_toArray, List.set_cons_zero, List.set_cons_succ]
              refine wpAnyH_take (i := 12) (oi := ⟨some 66, _, _, _, _, _⟩) (v := ?ve12) rfl (by kernel_rfl) (by kernel_rfl) (by kernel_rfl) (fun _ _ _ h => h) (Or.inl ⟨by rfl, ?ye12⟩) hHeld ?re12
              case ye12 => (intro w' hSw; (try dsimp only at hSw); go_simp; try (with_reducible rfl))
              simp only [Act.put, List.setIfInBounds_toArray, List.set_cons_zero, List.set_cons_succ]
              refine wpAnyH_take (i := 13) (oi := ⟨some 67, _, _, _, _, _⟩) (v := ?ve13) rfl (by kernel_rfl) (by kernel_rfl) (by kernel_rfl) (fun _ _ _ h => h) (Or.inl ⟨by rfl, ?ye13⟩) hHeld ?re13
              case ye13 => (intro w' hSw; (try dsimp only at hSw); go_simp; try (with_reducible rfl))
              simp only [Act.put, List.setIfInBounds_toArray, List.set_cons_zero, List.set_cons_succ]
              refine wpAnyH_take (i := 14) (oi := ⟨some 68, _, _, _, _, _⟩) (v := ?ve14) rfl (by kernel_rfl) (by kernel_rfl) (by kernel_rfl) (fun _ _ _ h => h) (Or.inl ⟨by rfl, ?ye14⟩) hHeld ?re14
              case ye14 => (intro w' hSw; (try dsimp only at hSw); go_simp; try (with_reducible rfl))
              simp only [Act.put, List.setIfInBounds_toArray, List.set_cons_zero, List.set_cons_succ]
              refine wpAnyH_take (i := 15) (oi := ⟨some 69, _, _, _, _, _⟩) (v := ?ve15) rfl (by kernel_rfl) (by kernel_rfl) (by kernel_rfl) (fun _ _ _ h => h) (Or.inl ⟨by rfl, ?ye15⟩) hHeld ?re15
              case ye15 => (intro w' hSw; (try dsimp only at hSw); go_simp; try (with_reducible rfl))
              simp only [Act.put, List.setIfInBounds_toArray, List.set_cons_zero, List.set_cons_succ]
              refine wpAnyH_take (i := 16) (oi := ⟨some 70, _, _, _, _, _⟩) (v := ?ve16) rfl (by kernel_rfl) (by kernel_rfl) (by kernel_rfl) (fun _ _ _ h => h) (Or.inl ⟨by rfl, ?ye16⟩) hHeld ?re16
              case ye16 => (intro w' hSw; (try dsimp only at hSw); go_simp; try (with_reducible rfl))
              simp only [Act.put, List.setIfInBounds_toArray, List.set_cons_zero, List.set_cons_succ]
              refine wpAnyH_ready (rs := [17]) (by kernel_rfl) (by simp) ?_
              refine AllReadyH.cons (o := ⟨some 71, _, _, _, _, _⟩) rfl (fun K hK => ?_) AllReadyH.nil
              go_simp
              (with_reducible refine (rtenant_c true ten _ _ _ _ hi2).mono ?_)
              rintro e w6 ⟨rfl, hb⟩
              (try dsimp only)
              refine hK.out _ _ (HKP.out _ (hHeld.1.trans (hb.mono hHeld.1.size))) (fun hNext => ?_)
              clear hK K hHeld
              have hHeld := hNext
              clear hNext
              try simp only [Act.put, List.setIfInBounds_toArray, List.set_cons_zero, List.set_cons_succ]
              refine wpAnyH_take (i := 18) (oi := ⟨some 72, _, _, _, _, _⟩) (v := ?ve18) rfl (by kernel_rfl) (by kernel_rfl) (by kernel_rfl) (fun _ _ _ h => h) (Or.inl ⟨by rfl, ?ye18⟩) hHeld ?re18
              case ye18 => (intro w' hSw; (try dsimp only at hSw); go_simp; try (with_reducible rfl))
              simp only [Act.put, List.setIfInBounds_toArray, List.set_cons_zero, List.set_cons_succ]
              refine wpAnyH_take (i := 19) (oi := ⟨some 73, _, _, _, _, _⟩) (v := ?ve19) rfl (by kernel_rfl) (by kernel_rfl) (by kernel_rfl) (fun _ _ _ h => h) (Or.inl ⟨by rfl, ?ye19⟩) hHeld ?re19
              case ye19 => (intro w' hSw; (try dsimp only at hSw); go_simp; try (with_reducible rfl))
              simp only [Act.put, List.setIfInBounds_toArray, List.set_cons_zero, List.set_cons_succ]
              refine wpAnyH_done (by kernel_rfl) ?_ _
              have HO2 : Hid (okPe P ten (k + 1)) := fun j x hj hx => by
                by_cases e : j = k
                · subst e
                  rw [HXX.out] at hx
                  injection hx with hx
                  subst hx
                  exact ⟨hi1, hi2⟩
                · exact HO.out j x (by omega) hx
              have HW2 := Lib.hid (HW.out.trans (hHeld.1.mono HW.out.size))
              clear hHeld HKP HW HB3 N3 M3
              go_wp2
              go_roundg (P.length - (k + 1))
              case measure => omega
              case rel => exact ⟨k + 1, by omega, rfl, by go_num, HO2, HW2⟩
        · have hltz : ¬ (k : Int) < (P.length : Int) := by omega
          obtain rfl : k = P.length := by omega
          have HOP := HO
          clear HO HW
          go_wp2
          clear t3 d0 d1 d2 N2 M2 HB2
          go_loopg [8, 9] Q.length (fun gk s8 _ wq => ∃ k : Nat, k ≤ Q.length ∧ gk = Q.length - k ∧ s8 = .int .i64 k ∧ Hid (okWy Q ten T.length k) ∧ Hid (Below wr.heap.size wr wq))
          case atStart => exact ⟨0, Nat.zero_le _, rfl, rfl, fun j x hj => absurd hj (Nat.not_lt_zero _), Below.refl _ _⟩
          case round =>
            obtain ⟨k, hk, rfl, rfl, HO, HW⟩ := hrel
            have HB4 := Lib.hid (HB3.out.trans (HW.out.mono HB3.out.size))
            have N4 := Lib.hid (N3.out.on HW.out)
            have M4 := Lib.hid (M3.out.on HW.out)
            obtain ⟨d0, d1, d2⟩ := M4.out.three
            by_cases hlt : k < Q.length
            · have hltz : (k : Int) < (Q.length : Int) := by omega
              obtain ⟨x, hx⟩ : ∃ x, Q[k]? = some x := ⟨_, List.getElem?_eq_getElem hlt⟩
              obtain ⟨qb, qo, rfl, _, hqc⟩ := HWA.out (by rintro rfl; simp at hlt)
              have x0 := on_some HB4.out (hqc k x hx).1
              have x1 := on_some HB4.out (hqc k x hx).2.1
              have x2 := on_some HB4.out (hqc k x hx).2.2
              obtain ⟨fr, tt, vi⟩ := x
              simp only at x0 x1 x2
              have hb5 := below1 wr (.cells #[.int .i64 fr, .int .i64 tt, .int .i64 vi] 123)
              have HB5 := Lib.hid (HB4.out.trans (hb5.mono HB4.out.size))
              have HW5 := Lib.hid (HW.out.trans (hb5.mono HW.out.size))
              have N5 := Lib.hid (N4.out.on hb5)
              have M5 := Lib.hid (M4.out.on hb5)
              have NW : Hid (Blk (wr.alloc (.cells #[.int .i64 fr, .int .i64 tt, .int .i64 vi] 123)) wr.heap.size 123 #[.int .i64 fr, .int .i64 tt, .int .i64 vi]) := Blk.new wr _ _
              have hz5 := M4.out.lt
              have hz5n := Nat.ne_of_lt hz5
              have hz6 := N4.out.lt
              have hz6n := Nat.ne_of_lt hz6
              have HXX := Lib.hid hx
              have HBADW : Hid (∀ h : ¬ (inB fr ten = true ∧ inB tt ten = true ∧ inB vi T.length = true), polT T ten P Q = 2) := fun h => by
                unfold polT
                rw [if_neg (by rintro (h | h | h | h | h) <;> first | omega | exact h HOE.out), if_pos (.inr fun g => h (g k _ hlt HXX.out))]
              obtain ⟨g0, g1, g2⟩ := M5.out.three
              clear hqc hx hb5 HB4 N4 M4 HW
              cases hi1 : inB fr ten with
              | false =>
                have HE := Lib.hid (HBADW.out (fun h => by rw [hi1] at h; cases h.1))
                go_wp2_with fail
                (with_reducible refine (rtenant_c false ten fr _ _ _ hi1).mono ?_)
                rintro e w6 ⟨rfl, hb6⟩
                have HB6 := Lib.hid (HB5.out.trans (hb6.mono HB5.out.size))
                clear hb6 HB5 N5 M5 NW d0 d1 d2 g0 g1 g2 x0 x1 x2
                go_wp2
                go_ret
                exact ⟨by rw [HE.out]; rfl, HB6.out⟩
              | true =>
                cases hi2 : inB tt ten with
                | false =>
                  have HE := Lib.hid (HBADW.out (fun h => by rw [hi2] at h; cases h.2.1))
                  go_wp2_with fail
                  (with_reducible refine (rtenant_c true ten fr _ _ _ hi1).mono ?_)
                  rintro e w6 ⟨rfl, hb6⟩
                  have HB6 := Lib.hid (HB5.out.trans (hb6.mono HB5.out.size))
                  obtain ⟨r0, r1, r2⟩ := (M5.out.on hb6).three
                  obtain ⟨v0, v1, v2⟩ := (NW.out.on hb6).three
                  clear hb6 HB5 N5 M5 NW d0 d1 d2 g0 g1 g2 x0 x1 x2
                  go_wp2_with fail
                  (with_reducible refine (rtenant_c false ten tt _ _ _ hi2).mono ?_)
                  rintro e w7 ⟨rfl, hb7⟩
                  have HB7 := Lib.hid (HB6.out.trans (hb7.mono HB6.out.size))
                  clear hb7 HB6 r0 r1 r2 v0 v1 v2
                  go_wp2
                  go_ret
                  exact ⟨by rw [HE.out]; rfl, HB7.out⟩
                | true =>
                  go_wp2_with fail
                  (with_reducible refine (rtenant_c true ten fr _ _ _ hi1).mono ?_)
                  rintro e w6 ⟨rfl, hb6⟩
                  have HB6 := Lib.hid (HB5.out.trans (hb6.mono HB5.out.size))
                  have HW6 := Lib.hid (HW5.out.trans (hb6.mono HW5.out.size))
                  have N6 := Lib.hid (N5.out.on hb6)
                  have NW6 := Lib.hid (NW.out.on hb6)
                  obtain ⟨r0, r1, r2⟩ := (M5.out.on hb6).three
                  obtain ⟨v0, v1, v2⟩ := NW6.out.three
                  clear hb6 HB5 N5 M5 NW d0 d1 d2 g0 g1 g2 x0 x1 x2 HW5
                  go_wp2_with fail
                  (with_reducible refine (rtenant_c true ten tt _ _ _ hi2).mono ?_)
                  rintro e w7 ⟨rfl, hb7⟩
                  have HB7 := Lib.hid (HB6.out.trans (hb7.mono HB6.out.size))
                  have HW7 := Lib.hid (HW6.out.trans (hb7.mono HW6.out.size))
                  have t7 := (N6.out.on hb7).single
                  obtain ⟨y0, y1, y2⟩ := (NW6.out.on hb7).three
                  clear hb7 HB6 r0 r1 r2 v0 v1 v2 HW6 N6 NW6
                  by_cases h5 : vi < 0
                  · have HE := Lib.hid (HBADW.out (fun h => by have := h.2.2; simp [inB] at this; omega))
                    go_wp2
                    go_ret
                    exact ⟨by rw [HE.out]; rfl, HB7.out⟩
                  · by_cases h6 : (T.length : Int) ≤ vi
                    · have HE := Lib.hid (HBADW.out (fun h => by have := h.2.2; simp [inB] at this; omega))
                      go_wp2
                      go_ret
                      exact ⟨by rw [HE.out]; rfl, HB7.out⟩
                    · have HO2 : Hid (okWy Q ten T.length (k + 1)) := fun j x hj hx => by
                        by_cases e : j = k
                        · subst e
                          rw [HXX.out] at hx
                          injection hx with hx
                          subst hx
                          exact ⟨hi1, hi2, by simp [inB]; omega⟩
                        · exact HO.out j x (by omega) hx
                      go_wp2
                      go_roundg (Q.length - (k + 1))
                      case measure => omega
                      case rel => exact ⟨k + 1, by omega, rfl, by go_num, HO2, HW7⟩
            · have hltz : ¬ (k : Int) < (Q.length : Int) := by omega
              obtain rfl : k = Q.length := by omega
              have HE : Hid (polT T ten P Q = 0) := by
                show _ = _
                unfold polT
                rw [if_neg (by rintro (h | h | h | h | h) <;> first | omega | exact h HOE.out), if_neg (by rintro (h | h); exact h HOP.out; exact h HO.out)]
              go_wp2
              go_ret
              exact ⟨by rw [HE.out]; rfl, HB4.out⟩
end Go.Proofs

namespace Go.Proofs
open Go.RowKit Go.Proofs.Hd Go.Lib
set_option maxRecDepth 100000 in
set_option maxHeartbeats 1000000 in
theorem rp0a {tn pr sp co : Int} (tv : Value) (T : List (List Pt)) (n i : Nat) (L : List Pt) (w : World) (hT : PsT w tv T) (hL : T[n]? = some L) (hp : L[i]? = some (⟨0, tn, pr, sp, co⟩ : Pt)) (h : ¬ tn = 0) : Calls Try.prog 63 #[.agg #[tv], .int .i64 n, .int .i64 i] w fun e w' => e = .returned (.bool false) ∧ Below w.heap.size w w' := by
  obtain ⟨A, cap, rfl, htm, hA⟩ := hT
  have hnT := (List.getElem?_eq_some_iff.1 hL).1
  have hiL := (List.getElem?_eq_some_iff.1 hp).1
  obtain ⟨b, o, rfl, hb, hc⟩ := hA (by rintro rfl; simp at hL)
  obtain ⟨s, hs, hP⟩ := hc n L hL
  obtain ⟨A2, cap2, rfl, hLm, hP2⟩ := hP
  obtain ⟨b2, o2, rfl, hb2, hc2⟩ := hP2 (by rintro rfl; simp at hp)
  have hpc := hc2 i _ hp
  have hnz : (n : Int) < (T.length : Int) := by omega
  have hiz : (i : Int) < (L.length : Int) := by omega
  have B0 : Below w.heap.size w (w.alloc (.cells #[.slice (some ⟨b, o, none⟩) T.length cap] 24)) := below1 w _
  have B1 : Below w.heap.size w ((w.alloc (.cells #[.slice (some ⟨b, o, none⟩) T.length cap] 24)).alloc (.cells #[.int .i64 0, .int .i64 tn, .int .i64 pr, .int .i64 sp, .int .i64 co] 91)) := below2 w _ _
  have cs := on_some B0 hs
  obtain ⟨c0, c1, c2, c3, c4⟩ := hpc.on B0
  have N0 : Blk ((w.alloc (.cells #[.slice (some ⟨b, o, none⟩) T.length cap] 24)).alloc (.cells #[.int .i64 0, .int .i64 tn, .int .i64 pr, .int .i64 sp, .int .i64 co] 91)) w.heap.size 24 #[.slice (some ⟨b, o, none⟩) T.length cap] := (Blk.new w _ _).on (below1 _ _)
  have N1 : Blk ((w.alloc (.cells #[.slice (some ⟨b, o, none⟩) T.length cap] 24)).alloc (.cells #[.int .i64 0, .int .i64 tn, .int .i64 pr, .int .i64 sp, .int .i64 co] 91)) (w.heap.size + 1) 91 #[.int .i64 0, .int .i64 tn, .int .i64 pr, .int .i64 sp, .int .i64 co] := Blk.new2 w _ _ _
  have t0 := N0.one
  obtain ⟨p0, p1, p2, p3, p4⟩ := N1.five
  clear hA hs hpc hP2 hc2 hp hL N0 N1 hc
  go_enter Try.func63, Try.ntmps63
  go_wp2
  go_ret
  exact ⟨rfl, B1⟩
set_option maxRecDepth 100000 in
set_option maxHeartbeats 1000000 in
theorem rp0b {pr sp co : Int} (tv : Value) (T : List (List Pt)) (n i : Nat) (L : List Pt) (w : World) (hT : PsT w tv T) (hL : T[n]? = some L) (hp : L[i]? = some (⟨0, 0, pr, sp, co⟩ : Pt)) (h : ¬ pr = 0) : Calls Try.prog 63 #[.agg #[tv], .int .i64 n, .int .i64 i] w fun e w' => e = .returned (.bool false) ∧ Below w.heap.size w w' := by
  obtain ⟨A, cap, rfl, htm, hA⟩ := hT
  have hnT := (List.getElem?_eq_some_iff.1 hL).1
  have hiL := (List.getElem?_eq_some_iff.1 hp).1
  obtain ⟨b, o, rfl, hb, hc⟩ := hA (by rintro rfl; simp at hL)
  obtain ⟨s, hs, hP⟩ := hc n L hL
  obtain ⟨A2, cap2, rfl, hLm, hP2⟩ := hP
  obtain ⟨b2, o2, rfl, hb2, hc2⟩ := hP2 (by rintro rfl; simp at hp)
  have hpc := hc2 i _ hp
  have hnz : (n : Int) < (T.length : Int) := by omega
  have hiz : (i : Int) < (L.length : Int) := by omega
  have B0 : Below w.heap.size w (w.alloc (.cells #[.slice (some ⟨b, o, none⟩) T.length cap] 24)) := below1 w _
  have B1 : Below w.heap.size w ((w.alloc (.cells #[.slice (some ⟨b, o, none⟩) T.length cap] 24)).alloc (.cells #[.int .i64 0, .int .i64 0, .int .i64 pr, .int .i64 sp, .int .i64 co] 91)) := below2 w _ _
  have cs := on_some B0 hs
  obtain ⟨c0, c1, c2, c3, c4⟩ := hpc.on B0
  have N0 : Blk ((w.alloc (.cells #[.slice (some ⟨b, o, none⟩) T.length cap] 24)).alloc (.cells #[.int .i64 0, .int .i64 0, .int .i64 pr, .int .i64 sp, .int .i64 co] 91)) w.heap.size 24 #[.slice (some ⟨b, o, none⟩) T.length cap] := (Blk.new w _ _).on (below1 _ _)
  have N1 : Blk ((w.alloc (.cells #[.slice (some ⟨b, o, none⟩) T.length cap] 24)).alloc (.cells #[.int .i64 0, .int .i64 0, .int .i64 pr, .int .i64 sp, .int .i64 co] 91)) (w.heap.size + 1) 91 #[.int .i64 0, .int .i64 0, .int .i64 pr, .int .i64 sp, .int .i64 co] := Blk.new2 w _ _ _
  have t0 := N0.one
  obtain ⟨p0, p1, p2, p3, p4⟩ := N1.five
  clear hA hs hpc hP2 hc2 hp hL N0 N1 hc
  go_enter Try.func63, Try.ntmps63
  go_wp2
  go_ret
  exact ⟨rfl, B1⟩
set_option maxRecDepth 100000 in
set_option maxHeartbeats 1000000 in
theorem rp0c {sp co : Int} (tv : Value) (T : List (List Pt)) (n i : Nat) (L : List Pt) (w : World) (hT : PsT w tv T) (hL : T[n]? = some L) (hp : L[i]? = some (⟨0, 0, 0, sp, co⟩ : Pt)) (h : ¬ sp = 0) : Calls Try.prog 63 #[.agg #[tv], .int .i64 n, .int .i64 i] w fun e w' => e = .returned (.bool false) ∧ Below w.heap.size w w' := by
  obtain ⟨A, cap, rfl, htm, hA⟩ := hT
  have hnT := (List.getElem?_eq_some_iff.1 hL).1
  have hiL := (List.getElem?_eq_some_iff.1 hp).1
  obtain ⟨b, o, rfl, hb, hc⟩ := hA (by rintro rfl; simp at hL)
  obtain ⟨s, hs, hP⟩ := hc n L hL
  obtain ⟨A2, cap2, rfl, hLm, hP2⟩ := hP
  obtain ⟨b2, o2, rfl, hb2, hc2⟩ := hP2 (by rintro rfl; simp at hp)
  have hpc := hc2 i _ hp
  have hnz : (n : Int) < (T.length : Int) := by omega
  have hiz : (i : Int) < (L.length : Int) := by omega
  have B0 : Below w.heap.size w (w.alloc (.cells #[.slice (some ⟨b, o, none⟩) T.length cap] 24)) := below1 w _
  have B1 : Below w.heap.size w ((w.alloc (.cells #[.slice (some ⟨b, o, none⟩) T.length cap] 24)).alloc (.cells #[.int .i64 0, .int .i64 0, .int .i64 0, .int .i64 sp, .int .i64 co] 91)) := below2 w _ _
  have cs := on_some B0 hs
  obtain ⟨c0, c1, c2, c3, c4⟩ := hpc.on B0
  have N0 : Blk ((w.alloc (.cells #[.slice (some ⟨b, o, none⟩) T.length cap] 24)).alloc (.cells #[.int .i64 0, .int .i64 0, .int .i64 0, .int .i64 sp, .int .i64 co] 91)) w.heap.size 24 #[.slice (some ⟨b, o, none⟩) T.length cap] := (Blk.new w _ _).on (below1 _ _)
  have N1 : Blk ((w.alloc (.cells #[.slice (some ⟨b, o, none⟩) T.length cap] 24)).alloc (.cells #[.int .i64 0, .int .i64 0, .int .i64 0, .int .i64 sp, .int .i64 co] 91)) (w.heap.size + 1) 91 #[.int .i64 0, .int .i64 0, .int .i64 0, .int .i64 sp, .int .i64 co] := Blk.new2 w _ _ _
  have t0 := N0.one
  obtain ⟨p0, p1, p2, p3, p4⟩ := N1.five
  clear hA hs hpc hP2 hc2 hp hL N0 N1 hc
  go_enter Try.func63, Try.ntmps63
  go_wp2
  go_ret
  exact ⟨rfl, B1⟩
set_option maxRecDepth 100000 in
set_option maxHeartbeats 1000000 in
theorem rp0d {co : Int} (tv : Value) (T : List (List Pt)) (n i : Nat) (L : List Pt) (w : World) (hT : PsT w tv T) (hL : T[n]? = some L) (hp : L[i]? = some (⟨0, 0, 0, 0, co⟩ : Pt)) (h : ¬ co = 0) : Calls Try.prog 63 #[.agg #[tv], .int .i64 n, .int .i64 i] w fun e w' => e = .returned (.bool false) ∧ Below w.heap.size w w' := by
  obtain ⟨A, cap, rfl, htm, hA⟩ := hT
  have hnT := (List.getElem?_eq_some_iff.1 hL).1
  have hiL := (List.getElem?_eq_some_iff.1 hp).1
  obtain ⟨b, o, rfl, hb, hc⟩ := hA (by rintro rfl; simp at hL)
  obtain ⟨s, hs, hP⟩ := hc n L hL
  obtain ⟨A2, cap2, rfl, hLm, hP2⟩ := hP
  obtain ⟨b2, o2, rfl, hb2, hc2⟩ := hP2 (by rintro rfl; simp at hp)
  have hpc := hc2 i _ hp
  have hnz : (n : Int) < (T.length : Int) := by omega
  have hiz : (i : Int) < (L.length : Int) := by omega
  have B0 : Below w.heap.size w (w.alloc (.cells #[.slice (some ⟨b, o, none⟩) T.length cap] 24)) := below1 w _
  have B1 : Below w.heap.size w ((w.alloc (.cells #[.slice (some ⟨b, o, none⟩) T.length cap] 24)).alloc (.cells #[.int .i64 0, .int .i64 0, .int .i64 0, .int .i64 0, .int .i64 co] 91)) := below2 w _ _
  have cs := on_some B0 hs
  obtain ⟨c0, c1, c2, c3, c4⟩ := hpc.on B0
  have N0 : Blk ((w.alloc (.cells #[.slice (some ⟨b, o, none⟩) T.length cap] 24)).alloc (.cells #[.int .i64 0, .int .i64 0, .int .i64 0, .int .i64 0, .int .i64 co] 91)) w.heap.size 24 #[.slice (some ⟨b, o, none⟩) T.length cap] := (Blk.new w _ _).on (below1 _ _)
  have N1 : Blk ((w.alloc (.cells #[.slice (some ⟨b, o, none⟩) T.length cap] 24)).alloc (.cells #[.int .i64 0, .int .i64 0, .int .i64 0, .int .i64 0, .int .i64 co] 91)) (w.heap.size + 1) 91 #[.int .i64 0, .int .i64 0, .int .i64 0, .int .i64 0, .int .i64 co] := Blk.new2 w _ _ _
  have t0 := N0.one
  obtain ⟨p0, p1, p2, p3, p4⟩ := N1.five
  have e3 : (co == 0) = false := beq_false_of_ne h
  clear hA hs hpc hP2 hc2 hp hL N0 N1 hc
  go_enter Try.func63, Try.ntmps63
  go_wp2
  go_ret
  exact ⟨rfl, B1⟩
set_option maxRecDepth 100000 in
set_option maxHeartbeats 1000000 in
theorem rp0e (tv : Value) (T : List (List Pt)) (n i : Nat) (L : List Pt) (w : World) (hT : PsT w tv T) (hL : T[n]? = some L) (hp : L[i]? = some (⟨0, 0, 0, 0, 0⟩ : Pt))  : Calls Try.prog 63 #[.agg #[tv], .int .i64 n, .int .i64 i] w fun e w' => e = .returned (.bool true) ∧ Below w.heap.size w w' := by
  obtain ⟨A, cap, rfl, htm, hA⟩ := hT
  have hnT := (List.getElem?_eq_some_iff.1 hL).1
  have hiL := (List.getElem?_eq_some_iff.1 hp).1
  obtain ⟨b, o, rfl, hb, hc⟩ := hA (by rintro rfl; simp at hL)
  obtain ⟨s, hs, hP⟩ := hc n L hL
  obtain ⟨A2, cap2, rfl, hLm, hP2⟩ := hP
  obtain ⟨b2, o2, rfl, hb2, hc2⟩ := hP2 (by rintro rfl; simp at hp)
  have hpc := hc2 i _ hp
  have hnz : (n : Int) < (T.length : Int) := by omega
  have hiz : (i : Int) < (L.length : Int) := by omega
  have B0 : Below w.heap.size w (w.alloc (.cells #[.slice (some ⟨b, o, none⟩) T.length cap] 24)) := below1 w _
  have B1 : Below w.heap.size w ((w.alloc (.cells #[.slice (some ⟨b, o, none⟩) T.length cap] 24)).alloc (.cells #[.int .i64 0, .int .i64 0, .int .i64 0, .int .i64 0, .int .i64 0] 91)) := below2 w _ _
  have cs := on_some B0 hs
  obtain ⟨c0, c1, c2, c3, c4⟩ := hpc.on B0
  have N0 : Blk ((w.alloc (.cells #[.slice (some ⟨b, o, none⟩) T.length cap] 24)).alloc (.cells #[.int .i64 0, .int .i64 0, .int .i64 0, .int .i64 0, .int .i64 0] 91)) w.heap.size 24 #[.slice (some ⟨b, o, none⟩) T.length cap] := (Blk.new w _ _).on (below1 _ _)
  have N1 : Blk ((w.alloc (.cells #[.slice (some ⟨b, o, none⟩) T.length cap] 24)).alloc (.cells #[.int .i64 0, .int .i64 0, .int .i64 0, .int .i64 0, .int .i64 0] 91)) (w.heap.size + 1) 91 #[.int .i64 0, .int .i64 0, .int .i64 0, .int .i64 0, .int .i64 0] := Blk.new2 w _ _ _
  have t0 := N0.one
  obtain ⟨p0, p1, p2, p3, p4⟩ := N1.five
  clear hA hs hpc hP2 hc2 hp hL N0 N1 hc
  go_enter Try.func63, Try.ntmps63
  go_wp2
  go_ret
  exact ⟨rfl, B1⟩
set_option maxRecDepth 100000 in
set_option maxHeartbeats 1000000 in
theorem rp1a {tn pr sp co : Int} (tv : Value) (T : List (List Pt)) (n i : Nat) (L : List Pt) (w : World) (hT : PsT w tv T) (hL : T[n]? = some L) (hp : L[i]? = some (⟨1, tn, pr, sp, co⟩ : Pt)) (h : ¬ 0 ≤ tn) : Calls Try.prog 63 #[.agg #[tv], .int .i64 n, .int .i64 i] w fun e w' => e = .returned (.bool false) ∧ Below w.heap.size w w' := by
  obtain ⟨A, cap, rfl, htm, hA⟩ := hT
  have hnT := (List.getElem?_eq_some_iff.1 hL).1
  have hiL := (List.getElem?_eq_some_iff.1 hp).1
  obtain ⟨b, o, rfl, hb, hc⟩ := hA (by rintro rfl; simp at hL)
  obtain ⟨s, hs, hP⟩ := hc n L hL
  obtain ⟨A2, cap2, rfl, hLm, hP2⟩ := hP
  obtain ⟨b2, o2, rfl, hb2, hc2⟩ := hP2 (by rintro rfl; simp at hp)
  have hpc := hc2 i _ hp
  have hnz : (n : Int) < (T.length : Int) := by omega
  have hiz : (i : Int) < (L.length : Int) := by omega
  have B0 : Below w.heap.size w (w.alloc (.cells #[.slice (some ⟨b, o, none⟩) T.length cap] 24)) := below1 w _
  have B1 : Below w.heap.size w ((w.alloc (.cells #[.slice (some ⟨b, o, none⟩) T.length cap] 24)).alloc (.cells #[.int .i64 1, .int .i64 tn, .int .i64 pr, .int .i64 sp, .int .i64 co] 91)) := below2 w _ _
  have cs := on_some B0 hs
  obtain ⟨c0, c1, c2, c3, c4⟩ := hpc.on B0
  have N0 : Blk ((w.alloc (.cells #[.slice (some ⟨b, o, none⟩) T.length cap] 24)).alloc (.cells #[.int .i64 1, .int .i64 tn, .int .i64 pr, .int .i64 sp, .int .i64 co] 91)) w.heap.size 24 #[.slice (some ⟨b, o, none⟩) T.length cap] := (Blk.new w _ _).on (below1 _ _)
  have N1 : Blk ((w.alloc (.cells #[.slice (some ⟨b, o, none⟩) T.length cap] 24)).alloc (.cells #[.int .i64 1, .int .i64 tn, .int .i64 pr, .int .i64 sp, .int .i64 co] 91)) (w.heap.size + 1) 91 #[.int .i64 1, .int .i64 tn, .int .i64 pr, .int .i64 sp, .int .i64 co] := Blk.new2 w _ _ _
  have t0 := N0.one
  obtain ⟨p0, p1, p2, p3, p4⟩ := N1.five
  clear hA hs hpc hP2 hc2 hp hL N0 N1 hc
  go_enter Try.func63, Try.ntmps63
  go_wp2
  go_ret
  exact ⟨rfl, B1⟩
set_option maxRecDepth 100000 in
set_option maxHeartbeats 1000000 in
theorem rp1b {tn pr sp co : Int} (tv : Value) (T : List (List Pt)) (n i : Nat) (L : List Pt) (w : World) (hT : PsT w tv T) (hL : T[n]? = some L) (hp : L[i]? = some (⟨1, tn, pr, sp, co⟩ : Pt)) (h0 : 0 ≤ tn) (h : ¬ tn ≤ 3) : Calls Try.prog 63 #[.agg #[tv], .int .i64 n, .int .i64 i] w fun e w' => e = .returned (.bool false) ∧ Below w.heap.size w w' := by
  obtain ⟨A, cap, rfl, htm, hA⟩ := hT
  have hnT := (List.getElem?_eq_some_iff.1 hL).1
  have hiL := (List.getElem?_eq_some_iff.1 hp).1
  obtain ⟨b, o, rfl, hb, hc⟩ := hA (by rintro rfl; simp at hL)
  obtain ⟨s, hs, hP⟩ := hc n L hL
  obtain ⟨A2, cap2, rfl, hLm, hP2⟩ := hP
  obtain ⟨b2, o2, rfl, hb2, hc2⟩ := hP2 (by rintro rfl; simp at hp)
  have hpc := hc2 i _ hp
  have hnz : (n : Int) < (T.length : Int) := by omega
  have hiz : (i : Int) < (L.length : Int) := by omega
  have B0 : Below w.heap.size w (w.alloc (.cells #[.slice (some ⟨b, o, none⟩) T.length cap] 24)) := below1 w _
  have B1 : Below w.heap.size w ((w.alloc (.cells #[.slice (some ⟨b, o, none⟩) T.length cap] 24)).alloc (.cells #[.int .i64 1, .int .i64 tn, .int .i64 pr, .int .i64 sp, .int .i64 co] 91)) := below2 w _ _
  have cs := on_some B0 hs
  obtain ⟨c0, c1, c2, c3, c4⟩ := hpc.on B0
  have N0 : Blk ((w.alloc (.cells #[.slice (some ⟨b, o, none⟩) T.length cap] 24)).alloc (.cells #[.int .i64 1, .int .i64 tn, .int .i64 pr, .int .i64 sp, .int .i64 co] 91)) w.heap.size 24 #[.slice (some ⟨b, o, none⟩) T.length cap] := (Blk.new w _ _).on (below1 _ _)
  have N1 : Blk ((w.alloc (.cells #[.slice (some ⟨b, o, none⟩) T.length cap] 24)).alloc (.cells #[.int .i64 1, .int .i64 tn, .int .i64 pr, .int .i64 sp, .int .i64 co] 91)) (w.heap.size + 1) 91 #[.int .i64 1, .int .i64 tn, .int .i64 pr, .int .i64 sp, .int .i64 co] := Blk.new2 w _ _ _
  have t0 := N0.one
  obtain ⟨p0, p1, p2, p3, p4⟩ := N1.five
  clear hA hs hpc hP2 hc2 hp hL N0 N1 hc
  go_enter Try.func63, Try.ntmps63
  go_wp2
  go_ret
  exact ⟨rfl, B1⟩
set_option maxRecDepth 100000 in
set_option maxHeartbeats 1000000 in
theorem rp1c {tn pr sp co : Int} (tv : Value) (T : List (List Pt)) (n i : Nat) (L : List Pt) (w : World) (hT : PsT w tv T) (hL : T[n]? = some L) (hp : L[i]? = some (⟨1, tn, pr, sp, co⟩ : Pt)) (h0 : 0 ≤ tn) (h1 : tn ≤ 3) (h : ¬ pr = 0) : Calls Try.prog 63 #[.agg #[tv], .int .i64 n, .int .i64 i] w fun e w' => e = .returned (.bool false) ∧ Below w.heap.size w w' := by
  obtain ⟨A, cap, rfl, htm, hA⟩ := hT
  have hnT := (List.getElem?_eq_some_iff.1 hL).1
  have hiL := (List.getElem?_eq_some_iff.1 hp).1
  obtain ⟨b, o, rfl, hb, hc⟩ := hA (by rintro rfl; simp at hL)
  obtain ⟨s, hs, hP⟩ := hc n L hL
  obtain ⟨A2, cap2, rfl, hLm, hP2⟩ := hP
  obtain ⟨b2, o2, rfl, hb2, hc2⟩ := hP2 (by rintro rfl; simp at hp)
  have hpc := hc2 i _ hp
  have hnz : (n : Int) < (T.length : Int) := by omega
  have hiz : (i : Int) < (L.length : Int) := by omega
  have B0 : Below w.heap.size w (w.alloc (.cells #[.slice (some ⟨b, o, none⟩) T.length cap] 24)) := below1 w _
  have B1 : Below w.heap.size w ((w.alloc (.cells #[.slice (some ⟨b, o, none⟩) T.length cap] 24)).alloc (.cells #[.int .i64 1, .int .i64 tn, .int .i64 pr, .int .i64 sp, .int .i64 co] 91)) := below2 w _ _
  have cs := on_some B0 hs
  obtain ⟨c0, c1, c2, c3, c4⟩ := hpc.on B0
  have N0 : Blk ((w.alloc (.cells #[.slice (some ⟨b, o, none⟩) T.length cap] 24)).alloc (.cells #[.int .i64 1, .int .i64 tn, .int .i64 pr, .int .i64 sp, .int .i64 co] 91)) w.heap.size 24 #[.slice (some ⟨b, o, none⟩) T.length cap] := (Blk.new w _ _).on (below1 _ _)
  have N1 : Blk ((w.alloc (.cells #[.slice (some ⟨b, o, none⟩) T.length cap] 24)).alloc (.cells #[.int .i64 1, .int .i64 tn, .int .i64 pr, .int .i64 sp, .int .i64 co] 91)) (w.heap.size + 1) 91 #[.int .i64 1, .int .i64 tn, .int .i64 pr, .int .i64 sp, .int .i64 co] := Blk.new2 w _ _ _
  have t0 := N0.one
  obtain ⟨p0, p1, p2, p3, p4⟩ := N1.five
  clear hA hs hpc hP2 hc2 hp hL N0 N1 hc
  go_enter Try.func63, Try.ntmps63
  go_wp2
  go_ret
  exact ⟨rfl, B1⟩
set_option maxRecDepth 100000 in
set_option maxHeartbeats 1000000 in
theorem rp1d {tn sp co : Int} (tv : Value) (T : List (List Pt)) (n i : Nat) (L : List Pt) (w : World) (hT : PsT w tv T) (hL : T[n]? = some L) (hp : L[i]? = some (⟨1, tn, 0, sp, co⟩ : Pt)) (h0 : 0 ≤ tn) (h1 : tn ≤ 3) (h : ¬ sp = 0) : Calls Try.prog 63 #[.agg #[tv], .int .i64 n, .int .i64 i] w fun e w' => e = .returned (.bool false) ∧ Below w.heap.size w w' := by
  obtain ⟨A, cap, rfl, htm, hA⟩ := hT
  have hnT := (List.getElem?_eq_some_iff.1 hL).1
  have hiL := (List.getElem?_eq_some_iff.1 hp).1
  obtain ⟨b, o, rfl, hb, hc⟩ := hA (by rintro rfl; simp at hL)
  obtain ⟨s, hs, hP⟩ := hc n L hL
  obtain ⟨A2, cap2, rfl, hLm, hP2⟩ := hP
  obtain ⟨b2, o2, rfl, hb2, hc2⟩ := hP2 (by rintro rfl; simp at hp)
  have hpc := hc2 i _ hp
  have hnz : (n : Int) < (T.length : Int) := by omega
  have hiz : (i : Int) < (L.length : Int) := by omega
  have B0 : Below w.heap.size w (w.alloc (.cells #[.slice (some ⟨b, o, none⟩) T.length cap] 24)) := below1 w _
  have B1 : Below w.heap.size w ((w.alloc (.cells #[.slice (some ⟨b, o, none⟩) T.length cap] 24)).alloc (.cells #[.int .i64 1, .int .i64 tn, .int .i64 0, .int .i64 sp, .int .i64 co] 91)) := below2 w _ _
  have cs := on_some B0 hs
  obtain ⟨c0, c1, c2, c3, c4⟩ := hpc.on B0
  have N0 : Blk ((w.alloc (.cells #[.slice (some ⟨b, o, none⟩) T.length cap] 24)).alloc (.cells #[.int .i64 1, .int .i64 tn, .int .i64 0, .int .i64 sp, .int .i64 co] 91)) w.heap.size 24 #[.slice (some ⟨b, o, none⟩) T.length cap] := (Blk.new w _ _).on (below1 _ _)
  have N1 : Blk ((w.alloc (.cells #[.slice (some ⟨b, o, none⟩) T.length cap] 24)).alloc (.cells #[.int .i64 1, .int .i64 tn, .int .i64 0, .int .i64 sp, .int .i64 co] 91)) (w.heap.size + 1) 91 #[.int .i64 1, .int .i64 tn, .int .i64 0, .int .i64 sp, .int .i64 co] := Blk.new2 w _ _ _
  have t0 := N0.one
  obtain ⟨p0, p1, p2, p3, p4⟩ := N1.five
  clear hA hs hpc hP2 hc2 hp hL N0 N1 hc
  go_enter Try.func63, Try.ntmps63
  go_wp2
  go_ret
  exact ⟨rfl, B1⟩
set_option maxRecDepth 100000 in
set_option maxHeartbeats 1000000 in
theorem rp1e {tn co : Int} (tv : Value) (T : List (List Pt)) (n i : Nat) (L : List Pt) (w : World) (hT : PsT w tv T) (hL : T[n]? = some L) (hp : L[i]? = some (⟨1, tn, 0, 0, co⟩ : Pt)) (h0 : 0 ≤ tn) (h1 : tn ≤ 3) (h : ¬ co = 0) : Calls Try.prog 63 #[.agg #[tv], .int .i64 n, .int .i64 i] w fun e w' => e = .returned (.bool false) ∧ Below w.heap.size w w' := by
  obtain ⟨A, cap, rfl, htm, hA⟩ := hT
  have hnT := (List.getElem?_eq_some_iff.1 hL).1
  have hiL := (List.getElem?_eq_some_iff.1 hp).1
  obtain ⟨b, o, rfl, hb, hc⟩ := hA (by rintro rfl; simp at hL)
  obtain ⟨s, hs, hP⟩ := hc n L hL
  obtain ⟨A2, cap2, rfl, hLm, hP2⟩ := hP
  obtain ⟨b2, o2, rfl, hb2, hc2⟩ := hP2 (by rintro rfl; simp at hp)
  have hpc := hc2 i _ hp
  have hnz : (n : Int) < (T.length : Int) := by omega
  have hiz : (i : Int) < (L.length : Int) := by omega
  have B0 : Below w.heap.size w (w.alloc (.cells #[.slice (some ⟨b, o, none⟩) T.length cap] 24)) := below1 w _
  have B1 : Below w.heap.size w ((w.alloc (.cells #[.slice (some ⟨b, o, none⟩) T.length cap] 24)).alloc (.cells #[.int .i64 1, .int .i64 tn, .int .i64 0, .int .i64 0, .int .i64 co] 91)) := below2 w _ _
  have cs := on_some B0 hs
  obtain ⟨c0, c1, c2, c3, c4⟩ := hpc.on B0
  have N0 : Blk ((w.alloc (.cells #[.slice (some ⟨b, o, none⟩) T.length cap] 24)).alloc (.cells #[.int .i64 1, .int .i64 tn, .int .i64 0, .int .i64 0, .int .i64 co] 91)) w.heap.size 24 #[.slice (some ⟨b, o, none⟩) T.length cap] := (Blk.new w _ _).on (below1 _ _)
  have N1 : Blk ((w.alloc (.cells #[.slice (some ⟨b, o, none⟩) T.length cap] 24)).alloc (.cells #[.int .i64 1, .int .i64 tn, .int .i64 0, .int .i64 0, .int .i64 co] 91)) (w.heap.size + 1) 91 #[.int .i64 1, .int .i64 tn, .int .i64 0, .int .i64 0, .int .i64 co] := Blk.new2 w _ _ _
  have t0 := N0.one
  obtain ⟨p0, p1, p2, p3, p4⟩ := N1.five
  have e3 : (co == 0) = false := beq_false_of_ne h
  clear hA hs hpc hP2 hc2 hp hL N0 N1 hc
  go_enter Try.func63, Try.ntmps63
  go_wp2
  go_ret
  exact ⟨rfl, B1⟩
set_option maxRecDepth 100000 in
set_option maxHeartbeats 1000000 in
theorem rp1f {tn : Int} (tv : Value) (T : List (List Pt)) (n i : Nat) (L : List Pt) (w : World) (hT : PsT w tv T) (hL : T[n]? = some L) (hp : L[i]? = some (⟨1, tn, 0, 0, 0⟩ : Pt)) (h0 : 0 ≤ tn) (h1 : tn ≤ 3) : Calls Try.prog 63 #[.agg #[tv], .int .i64 n, .int .i64 i] w fun e w' => e = .returned (.bool true) ∧ Below w.heap.size w w' := by
  obtain ⟨A, cap, rfl, htm, hA⟩ := hT
  have hnT := (List.getElem?_eq_some_iff.1 hL).1
  have hiL := (List.getElem?_eq_some_iff.1 hp).1
  obtain ⟨b, o, rfl, hb, hc⟩ := hA (by rintro rfl; simp at hL)
  obtain ⟨s, hs, hP⟩ := hc n L hL
  obtain ⟨A2, cap2, rfl, hLm, hP2⟩ := hP
  obtain ⟨b2, o2, rfl, hb2, hc2⟩ := hP2 (by rintro rfl; simp at hp)
  have hpc := hc2 i _ hp
  have hnz : (n : Int) < (T.length : Int) := by omega
  have hiz : (i : Int) < (L.length : Int) := by omega
  have B0 : Below w.heap.size w (w.alloc (.cells #[.slice (some ⟨b, o, none⟩) T.length cap] 24)) := below1 w _
  have B1 : Below w.heap.size w ((w.alloc (.cells #[.slice (some ⟨b, o, none⟩) T.length cap] 24)).alloc (.cells #[.int .i64 1, .int .i64 tn, .int .i64 0, .int .i64 0, .int .i64 0] 91)) := below2 w _ _
  have cs := on_some B0 hs
  obtain ⟨c0, c1, c2, c3, c4⟩ := hpc.on B0
  have N0 : Blk ((w.alloc (.cells #[.slice (some ⟨b, o, none⟩) T.length cap] 24)).alloc (.cells #[.int .i64 1, .int .i64 tn, .int .i64 0, .int .i64 0, .int .i64 0] 91)) w.heap.size 24 #[.slice (some ⟨b, o, none⟩) T.length cap] := (Blk.new w _ _).on (below1 _ _)
  have N1 : Blk ((w.alloc (.cells #[.slice (some ⟨b, o, none⟩) T.length cap] 24)).alloc (.cells #[.int .i64 1, .int .i64 tn, .int .i64 0, .int .i64 0, .int .i64 0] 91)) (w.heap.size + 1) 91 #[.int .i64 1, .int .i64 tn, .int .i64 0, .int .i64 0, .int .i64 0] := Blk.new2 w _ _ _
  have t0 := N0.one
  obtain ⟨p0, p1, p2, p3, p4⟩ := N1.five
  clear hA hs hpc hP2 hc2 hp hL N0 N1 hc
  go_enter Try.func63, Try.ntmps63
  go_wp2
  go_ret
  exact ⟨rfl, B1⟩
set_option maxRecDepth 100000 in
set_option maxHeartbeats 1000000 in
theorem rp2a {kd tn pr sp co : Int} (tv : Value) (T : List (List Pt)) (n i : Nat) (L : List Pt) (w : World) (hT : PsT w tv T) (hL : T[n]? = some L) (hp : L[i]? = some (⟨kd, tn, pr, sp, co⟩ : Pt)) (h0 : ¬ kd = 0) (h1 : ¬ kd = 1) (h : ¬ kd = 2) : Calls Try.prog 63 #[.agg #[tv], .int .i64 n, .int .i64 i] w fun e w' => e = .returned (.bool false) ∧ Below w.heap.size w w' := by
  obtain ⟨A, cap, rfl, htm, hA⟩ := hT
  have hnT := (List.getElem?_eq_some_iff.1 hL).1
  have hiL := (List.getElem?_eq_some_iff.1 hp).1
  obtain ⟨b, o, rfl, hb, hc⟩ := hA (by rintro rfl; simp at hL)
  obtain ⟨s, hs, hP⟩ := hc n L hL
  obtain ⟨A2, cap2, rfl, hLm, hP2⟩ := hP
  obtain ⟨b2, o2, rfl, hb2, hc2⟩ := hP2 (by rintro rfl; simp at hp)
  have hpc := hc2 i _ hp
  have hnz : (n : Int) < (T.length : Int) := by omega
  have hiz : (i : Int) < (L.length : Int) := by omega
  have B0 : Below w.heap.size w (w.alloc (.cells #[.slice (some ⟨b, o, none⟩) T.length cap] 24)) := below1 w _
  have B1 : Below w.heap.size w ((w.alloc (.cells #[.slice (some ⟨b, o, none⟩) T.length cap] 24)).alloc (.cells #[.int .i64 kd, .int .i64 tn, .int .i64 pr, .int .i64 sp, .int .i64 co] 91)) := below2 w _ _
  have cs := on_some B0 hs
  obtain ⟨c0, c1, c2, c3, c4⟩ := hpc.on B0
  have N0 : Blk ((w.alloc (.cells #[.slice (some ⟨b, o, none⟩) T.length cap] 24)).alloc (.cells #[.int .i64 kd, .int .i64 tn, .int .i64 pr, .int .i64 sp, .int .i64 co] 91)) w.heap.size 24 #[.slice (some ⟨b, o, none⟩) T.length cap] := (Blk.new w _ _).on (below1 _ _)
  have N1 : Blk ((w.alloc (.cells #[.slice (some ⟨b, o, none⟩) T.length cap] 24)).alloc (.cells #[.int .i64 kd, .int .i64 tn, .int .i64 pr, .int .i64 sp, .int .i64 co] 91)) (w.heap.size + 1) 91 #[.int .i64 kd, .int .i64 tn, .int .i64 pr, .int .i64 sp, .int .i64 co] := Blk.new2 w _ _ _
  have t0 := N0.one
  obtain ⟨p0, p1, p2, p3, p4⟩ := N1.five
  have e2 : (kd == 2) = false := beq_false_of_ne h
  have e3 : (kd != 2) = true := by simp [h]
  clear hA hs hpc hP2 hc2 hp hL N0 N1 hc
  go_enter Try.func63, Try.ntmps63
  go_wp2_with fail
  go_quiet (fail)
  go_wp2
  go_ret
  exact ⟨rfl, bldrewN B1 _⟩
set_option maxRecDepth 100000 in
set_option maxHeartbeats 1000000 in
theorem rp2b {tn pr sp co : Int} (tv : Value) (T : List (List Pt)) (n i : Nat) (L : List Pt) (w : World) (hT : PsT w tv T) (hL : T[n]? = some L) (hp : L[i]? = some (⟨2, tn, pr, sp, co⟩ : Pt)) (h : ¬ tn = 0) : Calls Try.prog 63 #[.agg #[tv], .int .i64 n, .int .i64 i] w fun e w' => e = .returned (.bool false) ∧ Below w.heap.size w w' := by
  obtain ⟨A, cap, rfl, htm, hA⟩ := hT
  have hnT := (List.getElem?_eq_some_iff.1 hL).1
  have hiL := (List.getElem?_eq_some_iff.1 hp).1
  obtain ⟨b, o, rfl, hb, hc⟩ := hA (by rintro rfl; simp at hL)
  obtain ⟨s, hs, hP⟩ := hc n L hL
  obtain ⟨A2, cap2, rfl, hLm, hP2⟩ := hP
  obtain ⟨b2, o2, rfl, hb2, hc2⟩ := hP2 (by rintro rfl; simp at hp)
  have hpc := hc2 i _ hp
  have hnz : (n : Int) < (T.length : Int) := by omega
  have hiz : (i : Int) < (L.length : Int) := by omega
  have B0 : Below w.heap.size w (w.alloc (.cells #[.slice (some ⟨b, o, none⟩) T.length cap] 24)) := below1 w _
  have B1 : Below w.heap.size w ((w.alloc (.cells #[.slice (some ⟨b, o, none⟩) T.length cap] 24)).alloc (.cells #[.int .i64 2, .int .i64 tn, .int .i64 pr, .int .i64 sp, .int .i64 co] 91)) := below2 w _ _
  have cs := on_some B0 hs
  obtain ⟨c0, c1, c2, c3, c4⟩ := hpc.on B0
  have N0 : Blk ((w.alloc (.cells #[.slice (some ⟨b, o, none⟩) T.length cap] 24)).alloc (.cells #[.int .i64 2, .int .i64 tn, .int .i64 pr, .int .i64 sp, .int .i64 co] 91)) w.heap.size 24 #[.slice (some ⟨b, o, none⟩) T.length cap] := (Blk.new w _ _).on (below1 _ _)
  have N1 : Blk ((w.alloc (.cells #[.slice (some ⟨b, o, none⟩) T.length cap] 24)).alloc (.cells #[.int .i64 2, .int .i64 tn, .int .i64 pr, .int .i64 sp, .int .i64 co] 91)) (w.heap.size + 1) 91 #[.int .i64 2, .int .i64 tn, .int .i64 pr, .int .i64 sp, .int .i64 co] := Blk.new2 w _ _ _
  have t0 := N0.one
  obtain ⟨p0, p1, p2, p3, p4⟩ := N1.five
  have e3 : (tn != 0) = true := by simp [h]
  clear hA hs hpc hP2 hc2 hp hL N0 N1 hc
  go_enter Try.func63, Try.ntmps63
  go_wp2_with fail
  go_quiet (fail)
  go_wp2
  go_ret
  exact ⟨rfl, bldrewN B1 _⟩
end Go.Proofs

namespace Go.Proofs
open Go.RowKit Go.Proofs.Hd Go.Lib
set_option maxRecDepth 100000 in
set_option maxHeartbeats 1000000 in
theorem rp2c {pr sp co : Int} (tv : Value) (T : List (List Pt)) (n i : Nat) (L : List Pt) (w : World) (hT : PsT w tv T) (hL : T[n]? = some L) (hp : L[i]? = some (⟨2, 0, pr, sp, co⟩ : Pt)) (h3 : co < 1) : Calls Try.prog 63 #[.agg #[tv], .int .i64 n, .int .i64 i] w fun e w' => e = .returned (.bool false) ∧ Below w.heap.size w w' := by
  obtain ⟨A, cap, rfl, htm, hA⟩ := hT
  have hnT := (List.getElem?_eq_some_iff.1 hL).1
  have hiL := (List.getElem?_eq_some_iff.1 hp).1
  obtain ⟨b, o, rfl, hb, hc⟩ := hA (by rintro rfl; simp at hL)
  obtain ⟨s, hs, hP⟩ := hc n L hL
  obtain ⟨A2, cap2, rfl, hLm, hP2⟩ := hP
  obtain ⟨b2, o2, rfl, hb2, hc2⟩ := hP2 (by rintro rfl; simp at hp)
  have hpc := hc2 i _ hp
  have hnz : (n : Int) < (T.length : Int) := by omega
  have hiz : (i : Int) < (L.length : Int) := by omega
  have B0 : Below w.heap.size w (w.alloc (.cells #[.slice (some ⟨b, o, none⟩) T.length cap] 24)) := below1 w _
  have B1 : Below w.heap.size w ((w.alloc (.cells #[.slice (some ⟨b, o, none⟩) T.length cap] 24)).alloc (.cells #[.int .i64 2, .int .i64 0, .int .i64 pr, .int .i64 sp, .int .i64 co] 91)) := below2 w _ _
  have cs := on_some B0 hs
  obtain ⟨c0, c1, c2, c3, c4⟩ := hpc.on B0
  have N0 : Blk ((w.alloc (.cells #[.slice (some ⟨b, o, none⟩) T.length cap] 24)).alloc (.cells #[.int .i64 2, .int .i64 0, .int .i64 pr, .int .i64 sp, .int .i64 co] 91)) w.heap.size 24 #[.slice (some ⟨b, o, none⟩) T.length cap] := (Blk.new w _ _).on (below1 _ _)
  have N1 : Blk ((w.alloc (.cells #[.slice (some ⟨b, o, none⟩) T.length cap] 24)).alloc (.cells #[.int .i64 2, .int .i64 0, .int .i64 pr, .int .i64 sp, .int .i64 co] 91)) (w.heap.size + 1) 91 #[.int .i64 2, .int .i64 0, .int .i64 pr, .int .i64 sp, .int .i64 co] := Blk.new2 w _ _ _
  have t0 := N0.one
  obtain ⟨p0, p1, p2, p3, p4⟩ := N1.five
  have dh3 : decide (co < 1) = true := decide_eq_true h3
  clear hA hs hpc hP2 hc2 hp hL N0 N1 hc
  go_enter Try.func63, Try.ntmps63
  go_wp2_with fail
  go_quiet (fail)
  go_wp2
  go_ret
  exact ⟨rfl, bldrewN B1 _⟩
set_option maxRecDepth 100000 in
set_option maxHeartbeats 1000000 in
theorem rp2d {pr sp co : Int} (tv : Value) (T : List (List Pt)) (n i : Nat) (L : List Pt) (w : World) (hT : PsT w tv T) (hL : T[n]? = some L) (hp : L[i]? = some (⟨2, 0, pr, sp, co⟩ : Pt)) (h3 : ¬ co < 1) (h4 : 1000 < co) : Calls Try.prog 63 #[.agg #[tv], .int .i64 n, .int .i64 i] w fun e w' => e = .returned (.bool false) ∧ Below w.heap.size w w' := by
  obtain ⟨A, cap, rfl, htm, hA⟩ := hT
  have hnT := (List.getElem?_eq_some_iff.1 hL).1
  have hiL := (List.getElem?_eq_some_iff.1 hp).1
  obtain ⟨b, o, rfl, hb, hc⟩ := hA (by rintro rfl; simp at hL)
  obtain ⟨s, hs, hP⟩ := hc n L hL
  obtain ⟨A2, cap2, rfl, hLm, hP2⟩ := hP
  obtain ⟨b2, o2, rfl, hb2, hc2⟩ := hP2 (by rintro rfl; simp at hp)
  have hpc := hc2 i _ hp
  have hnz : (n : Int) < (T.length : Int) := by omega
  have hiz : (i : Int) < (L.length : Int) := by omega
  have B0 : Below w.heap.size w (w.alloc (.cells #[.slice (some ⟨b, o, none⟩) T.length cap] 24)) := below1 w _
  have B1 : Below w.heap.size w ((w.alloc (.cells #[.slice (some ⟨b, o, none⟩) T.length cap] 24)).alloc (.cells #[.int .i64 2, .int .i64 0, .int .i64 pr, .int .i64 sp, .int .i64 co] 91)) := below2 w _ _
  have cs := on_some B0 hs
  obtain ⟨c0, c1, c2, c3, c4⟩ := hpc.on B0
  have N0 : Blk ((w.alloc (.cells #[.slice (some ⟨b, o, none⟩) T.length cap] 24)).alloc (.cells #[.int .i64 2, .int .i64 0, .int .i64 pr, .int .i64 sp, .int .i64 co] 91)) w.heap.size 24 #[.slice (some ⟨b, o, none⟩) T.length cap] := (Blk.new w _ _).on (below1 _ _)
  have N1 : Blk ((w.alloc (.cells #[.slice (some ⟨b, o, none⟩) T.length cap] 24)).alloc (.cells #[.int .i64 2, .int .i64 0, .int .i64 pr, .int .i64 sp, .int .i64 co] 91)) (w.heap.size + 1) 91 #[.int .i64 2, .int .i64 0, .int .i64 pr, .int .i64 sp, .int .i64 co] := Blk.new2 w _ _ _
  have t0 := N0.one
  obtain ⟨p0, p1, p2, p3, p4⟩ := N1.five
  have dh3 : decide (co < 1) = false := decide_eq_false h3
  have dh4 : decide (1000 < co) = true := decide_eq_true h4
  clear hA hs hpc hP2 hc2 hp hL N0 N1 hc
  go_enter Try.func63, Try.ntmps63
  go_wp2_with fail
  go_quiet (fail)
  go_wp2
  go_ret
  exact ⟨rfl, bldrewN B1 _⟩
set_option maxRecDepth 100000 in
set_option maxHeartbeats 1000000 in
theorem rp2e {pr sp co : Int} (tv : Value) (T : List (List Pt)) (n i : Nat) (L : List Pt) (w : World) (hT : PsT w tv T) (hL : T[n]? = some L) (hp : L[i]? = some (⟨2, 0, pr, sp, co⟩ : Pt)) (h3 : ¬ co < 1) (h4 : ¬ 1000 < co) (h5 : pr < 0) : Calls Try.prog 63 #[.agg #[tv], .int .i64 n, .int .i64 i] w fun e w' => e = .returned (.bool false) ∧ Below w.heap.size w w' := by
  obtain ⟨A, cap, rfl, htm, hA⟩ := hT
  have hnT := (List.getElem?_eq_some_iff.1 hL).1
  have hiL := (List.getElem?_eq_some_iff.1 hp).1
  obtain ⟨b, o, rfl, hb, hc⟩ := hA (by rintro rfl; simp at hL)
  obtain ⟨s, hs, hP⟩ := hc n L hL
  obtain ⟨A2, cap2, rfl, hLm, hP2⟩ := hP
  obtain ⟨b2, o2, rfl, hb2, hc2⟩ := hP2 (by rintro rfl; simp at hp)
  have hpc := hc2 i _ hp
  have hnz : (n : Int) < (T.length : Int) := by omega
  have hiz : (i : Int) < (L.length : Int) := by omega
  have B0 : Below w.heap.size w (w.alloc (.cells #[.slice (some ⟨b, o, none⟩) T.length cap] 24)) := below1 w _
  have B1 : Below w.heap.size w ((w.alloc (.cells #[.slice (some ⟨b, o, none⟩) T.length cap] 24)).alloc (.cells #[.int .i64 2, .int .i64 0, .int .i64 pr, .int .i64 sp, .int .i64 co] 91)) := below2 w _ _
  have cs := on_some B0 hs
  obtain ⟨c0, c1, c2, c3, c4⟩ := hpc.on B0
  have N0 : Blk ((w.alloc (.cells #[.slice (some ⟨b, o, none⟩) T.length cap] 24)).alloc (.cells #[.int .i64 2, .int .i64 0, .int .i64 pr, .int .i64 sp, .int .i64 co] 91)) w.heap.size 24 #[.slice (some ⟨b, o, none⟩) T.length cap] := (Blk.new w _ _).on (below1 _ _)
  have N1 : Blk ((w.alloc (.cells #[.slice (some ⟨b, o, none⟩) T.length cap] 24)).alloc (.cells #[.int .i64 2, .int .i64 0, .int .i64 pr, .int .i64 sp, .int .i64 co] 91)) (w.heap.size + 1) 91 #[.int .i64 2, .int .i64 0, .int .i64 pr, .int .i64 sp, .int .i64 co] := Blk.new2 w _ _ _
  have t0 := N0.one
  obtain ⟨p0, p1, p2, p3, p4⟩ := N1.five
  have dh3 : decide (co < 1) = false := decide_eq_false h3
  have dh4 : decide (1000 < co) = false := decide_eq_false h4
  have dh5 : decide (pr < 0) = true := decide_eq_true h5
  clear hA hs hpc hP2 hc2 hp hL N0 N1 hc
  go_enter Try.func63, Try.ntmps63
  go_wp2_with fail
  go_quiet (fail)
  go_wp2
  go_ret
  exact ⟨rfl, bldrewN B1 _⟩
set_option maxRecDepth 100000 in
set_option maxHeartbeats 1000000 in
theorem rp2f {pr sp co : Int} (tv : Value) (T : List (List Pt)) (n i : Nat) (L : List Pt) (w : World) (hT : PsT w tv T) (hL : T[n]? = some L) (hp : L[i]? = some (⟨2, 0, pr, sp, co⟩ : Pt)) (h3 : ¬ co < 1) (h4 : ¬ 1000 < co) (h5 : ¬ pr < 0) (h6 : (T.length : Int) ≤ pr) : Calls Try.prog 63 #[.agg #[tv], .int .i64 n, .int .i64 i] w fun e w' => e = .returned (.bool false) ∧ Below w.heap.size w w' := by
  obtain ⟨A, cap, rfl, htm, hA⟩ := hT
  have hnT := (List.getElem?_eq_some_iff.1 hL).1
  have hiL := (List.getElem?_eq_some_iff.1 hp).1
  obtain ⟨b, o, rfl, hb, hc⟩ := hA (by rintro rfl; simp at hL)
  obtain ⟨s, hs, hP⟩ := hc n L hL
  obtain ⟨A2, cap2, rfl, hLm, hP2⟩ := hP
  obtain ⟨b2, o2, rfl, hb2, hc2⟩ := hP2 (by rintro rfl; simp at hp)
  have hpc := hc2 i _ hp
  have hnz : (n : Int) < (T.length : Int) := by omega
  have hiz : (i : Int) < (L.length : Int) := by omega
  have B0 : Below w.heap.size w (w.alloc (.cells #[.slice (some ⟨b, o, none⟩) T.length cap] 24)) := below1 w _
  have B1 : Below w.heap.size w ((w.alloc (.cells #[.slice (some ⟨b, o, none⟩) T.length cap] 24)).alloc (.cells #[.int .i64 2, .int .i64 0, .int .i64 pr, .int .i64 sp, .int .i64 co] 91)) := below2 w _ _
  have cs := on_some B0 hs
  obtain ⟨c0, c1, c2, c3, c4⟩ := hpc.on B0
  have N0 : Blk ((w.alloc (.cells #[.slice (some ⟨b, o, none⟩) T.length cap] 24)).alloc (.cells #[.int .i64 2, .int .i64 0, .int .i64 pr, .int .i64 sp, .int .i64 co] 91)) w.heap.size 24 #[.slice (some ⟨b, o, none⟩) T.length cap] := (Blk.new w _ _).on (below1 _ _)
  have N1 : Blk ((w.alloc (.cells #[.slice (some ⟨b, o, none⟩) T.length cap] 24)).alloc (.cells #[.int .i64 2, .int .i64 0, .int .i64 pr, .int .i64 sp, .int .i64 co] 91)) (w.heap.size + 1) 91 #[.int .i64 2, .int .i64 0, .int .i64 pr, .int .i64 sp, .int .i64 co] := Blk.new2 w _ _ _
  have t0 := N0.one
  obtain ⟨p0, p1, p2, p3, p4⟩ := N1.five
  have dh3 : decide (co < 1) = false := decide_eq_false h3
  have dh4 : decide (1000 < co) = false := decide_eq_false h4
  have dh5 : decide (pr < 0) = false := decide_eq_false h5
  have dh6 : decide ((T.length : Int) ≤ pr) = true := decide_eq_true h6
  clear hA hs hpc hP2 hc2 hp hL N0 N1 hc
  go_enter Try.func63, Try.ntmps63
  go_wp2_with fail
  go_quiet (fail)
  go_wp2
  go_ret
  exact ⟨rfl, bldrewN B1 _⟩
set_option maxRecDepth 100000 in
set_option maxHeartbeats 1000000 in
theorem rp2g {sp co : Int} (tv : Value) (T : List (List Pt)) (n i : Nat) (L : List Pt) (w : World) (hT : PsT w tv T) (hL : T[n]? = some L) (hp : L[i]? = some (⟨2, 0, (n : Int), sp, co⟩ : Pt)) (h3 : ¬ co < 1) (h4 : ¬ 1000 < co) : Calls Try.prog 63 #[.agg #[tv], .int .i64 n, .int .i64 i] w fun e w' => e = .returned (.bool false) ∧ Below w.heap.size w w' := by
  obtain ⟨A, cap, rfl, htm, hA⟩ := hT
  have hnT := (List.getElem?_eq_some_iff.1 hL).1
  have hiL := (List.getElem?_eq_some_iff.1 hp).1
  obtain ⟨b, o, rfl, hb, hc⟩ := hA (by rintro rfl; simp at hL)
  obtain ⟨s, hs, hP⟩ := hc n L hL
  obtain ⟨A2, cap2, rfl, hLm, hP2⟩ := hP
  obtain ⟨b2, o2, rfl, hb2, hc2⟩ := hP2 (by rintro rfl; simp at hp)
  have hpc := hc2 i _ hp
  have hnz : (n : Int) < (T.length : Int) := by omega
  have hiz : (i : Int) < (L.length : Int) := by omega
  have B0 : Below w.heap.size w (w.alloc (.cells #[.slice (some ⟨b, o, none⟩) T.length cap] 24)) := below1 w _
  have B1 : Below w.heap.size w ((w.alloc (.cells #[.slice (some ⟨b, o, none⟩) T.length cap] 24)).alloc (.cells #[.int .i64 2, .int .i64 0, .int .i64 (n : Int), .int .i64 sp, .int .i64 co] 91)) := below2 w _ _
  have cs := on_some B0 hs
  obtain ⟨c0, c1, c2, c3, c4⟩ := hpc.on B0
  have N0 : Blk ((w.alloc (.cells #[.slice (some ⟨b, o, none⟩) T.length cap] 24)).alloc (.cells #[.int .i64 2, .int .i64 0, .int .i64 (n : Int), .int .i64 sp, .int .i64 co] 91)) w.heap.size 24 #[.slice (some ⟨b, o, none⟩) T.length cap] := (Blk.new w _ _).on (below1 _ _)
  have N1 : Blk ((w.alloc (.cells #[.slice (some ⟨b, o, none⟩) T.length cap] 24)).alloc (.cells #[.int .i64 2, .int .i64 0, .int .i64 (n : Int), .int .i64 sp, .int .i64 co] 91)) (w.heap.size + 1) 91 #[.int .i64 2, .int .i64 0, .int .i64 (n : Int), .int .i64 sp, .int .i64 co] := Blk.new2 w _ _ _
  have t0 := N0.one
  obtain ⟨p0, p1, p2, p3, p4⟩ := N1.five
  have dh3 : decide (co < 1) = false := decide_eq_false h3
  have dh4 : decide (1000 < co) = false := decide_eq_false h4
  have d5 : decide ((n : Int) < 0) = false := decide_eq_false (by omega)
  have d6 : decide ((T.length : Int) ≤ (n : Int)) = false := decide_eq_false (by omega)
  have d6' : decide (T.length ≤ n) = false := decide_eq_false (by omega)
  clear hA hs hpc hP2 hc2 hp hL N0 N1 hc
  go_enter Try.func63, Try.ntmps63
  go_wp2_with fail
  go_quiet (fail)
  go_wp2
  go_ret
  exact ⟨rfl, bldrewN B1 _⟩
set_option maxRecDepth 100000 in
set_option maxHeartbeats 1000000 in
theorem rp2h {sp co : Int} {m : Nat} (tv : Value) (T : List (List Pt)) (n i : Nat) (L : List Pt) (w : World) (hT : PsT w tv T) (hL : T[n]? = some L) (hp : L[i]? = some (⟨2, 0, (m : Int), sp, co⟩ : Pt)) (h3 : ¬ co < 1) (h4 : ¬ 1000 < co) (hm : m < T.length) (hmn : m ≠ n) (h8 : sp < 0) : Calls Try.prog 63 #[.agg #[tv], .int .i64 n, .int .i64 i] w fun e w' => e = .returned (.bool false) ∧ Below w.heap.size w w' := by
  obtain ⟨A, cap, rfl, htm, hA⟩ := hT
  have hnT := (List.getElem?_eq_some_iff.1 hL).1
  have hiL := (List.getElem?_eq_some_iff.1 hp).1
  obtain ⟨b, o, rfl, hb, hc⟩ := hA (by rintro rfl; simp at hL)
  obtain ⟨s, hs, hP⟩ := hc n L hL
  obtain ⟨A2, cap2, rfl, hLm, hP2⟩ := hP
  obtain ⟨b2, o2, rfl, hb2, hc2⟩ := hP2 (by rintro rfl; simp at hp)
  have hpc := hc2 i _ hp
  have hnz : (n : Int) < (T.length : Int) := by omega
  have hiz : (i : Int) < (L.length : Int) := by omega
  have B0 : Below w.heap.size w (w.alloc (.cells #[.slice (some ⟨b, o, none⟩) T.length cap] 24)) := below1 w _
  have B1 : Below w.heap.size w ((w.alloc (.cells #[.slice (some ⟨b, o, none⟩) T.length cap] 24)).alloc (.cells #[.int .i64 2, .int .i64 0, .int .i64 (m : Int), .int .i64 sp, .int .i64 co] 91)) := below2 w _ _
  have cs := on_some B0 hs
  obtain ⟨c0, c1, c2, c3, c4⟩ := hpc.on B0
  have N0 : Blk ((w.alloc (.cells #[.slice (some ⟨b, o, none⟩) T.length cap] 24)).alloc (.cells #[.int .i64 2, .int .i64 0, .int .i64 (m : Int), .int .i64 sp, .int .i64 co] 91)) w.heap.size 24 #[.slice (some ⟨b, o, none⟩) T.length cap] := (Blk.new w _ _).on (below1 _ _)
  have N1 : Blk ((w.alloc (.cells #[.slice (some ⟨b, o, none⟩) T.length cap] 24)).alloc (.cells #[.int .i64 2, .int .i64 0, .int .i64 (m : Int), .int .i64 sp, .int .i64 co] 91)) (w.heap.size + 1) 91 #[.int .i64 2, .int .i64 0, .int .i64 (m : Int), .int .i64 sp, .int .i64 co] := Blk.new2 w _ _ _
  have t0 := N0.one
  obtain ⟨p0, p1, p2, p3, p4⟩ := N1.five
  have dh3 : decide (co < 1) = false := decide_eq_false h3
  have dh4 : decide (1000 < co) = false := decide_eq_false h4
  have d5 : decide ((m : Int) < 0) = false := decide_eq_false (by omega)
  have d6 : decide ((T.length : Int) ≤ (m : Int)) = false := decide_eq_false (by omega)
  have d6' : decide (T.length ≤ m) = false := decide_eq_false (by omega)
  have d7 : ((m : Int) == (n : Int)) = false := beq_false_of_ne (by omega)
  have d7' : ¬ m = n := by omega
  have d7'' : (m == n) = false := beq_false_of_ne d7'
  have dh8 : decide (sp < 0) = true := decide_eq_true h8
  clear hA hs hpc hP2 hc2 hp hL N0 N1 hc
  go_enter Try.func63, Try.ntmps63
  go_wp2_with fail
  go_quiet (fail)
  go_wp2
  go_ret
  exact ⟨rfl, bldrewN B1 _⟩
set_option maxRecDepth 100000 in
set_option maxHeartbeats 1000000 in
theorem rp2i {sp co : Int} {m : Nat} (tv : Value) (T : List (List Pt)) (n i : Nat) (L : List Pt) (w : World) (hT : PsT w tv T) (hL : T[n]? = some L) (hp : L[i]? = some (⟨2, 0, (m : Int), sp, co⟩ : Pt)) (h3 : ¬ co < 1) (h4 : ¬ 1000 < co) (L' : List Pt) (hL' : T[m]? = some L') (hm : m < T.length) (hmn : m ≠ n) (h8 : ¬ sp < 0) (h9 : (L'.length : Int) ≤ sp) : Calls Try.prog 63 #[.agg #[tv], .int .i64 n, .int .i64 i] w fun e w' => e = .returned (.bool false) ∧ Below w.heap.size w w' := by
  obtain ⟨A, cap, rfl, htm, hA⟩ := hT
  have hnT := (List.getElem?_eq_some_iff.1 hL).1
  have hiL := (List.getElem?_eq_some_iff.1 hp).1
  obtain ⟨b, o, rfl, hb, hc⟩ := hA (by rintro rfl; simp at hL)
  obtain ⟨s, hs, hP⟩ := hc n L hL
  obtain ⟨A2, cap2, rfl, hLm, hP2⟩ := hP
  obtain ⟨b2, o2, rfl, hb2, hc2⟩ := hP2 (by rintro rfl; simp at hp)
  have hpc := hc2 i _ hp
  have hnz : (n : Int) < (T.length : Int) := by omega
  have hiz : (i : Int) < (L.length : Int) := by omega
  have B0 : Below w.heap.size w (w.alloc (.cells #[.slice (some ⟨b, o, none⟩) T.length cap] 24)) := below1 w _
  have B1 : Below w.heap.size w ((w.alloc (.cells #[.slice (some ⟨b, o, none⟩) T.length cap] 24)).alloc (.cells #[.int .i64 2, .int .i64 0, .int .i64 (m : Int), .int .i64 sp, .int .i64 co] 91)) := below2 w _ _
  have cs := on_some B0 hs
  obtain ⟨c0, c1, c2, c3, c4⟩ := hpc.on B0
  have N0 : Blk ((w.alloc (.cells #[.slice (some ⟨b, o, none⟩) T.length cap] 24)).alloc (.cells #[.int .i64 2, .int .i64 0, .int .i64 (m : Int), .int .i64 sp, .int .i64 co] 91)) w.heap.size 24 #[.slice (some ⟨b, o, none⟩) T.length cap] := (Blk.new w _ _).on (below1 _ _)
  have N1 : Blk ((w.alloc (.cells #[.slice (some ⟨b, o, none⟩) T.length cap] 24)).alloc (.cells #[.int .i64 2, .int .i64 0, .int .i64 (m : Int), .int .i64 sp, .int .i64 co] 91)) (w.heap.size + 1) 91 #[.int .i64 2, .int .i64 0, .int .i64 (m : Int), .int .i64 sp, .int .i64 co] := Blk.new2 w _ _ _
  have t0 := N0.one
  obtain ⟨p0, p1, p2, p3, p4⟩ := N1.five
  have dh3 : decide (co < 1) = false := decide_eq_false h3
  have dh4 : decide (1000 < co) = false := decide_eq_false h4
  have d5 : decide ((m : Int) < 0) = false := decide_eq_false (by omega)
  have d6 : decide ((T.length : Int) ≤ (m : Int)) = false := decide_eq_false (by omega)
  have d6' : decide (T.length ≤ m) = false := decide_eq_false (by omega)
  have d7 : ((m : Int) == (n : Int)) = false := beq_false_of_ne (by omega)
  have d7' : ¬ m = n := by omega
  have d7'' : (m == n) = false := beq_false_of_ne d7'
  have dh8 : decide (sp < 0) = false := decide_eq_false h8
  have dh9 : decide ((L'.length : Int) ≤ sp) = true := decide_eq_true h9
  have hmz : (m : Int) < (T.length : Int) := by omega
  obtain ⟨s', hs', A3, cap3, rfl, hLm', hP3⟩ := hc m L' hL'
  have cs' := on_some B1 hs'
  clear hP3 hs' hc
  clear hA hs hpc hP2 hc2 hp hL N0 N1
  go_enter Try.func63, Try.ntmps63
  go_wp2_with fail
  go_quiet (fail)
  go_wp2
  go_ret
  exact ⟨rfl, bldrewN B1 _⟩
end Go.Proofs

namespace Go.Proofs
open Go.RowKit Go.Proofs.Hd Go.Lib
set_option maxRecDepth 100000 in
set_option maxHeartbeats 1000000 in
theorem rp3 {co : Int} {m j : Nat} (tv : Value) (T : List (List Pt)) (n i : Nat) (L : List Pt) (w : World) (hT : PsT w tv T) (hL : T[n]? = some L) (hp : L[i]? = some (⟨2, 0, (m : Int), (j : Int), co⟩ : Pt)) (h3 : ¬ co < 1) (h4 : ¬ 1000 < co) (L' : List Pt) (hL' : T[m]? = some L') (hm : m < T.length) (hmn : m ≠ n) (qk qt qp qs qc : Int) (hq : L'[j]? = some (⟨qk, qt, qp, qs, qc⟩ : Pt)) (x : Bool) (hx : eqP ⟨qk, qt, qp, qs, qc⟩ ⟨2, 0, (n : Int), (i : Int), co⟩ = x) : Calls Try.prog 63 #[.agg #[tv], .int .i64 n, .int .i64 i] w fun e w' => e = .returned (.bool x) ∧ Below w.heap.size w w' := by
  obtain ⟨A, cap, rfl, htm, hA⟩ := hT
  have hnT := (List.getElem?_eq_some_iff.1 hL).1
  have hiL := (List.getElem?_eq_some_iff.1 hp).1
  obtain ⟨b, o, rfl, hb, hc⟩ := hA (by rintro rfl; simp at hL)
  obtain ⟨s, hs, hP⟩ := hc n L hL
  obtain ⟨A2, cap2, rfl, hLm, hP2⟩ := hP
  obtain ⟨b2, o2, rfl, hb2, hc2⟩ := hP2 (by rintro rfl; simp at hp)
  have hpc := hc2 i _ hp
  have hnz : (n : Int) < (T.length : Int) := by omega
  have hiz : (i : Int) < (L.length : Int) := by omega
  have B0 : Below w.heap.size w (w.alloc (.cells #[.slice (some ⟨b, o, none⟩) T.length cap] 24)) := below1 w _
  have B1 : Below w.heap.size w ((w.alloc (.cells #[.slice (some ⟨b, o, none⟩) T.length cap] 24)).alloc (.cells #[.int .i64 2, .int .i64 0, .int .i64 (m : Int), .int .i64 (j : Int), .int .i64 co] 91)) := below2 w _ _
  have cs := on_some B0 hs
  obtain ⟨c0, c1, c2, c3, c4⟩ := hpc.on B0
  have N0 : Blk ((w.alloc (.cells #[.slice (some ⟨b, o, none⟩) T.length cap] 24)).alloc (.cells #[.int .i64 2, .int .i64 0, .int .i64 (m : Int), .int .i64 (j : Int), .int .i64 co] 91)) w.heap.size 24 #[.slice (some ⟨b, o, none⟩) T.length cap] := (Blk.new w _ _).on (below1 _ _)
  have N1 : Blk ((w.alloc (.cells #[.slice (some ⟨b, o, none⟩) T.length cap] 24)).alloc (.cells #[.int .i64 2, .int .i64 0, .int .i64 (m : Int), .int .i64 (j : Int), .int .i64 co] 91)) (w.heap.size + 1) 91 #[.int .i64 2, .int .i64 0, .int .i64 (m : Int), .int .i64 (j : Int), .int .i64 co] := Blk.new2 w _ _ _
  have t0 := N0.one
  obtain ⟨p0, p1, p2, p3, p4⟩ := N1.five
  have dh3 : decide (co < 1) = false := decide_eq_false h3
  have dh4 : decide (1000 < co) = false := decide_eq_false h4
  have d5 : decide ((m : Int) < 0) = false := decide_eq_false (by omega)
  have d6 : decide ((T.length : Int) ≤ (m : Int)) = false := decide_eq_false (by omega)
  have d6' : decide (T.length ≤ m) = false := decide_eq_false (by omega)
  have d7 : ((m : Int) == (n : Int)) = false := beq_false_of_ne (by omega)
  have d7' : ¬ m = n := by omega
  have d7'' : (m == n) = false := beq_false_of_ne d7'
  have hmz : (m : Int) < (T.length : Int) := by omega
  obtain ⟨s', hs', A3, cap3, rfl, hLm', hP3⟩ := hc m L' hL'
  have cs' := on_some B1 hs'
  obtain ⟨b3, o3, rfl, hb3, hc3⟩ := hP3 (by rintro rfl; simp at hq)
  have hjL := (List.getElem?_eq_some_iff.1 hq).1
  have hjz : (j : Int) < (L'.length : Int) := by omega
  have d8 : decide ((j : Int) < 0) = false := decide_eq_false (by omega)
  have d9 : decide ((L'.length : Int) ≤ (j : Int)) = false := decide_eq_false (by omega)
  have d9' : decide (L'.length ≤ j) = false := decide_eq_false (by omega)
  have HQ := Lib.hid (hc3 j _ hq)
  have HN1 := Lib.hid N1
  clear hs' hc hc3 hq hL'
  clear hA hs hpc hP2 hc2 hp hL N0 N1
  go_enter Try.func63, Try.ntmps63
  go_wp2_with fail
  go_quiet (fail)
  have HB := Lib.hid (bldrewN B1 nq)
  have t0' := on_some (bldrewN (Below.refl _ _) nq) t0
  have p2' := on_some (bldrewN (Below.refl _ _) nq) p2
  have p3' := on_some (bldrewN (Below.refl _ _) nq) p3
  have cs'' := on_some (bldrewN (Below.refl _ _) nq) cs'
  have HN := Lib.hid (HN1.out.drewN nq)
  clear B1 t0 p0 p1 p2 p3 p4 cs cs' HN1 c0 c1 c2 c3 c4
  generalize ((w.alloc (.cells #[.slice (some ⟨b, o, none⟩) T.length cap] 24)).alloc (.cells #[.int .i64 2, .int .i64 0, .int .i64 (m : Int), .int .i64 (j : Int), .int .i64 co] 91)).drewN nq = w1 at HB t0' p2' p3' cs'' HN ⊢
  clear nq
  have hbz := below1 w1 (.cells #[.int .i64 0, .int .i64 0, .int .i64 0, .int .i64 0, .int .i64 0] 91)
  obtain ⟨q0, q1, q2, q3, q4⟩ := HQ.out.on (HB.out.trans (hbz.mono HB.out.size))
  have t1 := on_some hbz t0'
  have p21 := on_some hbz p2'
  have p31 := on_some hbz p3'
  have cs1 := on_some hbz cs''
  have p4' := (HN.out.five).2.2.2.2
  have N2 : Blk (w1.alloc (.cells #[.int .i64 0, .int .i64 0, .int .i64 0, .int .i64 0, .int .i64 0] 91)) w1.heap.size 91 #[.int .i64 0, .int .i64 0, .int .i64 0, .int .i64 0, .int .i64 0] := Blk.new w1 _ _
  have B5 := (below1 w1 (.cells #[.int .i64 qk, .int .i64 qt, .int .i64 qp, .int .i64 qs, .int .i64 qc] 91)).drew
  have K : Blk (w1.alloc (.cells #[.int .i64 qk, .int .i64 qt, .int .i64 qp, .int .i64 qs, .int .i64 qc] 91)).drew w1.heap.size 91 #[.int .i64 qk, .int .i64 qt, .int .i64 qp, .int .i64 qs, .int .i64 qc] := (Blk.new w1 _ _).drew1
  have f0 := N2.free 0
  have f1 := N2.free 1
  have f2 := N2.free 2
  have f3 := N2.free 3
  have f4 := N2.free 4
  obtain ⟨y0, y1, y2, y3, y4⟩ := N2.five
  have p5 := on_some B5 p4'
  have HK := Lib.hid K
  have HB5 := Lib.hid (HB.out.trans (B5.mono HB.out.size))
  obtain ⟨r0, r1, r2, r3, r4⟩ := HQ.out.on HB.out
  clear N2 K B5 hbz p4' HB HN HQ
  have mixed : Try.prog.follows Departure.mixedOrders = true := by kernel_rfl
  go_wp2_with fail
  go_big_region_o
  clear f0 f1 f2 f3 f4 y0 y1 y2 y3 y4 q0 q1 q2 q3 q4 t1 p21 p31 cs1 r0 r1 r2 r3 r4 t0' p2' p3' cs''
  generalize (w1.alloc (.cells #[.int .i64 qk, .int .i64 qt, .int .i64 qp, .int .i64 qs, .int .i64 qc] 91)).drew = w5 at HK HB5 p5 ⊢
  obtain ⟨z0, z1, z2, z3, z4⟩ := HK.out.five
  by_cases k0 : qk = 2
  · subst k0
    by_cases k1 : qp = (n : Int)
    · subst k1
      by_cases k2 : qs = (i : Int)
      · subst k2
        by_cases k3 : qc = co
        · subst k3
          by_cases k4 : qt = 0
          · subst k4
            have hx2 : x = true := by rw [← hx]; exact eqP_self _
            subst hx2
            go_wp2
            go_ret
            exact ⟨rfl, HB5.out⟩
          · have hx2 : x = false := by rw [← hx]; simp [eqP, k4]
            have e3 : (qt == 0) = false := beq_false_of_ne k4
            subst hx2
            go_wp2
            go_ret
            exact ⟨rfl, HB5.out⟩
        · have hx2 : x = false := by rw [← hx]; simp [eqP, k3]
          have e3 : (qc == co) = false := beq_false_of_ne k3
          subst hx2
          go_wp2
          go_ret
          exact ⟨rfl, HB5.out⟩
      · have hx2 : x = false := by rw [← hx]; simp [eqP, k2]
        have e3 : (qs == (i : Int)) = false := beq_false_of_ne k2
        subst hx2
        go_wp2
        go_ret
        exact ⟨rfl, HB5.out⟩
    · have hx2 : x = false := by rw [← hx]; simp [eqP, k1]
      have e3 : (qp == (n : Int)) = false := beq_false_of_ne k1
      subst hx2
      go_wp2
      go_ret
      exact ⟨rfl, HB5.out⟩
  · have hx2 : x = false := by rw [← hx]; simp [eqP, k0]
    have e3 : (qk == 2) = false := beq_false_of_ne k0
    subst hx2
    go_wp2
    go_ret
    exact ⟨rfl, HB5.out⟩
end Go.Proofs
