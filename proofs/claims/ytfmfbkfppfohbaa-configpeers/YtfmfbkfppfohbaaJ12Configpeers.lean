/-
  customhouselaw08.ConfigPeers returns true for every input, and each argument reads behind the call as before. No conditions.
  The walk of customhouselaw08.ConfigPeers: it returns true. Conditions as the theorem lists them.
-/
import Derived.Test.YtfmfbkfppfohbaaJ11
import Derived.Test.YtfmfbkfppfohbaaRows
import Derived.Below
namespace Go.Proofs.Hd
open Go.RowKit
theorem src_pair {w : World} {g : Nat} {t : TypeId} {x y : Int} (h : Blk w g t #[.int .i64 x, .int .i64 y]) : Src w 2 (.slice (some ⟨g, 0, none⟩) 1 1) 1 [.int .i64 x, .int .i64 y] := by
  refine ⟨rfl, by intro u hu; simp at hu; rcases hu with rfl | rfl <;> rfl, .inr ⟨_, 1, rfl, fun j u hu => ?_⟩⟩
  have e : (⟨g, 0, none⟩ : Addr).add j = ⟨g, j, none⟩ := by unfold Addr.add; by_cases h0 : j = 0 <;> simp [h0]
  rw [e, h.cell]
  simpa using hu
theorem pe_snoc {w : World} {B : Nat} {t : TypeId} {v : Value} {P : List (Int × Int)} {x y : Int} (h : w.ownsRow B t 2 v (P.length + 1) (P.flatMap encA ++ [.int .i64 x, .int .i64 y])) : Pe w v (P ++ [(x, y)]) := by
  have e : P.flatMap encA ++ [.int .i64 x, .int .i64 y] = (P ++ [(x, y)]).flatMap encA := by rw [List.flatMap_append]; rfl
  have e2 : P.length + 1 = (P ++ [(x, y)]).length := by simp
  rw [e, e2] at h
  exact (own_rde h len_a).pe (own_len h)
theorem joins_comm (a b : Int) (x : Int × Int) : joinsB b a x = joinsB a b x := by unfold joinsB; rw [Bool.or_comm]
theorem alw_comm (ten : Int) (P : List (Int × Int)) (a b : Int) : alwB ten P b a = alwB ten P a b := by
  unfold alwB
  have e : joinsB b a = joinsB a b := funext (joins_comm a b)
  rw [e, Bool.and_comm (inB b ten)]
  congr 2
  by_cases h : a = b
  · subst h; rfl
  · have h2 : ¬ b = a := fun e => h e.symm
    have h3 : (b == a) = false := by simpa using h2
    have h4 : (a == b) = false := by simpa using h
    rw [h3, h4]
theorem alw_snoc (ten : Int) (P : List (Int × Int)) (a b : Int) (m : Int × Int) : alwB ten (P ++ [m]) a b = (alwB ten P a b || (inB a ten && inB b ten && joinsB a b m)) := by
  unfold alwB
  rw [List.any_append]
  cases inB a ten <;> cases inB b ten <;> simp [Bool.or_assoc]
end Go.Proofs.Hd
namespace Go.Proofs
open Go.RowKit Go.Proofs.Hd Go.Lib
attribute [local go_sem high] run_eqA
set_option maxRecDepth 100000 in
set_option maxHeartbeats 8000000 in
theorem cprl_c (pv wv : Value) (ten : Int) (P : List (Int × Int)) (Q : List Wa) (a b ma mb : Int) (w : World) (hP : Pe w pv P) (hQ : Wy w wv Q) : Calls Try.prog 7 #[.agg #[.int .i64 ten, pv, wv], .int .i64 a, .int .i64 b, .agg #[.int .i64 ma, .int .i64 mb]] w fun e w' => e = .returned (.bool true) ∧ Below w.heap.size w w' := by
  have HP := Lib.hid hP
  have HSP := Lib.hid (hP.rde.src len_a (by decide) one_a)
  obtain ⟨pA, pc, rfl, hpm, -⟩ := hP
  obtain ⟨wA, wcp, rfl, -, -⟩ := hQ
  have hpz : (P.length : Int) ≤ 9223372036854775807 := by unfold maxLen at hpm; omega
  clear hpm
  have HB1 : Hid (Below w.heap.size w ((w.alloc (.cells #[.int .i64 ten, .slice pA P.length pc, .slice wA Q.length wcp] 28)).alloc (.cells #[.int .i64 ma, .int .i64 mb] 66))) := below2 w _ _
  have N1 : Hid (Blk ((w.alloc (.cells #[.int .i64 ten, .slice pA P.length pc, .slice wA Q.length wcp] 28)).alloc (.cells #[.int .i64 ma, .int .i64 mb] 66)) w.heap.size 28 #[.int .i64 ten, .slice pA P.length pc, .slice wA Q.length wcp]) := (Blk.new w _ _).on (below1 _ _)
  have M1 : Hid (Blk ((w.alloc (.cells #[.int .i64 ten, .slice pA P.length pc, .slice wA Q.length wcp] 28)).alloc (.cells #[.int .i64 ma, .int .i64 mb] 66)) (w.heap.size + 1) 66 #[.int .i64 ma, .int .i64 mb]) := Blk.new2 w _ _ _
  go_enter Try.func7, Try.ntmps7
  go_upto_region 1 with (fail)
  generalize ((w.alloc (.cells #[.int .i64 ten, .slice pA P.length pc, .slice wA Q.length wcp] 28)).alloc (.cells #[.int .i64 ma, .int .i64 mb] 66)) = w1 at HB1 N1 M1 ⊢
  obtain ⟨d0, d1, d2⟩ := N1.out.three
  by_cases h200 : 200 < P.length
  · have hz200 : (200 : Int) < (P.length : Int) := by omega
    go_wp2_with fail
    (with_reducible refine (awake8_c _).mono ?_)
    rintro e w2 ⟨rfl, hb⟩
    have HB2 := Lib.hid (HB1.out.trans (hb.mono HB1.out.size))
    clear hb d0 d1 d2
    go_wp2
    go_ret
    exact ⟨rfl, HB2.out⟩
  · have hz200 : ¬ (200 : Int) < (P.length : Int) := by omega
    have hpl : P.length ≤ 200 := by omega
    have hbw := below1 w1 (.cells #[.int .i64 ten, .slice pA P.length pc, .slice wA Q.length wcp] 28)
    have HQ2 : Hid (Blk (w1.alloc (.cells #[.int .i64 ten, .slice pA P.length pc, .slice wA Q.length wcp] 28)) w1.heap.size 28 #[.int .i64 ten, .slice pA P.length pc, .slice wA Q.length wcp]) := Blk.new w1 _ _
    have HBW := Lib.hid hbw
    have HB2 := Lib.hid (HB1.out.trans (hbw.mono HB1.out.size))
    have hq12 : w1.heap.size < (w1.alloc (.cells #[.int .i64 ten, .slice pA P.length pc, .slice wA Q.length wcp] 28)).heap.size := by simp
    clear hbw
    go_upto_region 4 with (fail)
    clear d0 d1 d2
    generalize (w1.alloc (.cells #[.int .i64 ten, .slice pA P.length pc, .slice wA Q.length wcp] 28)) = w2 at HQ2 HBW HB2 hq12 ⊢
    obtain ⟨ia, hia, ha0, ha1, ha2⟩ := info_parts info_pair
    go_cut [9] (fun i wc => ∃ (A8 : Option Addr) (c8 : Nat), i = .pointer (some ⟨w1.heap.size, 0, none⟩) ∧ Below w1.heap.size w1 wc ∧ Blk wc w1.heap.size 28 #[.int .i64 ten, .slice A8 (P.length + 1) c8, .slice wA Q.length wcp] ∧ Pe wc (.slice A8 (P.length + 1) c8) (P ++ [(ma, mb)]))
    case first =>
      have KP : ∀ W, Below w1.heap.size w1 W → (Below w1.heap.size w1 W ∧ W.cell? ⟨w.heap.size, 1, none⟩ = some (.slice pA P.length pc) ∧ W.cell? ⟨w.heap.size + 1, 0, none⟩ = some (.int .i64 ma) ∧ W.cell? ⟨w.heap.size + 1, 1, none⟩ = some (.int .i64 mb)) := fun W hb => ⟨hb, (N1.out.on hb).three.2.1, (M1.out.on hb).both⟩
      have HKP := Lib.hid KP
      clear KP
      refine wp_region_held_drew (S := fun w' => Below w1.heap.size w1 w' ∧ w'.cell? ⟨w.heap.size, 1, none⟩ = some (.slice pA P.length pc) ∧ w'.cell? ⟨w.heap.size + 1, 0, none⟩ = some (.int .i64 ma) ∧ w'.cell? ⟨w.heap.size + 1, 1, none⟩ = some (.int .i64 mb)) (by kernel_rfl) (HKP.out _ HBW.out.drew) (fun hHeld => ?_)
      have hw : Below w2.heap.size w2 w2.drew := (Below.refl _ w2).drew
      generalize w2.drew = u0 at hHeld hw ⊢
      refine wpAnyH_take (i := 1) (oi := ⟨some 19, _, _, _, _, _⟩) (v := ?vpe1) rfl (by kernel_rfl) (by kernel_rfl) (by kernel_rfl) (fun _ _ _ h => h) (Or.inl ⟨by rfl, ?ype1⟩) hHeld ?rpe1
      case ype1 => (intro w' hSw; (try dsimp only at hSw); go_simp; try (with_reducible rfl))
      simp only [Act.put, List.setIfInBounds_toArray, List.set_cons_zero, List.set_cons_succ]
      refine wpAnyH_take (i := 2) (oi := ⟨some 20, _, _, _, _, _⟩) (v := ?vpe2) rfl (by kernel_rfl) (by kernel_rfl) (by kernel_rfl) (fun _ _ _ h => h) (Or.inl ⟨by rfl, ?ype2⟩) hHeld ?rpe2
      case ype2 => (intro w' hSw; (try dsimp only at hSw); go_simp; try (with_reducible rfl))
      simp only [Act.put, List.setIfInBounds_toArray, List.set_cons_zero, List.set_cons_succ]
      refine wpAnyH_take (i := 4) (oi := ⟨some 22, _, _, _, _, _⟩) (v := ?vpe3) rfl (by kernel_rfl) (by kernel_rfl) (by kernel_rfl) (fun _ _ _ h => h) (Or.inl ⟨by rfl, ?ype3⟩) hHeld ?rpe3
      case ype3 => (intro w' hSw; (try dsimp only at hSw); go_simp; try (with_reducible rfl))
      simp only [Act.put, List.setIfInBounds_toArray, List.set_cons_zero, List.set_cons_succ]
      refine wpAnyH_ready (rs := [0, 5]) (by kernel_rfl) (by simp) ?_
      refine AllReadyH.cons (o := ⟨some 18, _, _, _, _, _⟩) rfl (fun K hK => ?_) ?_
      · go_simp
        have hb := below1 u0 (.cells #[] 66)
        refine hK.out _ _ (HKP.out _ (hHeld.1.trans (hb.mono hHeld.1.size))) (fun hNext => ?_)
        have O0 : (u0.alloc (.cells #[] 66)).ownsRow w2.heap.size 66 2 (.slice (some ⟨u0.heap.size, 0, none⟩) 0 0) 0 [] := World.ownsRow_made u0 #[] 0 hw.size (Nat.zero_le _) rfl
        replace hw := hw.trans (hb.mono hw.size)
        clear hK K hHeld
        have hHeld := hNext
        clear hNext
        clear hb
        generalize hgen : (u0.alloc (.cells #[] 66)) = u1 at hHeld O0 hw ⊢
        clear hgen
        generalize hgen : u0.heap.size = g0 at O0 ⊢
        clear hgen
        try simp only [Act.put, List.setIfInBounds_toArray, List.set_cons_zero, List.set_cons_succ]
        refine wpAnyH_ready (rs := [3, 5]) (by kernel_rfl) (by simp) ?_
        refine AllReadyH.cons (o := ⟨some 21, _, _, _, _, _⟩) rfl (fun K hK => ?_) ?_
        · have SR := HSP.out.on (HB2.out.trans (hw.mono HB2.out.size))
          refine step_app _ rfl (.tmp 18) (.tmp 20) 25 rfl w2.heap.size 66 ia _ 2 16 Try.underlying25 hia ha0 ha1 ha2 rfl (by decide) (.slice (some ⟨g0, 0, none⟩) 0 0) 0 [] rfl O0 _ P.length (P.flatMap encA) rfl SR (by unfold maxLen; omega) (by omega) hw.size ?_
          intro v2 u2 O2 hg2
          have B2 := hHeld.1.grown hg2 hHeld.1.size (fun j hj => Nat.le_trans HBW.out.size (O0.lt j hj).1)
          replace hw := hw.grown hg2 hw.size (fun j hj => (O0.lt j hj).1)
          refine hK.out _ _ (HKP.out _ B2) (fun hNext => ?_)
          clear hK K hHeld
          have hHeld := hNext
          clear hNext
          rw [Nat.zero_add, List.nil_append] at O2
          clear O0 hg2 B2 SR
          try simp only [Act.put, List.setIfInBounds_toArray, List.set_cons_zero, List.set_cons_succ]
          refine wpAnyH_ready (rs := [5]) (by kernel_rfl) (by simp) ?_
          refine AllReadyH.cons (o := ⟨some 23, _, _, _, _, _⟩) rfl (fun K hK => ?_) AllReadyH.nil
          go_simp
          have hb := below1 u2 (.cells #[.int .i64 ma, .int .i64 mb] 66)
          refine hK.out _ _ (HKP.out _ (hHeld.1.trans (hb.mono hHeld.1.size))) (fun hNext => ?_)
          have N4 : Blk (u2.alloc (.cells #[.int .i64 ma, .int .i64 mb] 66)) u2.heap.size 66 #[.int .i64 ma, .int .i64 mb] := Blk.new u2 _ _
          replace O2 := own_on O2 hb
          replace hw := hw.trans (hb.mono hw.size)
          clear hK K hHeld
          have hHeld := hNext
          clear hNext
          clear hb
          generalize hgen : (u2.alloc (.cells #[.int .i64 ma, .int .i64 mb] 66)) = u3 at hHeld N4 hw O2 ⊢
          clear hgen
          generalize hgen : u2.heap.size = g4 at N4 ⊢
          clear hgen
          try simp only [Act.put, List.setIfInBounds_toArray, List.set_cons_zero, List.set_cons_succ]
          refine wpAnyH_ready (rs := [6]) (by kernel_rfl) (by simp) ?_
          refine AllReadyH.cons (o := ⟨some 24, _, _, _, _, _⟩) rfl (fun K hK => ?_) AllReadyH.nil
          refine step_app _ rfl (.tmp 21) (.tmp 23) 25 rfl w2.heap.size 66 ia _ 2 16 Try.underlying25 hia ha0 ha1 ha2 rfl (by decide) _ P.length (P.flatMap encA) rfl O2 _ 1 [.int .i64 ma, .int .i64 mb] rfl (src_pair N4) (by unfold maxLen; omega) (by omega) hw.size ?_
          intro v6 u4 O6 hg6
          have B6 := hHeld.1.grown hg6 hHeld.1.size (fun j hj => Nat.le_trans HBW.out.size (O2.lt j hj).1)
          replace hw := hw.grown hg6 hw.size (fun j hj => (O2.lt j hj).1)
          obtain ⟨A8, c8, rfl, -⟩ := own_sl O6
          refine hK.out _ _ (HKP.out _ B6) (fun hNext => ?_)
          clear hK K hHeld
          have hHeld := hNext
          clear hNext
          clear O2 hg6 B6 N4
          try simp only [Act.put, List.setIfInBounds_toArray, List.set_cons_zero, List.set_cons_succ]
          refine wpAnyH_take (i := 7) (oi := ⟨some 25, _, _, _, _, _⟩) (v := ?vpe4) rfl (by kernel_rfl) (by kernel_rfl) (by kernel_rfl) (fun _ _ _ h => h) (Or.inl ⟨by rfl, ?ype4⟩) hHeld ?rpe4
          case ype4 => (intro w' hSw; (try dsimp only at hSw); go_simp; try (with_reducible rfl))
          simp only [Act.put, List.setIfInBounds_toArray, List.set_cons_zero, List.set_cons_succ]
          refine wpAnyH_ready (rs := [8]) (by kernel_rfl) (by simp) ?_
          refine AllReadyH.cons (o := ⟨none, _, _, _, _, _⟩) rfl (fun K hK => ?_) AllReadyH.nil
          have BQ := HQ2.out.on hw
          have hf := BQ.free 1
          have hc := BQ.three.2.1
          go_simp
          refine hK.out _ _ (HKP.out _ (hHeld.1.setCell (p := ⟨w1.heap.size, 1, none⟩) (Nat.le_refl _) _)) (fun hNext => ?_)
          clear hK K hHeld
          have hHeld := hNext
          clear hNext
          have BQ2 := BQ.set 1 (.slice A8 (P.length + 1) c8)
          have OP : World.ownsRow _ w2.heap.size _ 2 _ (P.length + 1) _ := ownsRow_setCell_below (a := ⟨w1.heap.size, 1, none⟩) O6 hq12 (.slice A8 (P.length + 1) c8)
          clear BQ hf hc O6
          try simp only [Act.put]
          refine wpAnyH_done (by kernel_rfl) ?_ _
          have hPN := pe_snoc OP
          go_wp2_with fail
          go_meet
          exact ⟨_, _, rfl, hHeld.1, by simpa using BQ2, hPN⟩
        refine AllReadyH.cons (o := ⟨some 23, _, _, _, _, _⟩) rfl (fun K hK => ?_) AllReadyH.nil
        go_simp
        have hb := below1 u1 (.cells #[.int .i64 ma, .int .i64 mb] 66)
        refine hK.out _ _ (HKP.out _ (hHeld.1.trans (hb.mono hHeld.1.size))) (fun hNext => ?_)
        have N4 : Blk (u1.alloc (.cells #[.int .i64 ma, .int .i64 mb] 66)) u1.heap.size 66 #[.int .i64 ma, .int .i64 mb] := Blk.new u1 _ _
        have hne : u1.heap.size ≠ g0 := Nat.ne_of_gt (own_tb O0).2.2
        replace O0 := own_on O0 hb
        replace hw := hw.trans (hb.mono hw.size)
        clear hK K hHeld
        have hHeld := hNext
        clear hNext
        clear hb
        generalize hgen : (u1.alloc (.cells #[.int .i64 ma, .int .i64 mb] 66)) = u6 at hHeld N4 hw O0 ⊢
        clear hgen
        generalize hgen : u1.heap.size = g4 at N4 hne ⊢
        clear hgen
        try simp only [Act.put, List.setIfInBounds_toArray, List.set_cons_zero, List.set_cons_succ]
        refine wpAnyH_ready (rs := [3]) (by kernel_rfl) (by simp) ?_
        refine AllReadyH.cons (o := ⟨some 21, _, _, _, _, _⟩) rfl (fun K hK => ?_) AllReadyH.nil
        have SR := HSP.out.on (HB2.out.trans (hw.mono HB2.out.size))
        refine step_app _ rfl (.tmp 18) (.tmp 20) 25 rfl w2.heap.size 66 ia _ 2 16 Try.underlying25 hia ha0 ha1 ha2 rfl (by decide) (.slice (some ⟨g0, 0, none⟩) 0 0) 0 [] rfl O0 _ P.length (P.flatMap encA) rfl SR (by unfold maxLen; omega) (by omega) hw.size ?_
        intro v2 u7 O2 hg2
        have B2 := hHeld.1.grown hg2 hHeld.1.size (fun j hj => Nat.le_trans HBW.out.size (O0.lt j hj).1)
        replace N4 := N4.grown hg2 (by intro e; simp [Value.ownBlock] at e; exact hne e)
        replace hw := hw.grown hg2 hw.size (fun j hj => (O0.lt j hj).1)
        refine hK.out _ _ (HKP.out _ B2) (fun hNext => ?_)
        clear hK K hHeld
        have hHeld := hNext
        clear hNext
        rw [Nat.zero_add, List.nil_append] at O2
        clear O0 hg2 B2 SR hne
        try simp only [Act.put, List.setIfInBounds_toArray, List.set_cons_zero, List.set_cons_succ]
        refine wpAnyH_ready (rs := [6]) (by kernel_rfl) (by simp) ?_
        refine AllReadyH.cons (o := ⟨some 24, _, _, _, _, _⟩) rfl (fun K hK => ?_) AllReadyH.nil
        refine step_app _ rfl (.tmp 21) (.tmp 23) 25 rfl w2.heap.size 66 ia _ 2 16 Try.underlying25 hia ha0 ha1 ha2 rfl (by decide) _ P.length (P.flatMap encA) rfl O2 _ 1 [.int .i64 ma, .int .i64 mb] rfl (src_pair N4) (by unfold maxLen; omega) (by omega) hw.size ?_
        intro v6 u8 O6 hg6
        have B6 := hHeld.1.grown hg6 hHeld.1.size (fun j hj => Nat.le_trans HBW.out.size (O2.lt j hj).1)
        replace hw := hw.grown hg6 hw.size (fun j hj => (O2.lt j hj).1)
        obtain ⟨A8, c8, rfl, -⟩ := own_sl O6
        refine hK.out _ _ (HKP.out _ B6) (fun hNext => ?_)
        clear hK K hHeld
        have hHeld := hNext
        clear hNext
        clear O2 hg6 B6 N4
        try simp only [Act.put, List.setIfInBounds_toArray, List.set_cons_zero, List.set_cons_succ]
        refine wpAnyH_take (i := 7) (oi := ⟨some 25, _, _, _, _, _⟩) (v := ?vpe5) rfl (by kernel_rfl) (by kernel_rfl) (by kernel_rfl) (fun _ _ _ h => h) (Or.inl ⟨by rfl, ?ype5⟩) hHeld ?rpe5
        case ype5 => (intro w' hSw; (try dsimp only at hSw); go_simp; try (with_reducible rfl))
        simp only [Act.put, List.setIfInBounds_toArray, List.set_cons_zero, List.set_cons_succ]
        refine wpAnyH_ready (rs := [8]) (by kernel_rfl) (by simp) ?_
        refine AllReadyH.cons (o := ⟨none, _, _, _, _, _⟩) rfl (fun K hK => ?_) AllReadyH.nil
        have BQ := HQ2.out.on hw
        have hf := BQ.free 1
        have hc := BQ.three.2.1
        go_simp
        refine hK.out _ _ (HKP.out _ (hHeld.1.setCell (p := ⟨w1.heap.size, 1, none⟩) (Nat.le_refl _) _)) (fun hNext => ?_)
        clear hK K hHeld
        have hHeld := hNext
        clear hNext
        have BQ2 := BQ.set 1 (.slice A8 (P.length + 1) c8)
        have OP : World.ownsRow _ w2.heap.size _ 2 _ (P.length + 1) _ := ownsRow_setCell_below (a := ⟨w1.heap.size, 1, none⟩) O6 hq12 (.slice A8 (P.length + 1) c8)
        clear BQ hf hc O6
        try simp only [Act.put]
        refine wpAnyH_done (by kernel_rfl) ?_ _
        have hPN := pe_snoc OP
        go_wp2_with fail
        go_meet
        exact ⟨_, _, rfl, hHeld.1, by simpa using BQ2, hPN⟩
      refine AllReadyH.cons (o := ⟨some 23, _, _, _, _, _⟩) rfl (fun K hK => ?_) AllReadyH.nil
      go_simp
      have hb := below1 u0 (.cells #[.int .i64 ma, .int .i64 mb] 66)
      refine hK.out _ _ (HKP.out _ (hHeld.1.trans (hb.mono hHeld.1.size))) (fun hNext => ?_)
      have N4 : Blk (u0.alloc (.cells #[.int .i64 ma, .int .i64 mb] 66)) u0.heap.size 66 #[.int .i64 ma, .int .i64 mb] := Blk.new u0 _ _
      replace hw := hw.trans (hb.mono hw.size)
      clear hK K hHeld
      have hHeld := hNext
      clear hNext
      clear hb
      generalize hgen : (u0.alloc (.cells #[.int .i64 ma, .int .i64 mb] 66)) = u10 at hHeld N4 hw ⊢
      clear hgen
      generalize hgen : u0.heap.size = g4 at N4 ⊢
      clear hgen
      try simp only [Act.put, List.setIfInBounds_toArray, List.set_cons_zero, List.set_cons_succ]
      refine wpAnyH_ready (rs := [0]) (by kernel_rfl) (by simp) ?_
      refine AllReadyH.cons (o := ⟨some 18, _, _, _, _, _⟩) rfl (fun K hK => ?_) AllReadyH.nil
      go_simp
      have hb := below1 u10 (.cells #[] 66)
      refine hK.out _ _ (HKP.out _ (hHeld.1.trans (hb.mono hHeld.1.size))) (fun hNext => ?_)
      have O0 : (u10.alloc (.cells #[] 66)).ownsRow w2.heap.size 66 2 (.slice (some ⟨u10.heap.size, 0, none⟩) 0 0) 0 [] := World.ownsRow_made u10 #[] 0 hw.size (Nat.zero_le _) rfl
      replace hw := hw.trans (hb.mono hw.size)
      have hne : g4 ≠ u10.heap.size := Nat.ne_of_lt N4.lt
      replace N4 := N4.on hb
      clear hK K hHeld
      have hHeld := hNext
      clear hNext
      clear hb
      generalize hgen : (u10.alloc (.cells #[] 66)) = u11 at hHeld O0 hw N4 ⊢
      clear hgen
      generalize hgen : u10.heap.size = g0 at O0 hne ⊢
      clear hgen
      try simp only [Act.put, List.setIfInBounds_toArray, List.set_cons_zero, List.set_cons_succ]
      refine wpAnyH_ready (rs := [3]) (by kernel_rfl) (by simp) ?_
      refine AllReadyH.cons (o := ⟨some 21, _, _, _, _, _⟩) rfl (fun K hK => ?_) AllReadyH.nil
      have SR := HSP.out.on (HB2.out.trans (hw.mono HB2.out.size))
      refine step_app _ rfl (.tmp 18) (.tmp 20) 25 rfl w2.heap.size 66 ia _ 2 16 Try.underlying25 hia ha0 ha1 ha2 rfl (by decide) (.slice (some ⟨g0, 0, none⟩) 0 0) 0 [] rfl O0 _ P.length (P.flatMap encA) rfl SR (by unfold maxLen; omega) (by omega) hw.size ?_
      intro v2 u12 O2 hg2
      have B2 := hHeld.1.grown hg2 hHeld.1.size (fun j hj => Nat.le_trans HBW.out.size (O0.lt j hj).1)
      replace N4 := N4.grown hg2 (by intro e; simp [Value.ownBlock] at e; exact hne e)
      replace hw := hw.grown hg2 hw.size (fun j hj => (O0.lt j hj).1)
      refine hK.out _ _ (HKP.out _ B2) (fun hNext => ?_)
      clear hK K hHeld
      have hHeld := hNext
      clear hNext
      rw [Nat.zero_add, List.nil_append] at O2
      clear O0 hg2 B2 SR hne
      try simp only [Act.put, List.setIfInBounds_toArray, List.set_cons_zero, List.set_cons_succ]
      refine wpAnyH_ready (rs := [6]) (by kernel_rfl) (by simp) ?_
      refine AllReadyH.cons (o := ⟨some 24, _, _, _, _, _⟩) rfl (fun K hK => ?_) AllReadyH.nil
      refine step_app _ rfl (.tmp 21) (.tmp 23) 25 rfl w2.heap.size 66 ia _ 2 16 Try.underlying25 hia ha0 ha1 ha2 rfl (by decide) _ P.length (P.flatMap encA) rfl O2 _ 1 [.int .i64 ma, .int .i64 mb] rfl (src_pair N4) (by unfold maxLen; omega) (by omega) hw.size ?_
      intro v6 u13 O6 hg6
      have B6 := hHeld.1.grown hg6 hHeld.1.size (fun j hj => Nat.le_trans HBW.out.size (O2.lt j hj).1)
      replace hw := hw.grown hg6 hw.size (fun j hj => (O2.lt j hj).1)
      obtain ⟨A8, c8, rfl, -⟩ := own_sl O6
      refine hK.out _ _ (HKP.out _ B6) (fun hNext => ?_)
      clear hK K hHeld
      have hHeld := hNext
      clear hNext
      clear O2 hg6 B6 N4
      try simp only [Act.put, List.setIfInBounds_toArray, List.set_cons_zero, List.set_cons_succ]
      refine wpAnyH_take (i := 7) (oi := ⟨some 25, _, _, _, _, _⟩) (v := ?vpe6) rfl (by kernel_rfl) (by kernel_rfl) (by kernel_rfl) (fun _ _ _ h => h) (Or.inl ⟨by rfl, ?ype6⟩) hHeld ?rpe6
      case ype6 => (intro w' hSw; (try dsimp only at hSw); go_simp; try (with_reducible rfl))
      simp only [Act.put, List.setIfInBounds_toArray, List.set_cons_zero, List.set_cons_succ]
      refine wpAnyH_ready (rs := [8]) (by kernel_rfl) (by simp) ?_
      refine AllReadyH.cons (o := ⟨none, _, _, _, _, _⟩) rfl (fun K hK => ?_) AllReadyH.nil
      have BQ := HQ2.out.on hw
      have hf := BQ.free 1
      have hc := BQ.three.2.1
      go_simp
      refine hK.out _ _ (HKP.out _ (hHeld.1.setCell (p := ⟨w1.heap.size, 1, none⟩) (Nat.le_refl _) _)) (fun hNext => ?_)
      clear hK K hHeld
      have hHeld := hNext
      clear hNext
      have BQ2 := BQ.set 1 (.slice A8 (P.length + 1) c8)
      have OP : World.ownsRow _ w2.heap.size _ 2 _ (P.length + 1) _ := ownsRow_setCell_below (a := ⟨w1.heap.size, 1, none⟩) O6 hq12 (.slice A8 (P.length + 1) c8)
      clear BQ hf hc O6
      try simp only [Act.put]
      refine wpAnyH_done (by kernel_rfl) ?_ _
      have hPN := pe_snoc OP
      go_wp2_with fail
      go_meet
      exact ⟨_, _, rfl, hHeld.1, by simpa using BQ2, hPN⟩
    case rest =>
      obtain ⟨A8, c8, rfl, hbc, hqb, hpn⟩ := hcut
      have HBC := Lib.hid (HB1.out.trans (hbc.mono HB1.out.size))
      have HN3 := Lib.hid (N1.out.on hbc)
      have HM3 := Lib.hid (M1.out.on hbc)
      have HQ3 := Lib.hid hqb
      have HPN := Lib.hid hpn
      obtain ⟨xx, hxx⟩ : ∃ xx, alwB ten P a b = xx := ⟨_, rfl⟩
      obtain ⟨yy, hyy⟩ : ∃ yy, alwB ten (P ++ [(ma, mb)]) a b = yy := ⟨_, rfl⟩
      have HXX := Lib.hid hxx
      have HYY := Lib.hid hyy
      have HZZ : Hid (alwB ten P b a = xx) := (alw_comm ten P a b).trans hxx
      have HSN : Hid (yy = (xx || (Hd.inB a ten && Hd.inB b ten && (eqA (ma, mb) (a, b) || eqA (ma, mb) (b, a))))) := by show _ = _; rw [← hyy, alw_snoc, hxx, joinsA]
      have KP : ∀ W, Below wc.heap.size wc W → (Below wc.heap.size wc W ∧ W.cell? ⟨w.heap.size, 0, none⟩ = some (.int .i64 ten) ∧ W.cell? ⟨w.heap.size, 1, none⟩ = some (.slice pA P.length pc) ∧ W.cell? ⟨w.heap.size, 2, none⟩ = some (.slice wA Q.length wcp) ∧ W.cell? ⟨w1.heap.size, 0, none⟩ = some (.int .i64 ten) ∧ W.cell? ⟨w1.heap.size, 1, none⟩ = some (.slice A8 (P.length + 1) c8) ∧ W.cell? ⟨w1.heap.size, 2, none⟩ = some (.slice wA Q.length wcp)) := fun W hb => ⟨hb, (HN3.out.on hb).three.1, (HN3.out.on hb).three.2.1, (HN3.out.on hb).three.2.2, (HQ3.out.on hb).three⟩
      have HKP := Lib.hid KP
      clear KP hbc hqb hpn hxx hyy HQ2 HBW HB2 hq12
      go_upto_region 5 with (fail)
      refine wp_region_held_drew (S := fun w' => Below wc.heap.size wc w' ∧ w'.cell? ⟨w.heap.size, 0, none⟩ = some (.int .i64 ten) ∧ w'.cell? ⟨w.heap.size, 1, none⟩ = some (.slice pA P.length pc) ∧ w'.cell? ⟨w.heap.size, 2, none⟩ = some (.slice wA Q.length wcp) ∧ w'.cell? ⟨w1.heap.size, 0, none⟩ = some (.int .i64 ten) ∧ w'.cell? ⟨w1.heap.size, 1, none⟩ = some (.slice A8 (P.length + 1) c8) ∧ w'.cell? ⟨w1.heap.size, 2, none⟩ = some (.slice wA Q.length wcp)) (by kernel_rfl) (HKP.out _ (Below.refl _ wc).drew) (fun hHeld => ?_)
      refine wpAnyH_take (i := 0) (oi := ⟨some 26, _, _, _, _, _⟩) (v := ?vpf0) rfl (by kernel_rfl) (by kernel_rfl) (by kernel_rfl) (fun _ _ _ h => h) (Or.inl ⟨by rfl, ?ypf0⟩) hHeld ?rpf0
      case ypf0 => (intro w' hSw; (try dsimp only at hSw); go_simp; try (with_reducible rfl))
      simp only [Act.put, List.setIfInBounds_toArray, List.set_cons_zero, List.set_cons_succ]
      refine wpAnyH_take (i := 1) (oi := ⟨some 27, _, _, _, _, _⟩) (v := ?vpf1) rfl (by kernel_rfl) (by kernel_rfl) (by kernel_rfl) (fun _ _ _ h => h) (Or.inl ⟨by rfl, ?ypf1⟩) hHeld ?rpf1
      case ypf1 => (intro w' hSw; (try dsimp only at hSw); go_simp; try (with_reducible rfl))
      simp only [Act.put, List.setIfInBounds_toArray, List.set_cons_zero, List.set_cons_succ]
      refine wpAnyH_take (i := 2) (oi := ⟨some 28, _, _, _, _, _⟩) (v := ?vpf2) rfl (by kernel_rfl) (by kernel_rfl) (by kernel_rfl) (fun _ _ _ h => h) (Or.inl ⟨by rfl, ?ypf2⟩) hHeld ?rpf2
      case ypf2 => (intro w' hSw; (try dsimp only at hSw); go_simp; try (with_reducible rfl))
      simp only [Act.put, List.setIfInBounds_toArray, List.set_cons_zero, List.set_cons_succ]
      refine wpAnyH_take (i := 4) (oi := ⟨some 30, _, _, _, _, _⟩) (v := ?vpf4) rfl (by kernel_rfl) (by kernel_rfl) (by kernel_rfl) (fun _ _ _ h => h) (Or.inl ⟨by rfl, ?ypf4⟩) hHeld ?rpf4
      case ypf4 => (intro w' hSw; (try dsimp only at hSw); go_simp; try (with_reducible rfl))
      simp only [Act.put, List.setIfInBounds_toArray, List.set_cons_zero, List.set_cons_succ]
      refine wpAnyH_take (i := 5) (oi := ⟨some 31, _, _, _, _, _⟩) (v := ?vpf5) rfl (by kernel_rfl) (by kernel_rfl) (by kernel_rfl) (fun _ _ _ h => h) (Or.inl ⟨by rfl, ?ypf5⟩) hHeld ?rpf5
      case ypf5 => (intro w' hSw; (try dsimp only at hSw); go_simp; try (with_reducible rfl))
      simp only [Act.put, List.setIfInBounds_toArray, List.set_cons_zero, List.set_cons_succ]
      refine wpAnyH_take (i := 6) (oi := ⟨some 32, _, _, _, _, _⟩) (v := ?vpf6) rfl (by kernel_rfl) (by kernel_rfl) (by kernel_rfl) (fun _ _ _ h => h) (Or.inl ⟨by rfl, ?ypf6⟩) hHeld ?rpf6
      case ypf6 => (intro w' hSw; (try dsimp only at hSw); go_simp; try (with_reducible rfl))
      simp only [Act.put, List.setIfInBounds_toArray, List.set_cons_zero, List.set_cons_succ]
      refine wpAnyH_ready (rs := [3]) (by kernel_rfl) (by simp) ?_
      refine AllReadyH.cons (o := ⟨some 29, _, _, _, _, _⟩) rfl (fun K hK => ?_) AllReadyH.nil
      go_simp
      (with_reducible refine (callow_c xx ten _ wA Q.length wcp P a b _ (HP.out.on (HBC.out.trans (hHeld.1.mono HBC.out.size))) HXX.out).mono ?_)
      rintro e w5 ⟨rfl, hb⟩
      (try dsimp only)
      refine hK.out _ _ (HKP.out _ (hHeld.1.trans (hb.mono hHeld.1.size))) (fun hNext => ?_)
      clear hK K hHeld
      have hHeld := hNext
      clear hNext
      try simp only [Act.put, List.setIfInBounds_toArray, List.set_cons_zero, List.set_cons_succ]
      refine wpAnyH_ready (rs := [7]) (by kernel_rfl) (by simp) ?_
      refine AllReadyH.cons (o := ⟨some 33, _, _, _, _, _⟩) rfl (fun K hK => ?_) AllReadyH.nil
      go_simp
      (with_reducible refine (callow_c yy ten _ wA Q.length wcp (P ++ [(ma, mb)]) a b _ (HPN.out.on hHeld.1) HYY.out).mono ?_)
      rintro e w6 ⟨rfl, hb⟩
      (try dsimp only)
      refine hK.out _ _ (HKP.out _ (hHeld.1.trans (hb.mono hHeld.1.size))) (fun hNext => ?_)
      clear hK K hHeld
      have hHeld := hNext
      clear hNext
      try simp only [Act.put, List.setIfInBounds_toArray, List.set_cons_zero, List.set_cons_succ]
      refine wpAnyH_take (i := 8) (oi := ⟨some 10, _, _, _, _, _⟩) (v := ?vpf8) rfl (by kernel_rfl) (by kernel_rfl) (by kernel_rfl) (fun _ _ _ h => h) (Or.inl ⟨by rfl, ?ypf8⟩) hHeld ?rpf8
      case ypf8 => (intro w' hSw; (try dsimp only at hSw); go_simp; try (with_reducible rfl))
      simp only [Act.put, List.setIfInBounds_toArray, List.set_cons_zero, List.set_cons_succ]
      refine wpAnyH_take (i := 9) (oi := ⟨some 11, _, _, _, _, _⟩) (v := ?vpf9) rfl (by kernel_rfl) (by kernel_rfl) (by kernel_rfl) (fun _ _ _ h => h) (Or.inl ⟨by rfl, ?ypf9⟩) hHeld ?rpf9
      case ypf9 => (intro w' hSw; (try dsimp only at hSw); go_simp; try (with_reducible rfl))
      simp only [Act.put, List.setIfInBounds_toArray, List.set_cons_zero, List.set_cons_succ]
      refine wpAnyH_done (by kernel_rfl) ?_ _
      have HBE := Lib.hid (HBC.out.trans (hHeld.1.mono HBC.out.size))
      have HN6 := Lib.hid (HN3.out.on hHeld.1)
      have HM6 := Lib.hid (HM3.out.on hHeld.1)
      clear hHeld HKP
      obtain ⟨f0, f1, f2⟩ := HN6.out.three
      obtain ⟨g0, g1⟩ := HM6.out.both
      cases xx with
      | true =>
        cases yy with
        | true =>
          go_wp2_with fail
          (with_reducible refine (awake8_c _).mono ?_)
          rintro e w7 ⟨rfl, hb7⟩
          have HB7 := Lib.hid (HBE.out.trans (hb7.mono HBE.out.size))
          obtain ⟨f0, f1, f2⟩ := (HN6.out.on hb7).three
          obtain ⟨g0, g1⟩ := (HM6.out.on hb7).both
          have HB67 := Lib.hid hb7
          clear hb7 HBE
          go_wp2_with fail
          (with_reducible refine (callow_c true ten _ wA Q.length wcp P b a _ (HP.out.on HB7.out) HZZ.out).mono ?_)
          rintro e w8 ⟨rfl, hb8⟩
          have HB8 := Lib.hid (HB7.out.trans (hb8.mono HB7.out.size))
          obtain ⟨g0, g1⟩ := ((HM6.out.on HB67.out).on hb8).both
          clear hb8 HB7 f0 f1 f2
          go_wp2
          go_ret
          exact ⟨rfl, HB8.out⟩
        | false =>
          have h := HSN.out
          simp at h
      | false =>
        cases yy with
        | false =>
          go_wp2_with fail
          (with_reducible refine (awake8_c _).mono ?_)
          rintro e w7 ⟨rfl, hb7⟩
          have HB7 := Lib.hid (HBE.out.trans (hb7.mono HBE.out.size))
          obtain ⟨f0, f1, f2⟩ := (HN6.out.on hb7).three
          obtain ⟨g0, g1⟩ := (HM6.out.on hb7).both
          have HB67 := Lib.hid hb7
          clear hb7 HBE
          go_wp2_with fail
          (with_reducible refine (callow_c false ten _ wA Q.length wcp P b a _ (HP.out.on HB7.out) HZZ.out).mono ?_)
          rintro e w8 ⟨rfl, hb8⟩
          have HB8 := Lib.hid (HB7.out.trans (hb8.mono HB7.out.size))
          obtain ⟨g0, g1⟩ := ((HM6.out.on HB67.out).on hb8).both
          clear hb8 HB7 f0 f1 f2
          go_wp2
          go_ret
          exact ⟨rfl, HB8.out⟩
        | true =>
          cases q1 : eqA (ma, mb) (a, b) with
          | true =>
            go_wp2_with fail
            (with_reducible refine (awake8_c _).mono ?_)
            rintro e w7 ⟨rfl, hb7⟩
            have HB7 := Lib.hid (HBE.out.trans (hb7.mono HBE.out.size))
            obtain ⟨f0, f1, f2⟩ := (HN6.out.on hb7).three
            obtain ⟨g0, g1⟩ := (HM6.out.on hb7).both
            have HB67 := Lib.hid hb7
            clear hb7 HBE
            go_wp2_with fail
            (with_reducible refine (callow_c false ten _ wA Q.length wcp P b a _ (HP.out.on HB7.out) HZZ.out).mono ?_)
            rintro e w8 ⟨rfl, hb8⟩
            have HB8 := Lib.hid (HB7.out.trans (hb8.mono HB7.out.size))
            obtain ⟨g0, g1⟩ := ((HM6.out.on HB67.out).on hb8).both
            clear hb8 HB7 f0 f1 f2
            go_wp2
            go_ret
            exact ⟨rfl, HB8.out⟩
          | false =>
            cases q2 : eqA (ma, mb) (b, a) with
            | true =>
              go_wp2_with fail
              (with_reducible refine (awake8_c _).mono ?_)
              rintro e w7 ⟨rfl, hb7⟩
              have HB7 := Lib.hid (HBE.out.trans (hb7.mono HBE.out.size))
              obtain ⟨f0, f1, f2⟩ := (HN6.out.on hb7).three
              obtain ⟨g0, g1⟩ := (HM6.out.on hb7).both
              have HB67 := Lib.hid hb7
              clear hb7 HBE
              go_wp2_with fail
              (with_reducible refine (callow_c false ten _ wA Q.length wcp P b a _ (HP.out.on HB7.out) HZZ.out).mono ?_)
              rintro e w8 ⟨rfl, hb8⟩
              have HB8 := Lib.hid (HB7.out.trans (hb8.mono HB7.out.size))
              obtain ⟨g0, g1⟩ := ((HM6.out.on HB67.out).on hb8).both
              clear hb8 HB7 f0 f1 f2
              go_wp2
              go_ret
              exact ⟨rfl, HB8.out⟩
            | false =>
              have h := HSN.out
              rw [q1, q2] at h
              simp at h
end Go.Proofs

namespace Go.Proofs.Ytfmfbkfppfohbaa
open Go.ChangeShapes Go.WideShapes Go.ChangeAt Go.RowKit Go.Joins Go.Proofs.Hd

theorem laidOut_cprs : laidOutB Try.prog = true := by kernel_rfl
set_option maxRecDepth 100000 in
theorem cprs_lifted (os : Os) (started : os.Started) (H : Type) (enc : TypeId × Value → H) :
    ReturnsInHanded {} Try.checked os 7 .any (Rows.configPeersSpec.pre6 enc Try.prog Try.f7 Rows.configPeersRow.domain false) (Rows.configPeersSpec.post enc Try.prog Try.f7 false true false false) := by
  refine returnsInHanded_of_change (C := Try.checked) own started (by kernel_rfl) Try.func7
    (ChangeSpec.witness6 (enc := enc) (C := Try.checked) false ⟨#[], #[.agg #[.int .i64 0, .slice none 0 0, .slice none 0 0], .int .i64 0, .int .i64 0, .agg #[.int .i64 0, .int .i64 0]], []⟩ 8 (by kernel_rfl) (by kernel_rfl) (by kernel_rfl) (by kernel_rfl)) ?_
  intro W base args ds gs before hval0 hW hcnd _
  have hval : ∀ (j : Nat) t v, Try.f7.params[j]? = some t → args[j]? = some v → Value.okWide Try.prog W .any base t v := hval0
  have hW' := hW
  obtain ⟨p, q, hA0, hV, rfl, hfz, hnd⟩ := hW
  have hA : DataW.TrodAll enc Try.prog W 0 (fun _ => true) true Try.f7.params.toList args.toList ds p := hA0
  rw [Try.params7] at hA hval
  obtain ⟨v0, vs0, d0, ds0, p0, q0, hargs, rfl, rfl, h0, r0⟩ := trodAll_cons hA
  obtain ⟨v1, vs1, d1, ds1, p1, q1, rfl, rfl, rfl, h1, r1⟩ := trodAll_cons r0
  obtain ⟨v2, vs2, d2, ds2, p2, q2, rfl, rfl, rfl, h2, r2⟩ := trodAll_cons r1
  obtain ⟨v3, vs3, d3, ds3, p3, q3, rfl, rfl, rfl, h3, r3⟩ := trodAll_cons r2
  obtain ⟨rfl, rfl, rfl⟩ := trodAll_nil r3
  obtain rfl : args = #[v0, v1, v2, v3] := by cases args; simp_all
  obtain ⟨rfl, rfl⟩ := trodVars_none hV
  have k0 := h0
  have lt0 : ∀ x ∈ p0, x.block < W.heap.size := by obtain ⟨m, hm⟩ := k0; exact DataW.trod_lt m _ _ _ hm
  obtain ⟨pn, ppv, pP, pwv, pQ, rfl, phP, phQ, pz⟩ := open_pol (hval 0 28 v0 rfl rfl) h0
  obtain ⟨x, rfl, rfl, rfl, wf1⟩ := open_int Try.underlying3 (hval 1 3 v1 rfl rfl) h1
  obtain ⟨y, rfl, rfl, rfl, wf2⟩ := open_int Try.underlying3 (hval 2 3 v2 rfl rfl) h2
  have k3 := h3
  have lt3 : ∀ x ∈ p3, x.block < W.heap.size := by obtain ⟨m, hm⟩ := k3; exact DataW.trod_lt m _ _ _ hm
  obtain ⟨ma, mb, rfl⟩ := open_pair (hval 3 66 v3 rfl rfl) h3
  clear hA0 hval0
  obtain ⟨bx1, bx2⟩ := bounds_i64 wf1
  obtain ⟨by1, by2⟩ := bounds_i64 wf2
  refine (cprl_c ppv pwv pn pP pQ x y ma mb W phP phQ).mono fun e W' ⟨he, hg⟩ => ?_
  subst he
  exact ⟨_, rfl, _, _, _, [], _, [], hW', trodAll_mk1 (shut_bool Try.underlying4 _), (trodAll_cons_mk (Below.trod laidOut_cprs (by kernel_rfl) (of_decide_eq_true (by kernel_rfl)) k0 hg lt0) (trodAll_cons_mk (shut_int Try.underlying3 wf1) (trodAll_cons_mk (shut_int Try.underlying3 wf2) (trodAll_cons_mk (Below.trod laidOut_cprs (by kernel_rfl) (of_decide_eq_true (by kernel_rfl)) k3 hg lt3) trodAll_mk0)))), rfl, hg.frame _, (fun h => by cases h)⟩

theorem cprs_holds : Rows.ConfigPeersSaid :=
  OpenClaim.holds_of_wide 7 Try.f7 rfl rfl rfl rfl rfl rfl rfl ⟨rfl, rfl, rfl, rfl, rfl⟩ rfl rfl rfl rfl rfl (by kernel_rfl) Try.func7 (by kernel_rfl)
    (of_decide_eq_true (by kernel_rfl)) (by unfold Func.isWrapper; first | (rw [if_pos (by decide +kernel)]; kernel_rfl) | (rw [if_neg (by decide +kernel)]; exact ⟨rfl, rfl⟩))
    (fun os started H enc _ => cprs_lifted os started H enc)
#print axioms cprs_holds
end Go.Proofs.Ytfmfbkfppfohbaa
