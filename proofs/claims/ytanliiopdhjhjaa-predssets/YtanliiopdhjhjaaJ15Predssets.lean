/-
  customhouselaw13.PredsSets returns true for every input within the sizes of memory, and each argument reads behind the call as before. No conditions.
  The walk of customhouselaw13.PredsSets: it returns true. Conditions as the theorem lists them.
-/
import Derived.Test.YtanliiopdhjhjaaJ14
import Derived.BigQuiet
import Derived.Test.YtanliiopdhjhjaaRows
import Derived.Below
import Derived.SizedLaws
namespace Go.Proofs.Hd
open Go.RowKit
theorem wrgZ_zero {y ver : Int} (h : wrgZ y ver = 0) : y = 0 ∧ 0 ≤ ver ∧ ver ≤ 255 := by
  unfold wrgZ at h
  by_cases h0 : y = 0
  · rw [if_pos h0] at h
    by_cases h1 : 0 ≤ ver ∧ ver ≤ 255
    · exact ⟨h0, h1.1, h1.2⟩
    · rw [if_neg h1] at h
      exact absurd h (by decide)
  · rw [if_neg h0] at h
    exact absurd h h0
end Go.Proofs.Hd
namespace Go.Proofs
open Go.RowKit Go.Proofs.Hd Go.Lib
attribute [local go_sem] uv_nonneg
attribute [local go_sem high] run_eq4
set_option maxHeartbeats 8000000 in
set_option maxRecDepth 100000 in
theorem pset_c (tv pv wv bv : Value) (T : List (List Pt)) (ten : Int) (P : List (Int × Int)) (Q : List Wa) (BB : List (List (List Rl))) (ver : Int) (w : World) (hT : PsT w tv T) (hP : Pe w pv P) (hQ : Wy w wv Q) (hB : RuQ w bv BB) (hz : Szd T P Q BB) : Calls Try.prog 3 #[.agg #[tv, .int .i64 ten, pv, wv, bv], .int .i64 ver] w fun e w' => e = .returned (.bool true) ∧ Below w.heap.size w w' := by
  have HT := Lib.hid hT
  have HP := Lib.hid hP
  have HQ := Lib.hid hQ
  have HBQ := Lib.hid hB
  have HR5 := Lib.hid hz.r
  obtain ⟨A, cap, rfl, -, -⟩ := hT
  obtain ⟨pA, pc, rfl, -, -⟩ := hP
  obtain ⟨wA, wc, rfl, -, -⟩ := hQ
  obtain ⟨bA, bc, rfl, -, -⟩ := hB
  have B0 := Lib.hid (below1 w (.cells #[.slice A T.length cap, .int .i64 ten, .slice pA P.length pc, .slice wA Q.length wc, .slice bA BB.length bc] 31))
  have N0 : Hid (Blk (w.alloc (.cells #[.slice A T.length cap, .int .i64 ten, .slice pA P.length pc, .slice wA Q.length wc, .slice bA BB.length bc] 31)) w.heap.size 31 #[.slice A T.length cap, .int .i64 ten, .slice pA P.length pc, .slice wA Q.length wc, .slice bA BB.length bc]) := Blk.new w _ _
  obtain ⟨z, hwz⟩ : ∃ z, wrgZ (cfgT T ten P Q BB) ver = z := ⟨_, rfl⟩
  have HWZ := Lib.hid hwz
  clear hz hwz
  go_enter Try.func3, Try.ntmps3
  go_upto_region 1 with (fail)
  generalize (w.alloc (.cells #[.slice A T.length cap, .int .i64 ten, .slice pA P.length pc, .slice wA Q.length wc, .slice bA BB.length bc] 31)) = w1 at B0 N0 ⊢
  obtain ⟨d0, d1, d2, d3, d4⟩ := N0.out.five
  by_cases hz0 : z = 0
  · subst hz0
    obtain ⟨hc0, hv0, hv1⟩ := wrgZ_zero HWZ.out
    obtain ⟨m, rfl⟩ : ∃ m : Nat, ver = m := ⟨ver.toNat, by omega⟩
    have HC0 := Lib.hid hc0
    have hm : m ≤ 255 := by omega
    clear hc0 hv0 hv1
    go_wp2_with fail
    (with_reducible refine (psets_ok _ _ _ _ T ten P Q BB m _ (HT.out.on B0.out) (HP.out.on B0.out) (HQ.out.on B0.out) (HBQ.out.on B0.out) HC0.out hm HR5.out).mono ?_)
    rintro e w2 ⟨sv, rfl, OS, hb2⟩
    obtain ⟨S, hS⟩ : ∃ S, allS T BB m = S := ⟨_, rfl⟩
    rw [hS] at OS
    obtain ⟨sA, sc, rfl⟩ := own_slD OS
    have HS := Lib.hid hS
    have hS6 : S.length ≤ 612 := by rw [← hS]; exact allS_len HC0.out HR5.out m
    have HPS := Lib.hid (own_Pl OS)
    have B2 := Lib.hid (B0.out.trans (hb2.mono B0.out.size))
    have N2 := Lib.hid (N0.out.on hb2)
    clear OS hS hb2 B0 N0 d0 d1 d2 d3 d4
    obtain ⟨d0, d1, d2, d3, d4⟩ := N2.out.five
    go_wp2_with fail
    (with_reducible refine (wrong_r _ _ _ _ T ten P Q BB m 0 _ (HT.out.on B2.out) (HP.out.on B2.out) (HQ.out.on B2.out) (HBQ.out.on B2.out) HWZ.out).mono ?_)
    rintro e w3 ⟨rfl, hb3⟩
    have HPS3 := Lib.hid (HPS.out.on hb3)
    have B3 := Lib.hid (B2.out.trans (hb3.mono B2.out.size))
    have N3 := Lib.hid (N2.out.on hb3)
    clear hb3 HPS B2 N2 d0 d1 d2 d3 d4
    obtain ⟨d0, d1, d2, d3, d4⟩ := N3.out.five
    go_wp2_with fail
    (with_reducible refine (lsets_r _ _ _ _ T ten P Q BB m _ (HT.out.on B3.out) (HP.out.on B3.out) (HQ.out.on B3.out) (HBQ.out.on B3.out) HC0.out hm HR5.out).mono ?_)
    rintro e w4 ⟨⟨uv1, rfl, hU⟩, hb4⟩
    rw [HS.out] at hU
    obtain ⟨uA, uc, rfl, -, hUA⟩ := hU.form
    have HUA := Lib.hid hUA
    have HPS4 := Lib.hid (HPS3.out.on hb4)
    have B4 := Lib.hid (B3.out.trans (hb4.mono B3.out.size))
    have hne : ((S.length : Int) != (S.length : Int)) = false := by simp
    have hSz : (S.length : Int) ≤ 612 := by omega
    clear hb4 hU hUA HPS3 B3 N3 d0 d1 d2 d3 d4 HT HP HQ HBQ HR5 HC0 HWZ HS
    go_wp2
    clear hne
    go_loopg [9] S.length (fun gk s9 wr => ∃ k : Nat, k ≤ S.length ∧ gk = S.length - k ∧ s9 = .int .i64 k ∧ Hid (Below w4.heap.size w4 wr))
    case atStart => exact ⟨0, Nat.zero_le _, rfl, by go_num, Below.refl _ _⟩
    case round =>
      obtain ⟨k, hk, rfl, rfl, HB⟩ := hrel
      by_cases hlt : k < S.length
      · have hltz : (k : Int) < (S.length : Int) := by omega
        obtain ⟨d, hd⟩ : ∃ d, S[k]? = some d := ⟨_, List.getElem?_eq_getElem hlt⟩
        obtain ⟨A1, c1, e1, -, hA⟩ := HPS4.out.form
        injection e1 with e2 _ e3
        subst e2 e3
        obtain ⟨b, o, rfl, _, hpc⟩ := hA (by rintro rfl; simp at hd)
        obtain ⟨b2, o2, rfl, _, hpc2⟩ := HUA.out (by rintro rfl; simp at hd)
        obtain ⟨x0, x1, x2, x3⟩ := hpc k d hd
        obtain ⟨y0, y1, y2, y3⟩ := hpc2 k d hd
        replace x0 := on_some HB.out x0
        replace x1 := on_some HB.out x1
        replace x2 := on_some HB.out x2
        replace x3 := on_some HB.out x3
        replace y0 := on_some HB.out y0
        replace y1 := on_some HB.out y1
        replace y2 := on_some HB.out y2
        replace y3 := on_some HB.out y3
        have he := eq4_self (uv d.vh) (uv d.vl) (uv d.ch) (uv d.cl)
        clear hd hA hpc hpc2
        go_wp2_with fail
        go_quiet (fail)
        have HB2 := Lib.hid (bldrewN HB.out nq)
        clear HB x0 x1 x2 x3 y0 y1 y2 y3 he
        generalize wr.drewN nq = w6 at HB2 ⊢
        clear nq
        go_wp2
        go_roundg (S.length - (k + 1))
        case measure => omega
        case rel => exact ⟨k + 1, by omega, rfl, by go_num, HB2⟩
      · have hltz : ¬ (k : Int) < (S.length : Int) := by omega
        go_wp2_with fail
        (with_reducible refine (awake13_c _).mono ?_)
        rintro e w7 ⟨rfl, hb7⟩
        have B7 := B4.out.trans ((HB.out.trans (hb7.mono HB.out.size)).mono B4.out.size)
        clear hb7 HB
        go_wp2
        go_ret
        exact ⟨rfl, B7⟩
  · have hzb : (z == z) = true := by simp
    go_wp2_with fail
    (with_reducible refine (psets_bad _ _ _ _ T ten P Q BB ver z _ (HT.out.on B0.out) (HP.out.on B0.out) (HQ.out.on B0.out) (HBQ.out.on B0.out) HWZ.out hz0).mono ?_)
    rintro e w2 ⟨rfl, hb2⟩
    have B2 := Lib.hid (B0.out.trans (hb2.mono B0.out.size))
    have N2 := Lib.hid (N0.out.on hb2)
    clear hb2 B0 N0 d0 d1 d2 d3 d4
    obtain ⟨d0, d1, d2, d3, d4⟩ := N2.out.five
    go_wp2_with fail
    (with_reducible refine (wrong_r _ _ _ _ T ten P Q BB ver z _ (HT.out.on B2.out) (HP.out.on B2.out) (HQ.out.on B2.out) (HBQ.out.on B2.out) HWZ.out).mono ?_)
    rintro e w3 ⟨rfl, hb3⟩
    have B3 := Lib.hid (B2.out.trans (hb3.mono B2.out.size))
    clear hb3 B2 N2 d0 d1 d2 d3 d4
    go_wp2_with fail
    (with_reducible refine (awake13_c _).mono ?_)
    rintro e w4 ⟨rfl, hb4⟩
    have B4 := B3.out.trans (hb4.mono B3.out.size)
    clear hb4
    go_wp2
    go_ret
    exact ⟨rfl, B4⟩
end Go.Proofs

namespace Go.Proofs.Ytanliiopdhjhjaa
open Go.ChangeShapes Go.WideShapes Go.ChangeAt Go.RowKit Go.Joins Go.Proofs.Hd

theorem laidOut_pst : laidOutB Try.prog = true := by kernel_rfl
set_option maxRecDepth 100000 in
theorem pst_lifted (os : Os) (started : os.Started) (H : Type) (enc : TypeId × Value → H) :
    ReturnsInHanded {} Try.checked os 3 .any (Rows.predsSetsSpec.pre6 enc Try.prog Try.f3 Rows.predsSetsRow.domain false) (Rows.predsSetsSpec.post enc Try.prog Try.f3 false true false false) := by
  refine returnsInHanded_of_change_sized (C := Try.checked) own started (by kernel_rfl) Try.func3
    (ChangeSpec.witness6 (enc := enc) (C := Try.checked) false ⟨#[], #[.agg #[.slice none 0 0, .int .i64 0, .slice none 0 0, .slice none 0 0, .slice none 0 0], .int .i64 0], []⟩ 8 (by kernel_rfl) (by kernel_rfl) (by kernel_rfl) (by kernel_rfl)) ?_
  intro W base args ds gs before hval0 hW hcnd hsz _
  have hval : ∀ (j : Nat) t v, Try.f3.params[j]? = some t → args[j]? = some v → Value.okWide Try.prog W .any base t v := hval0
  have hW' := hW
  obtain ⟨p, q, hA0, hV, rfl, hfz, hnd⟩ := hW
  have hA : DataW.TrodAll enc Try.prog W 0 (fun _ => true) true Try.f3.params.toList args.toList ds p := hA0
  rw [Try.params3] at hA hval
  obtain ⟨v0, vs0, d0, ds0, p0, q0, hargs, rfl, rfl, h0, r0⟩ := trodAll_cons hA
  obtain ⟨v1, vs1, d1, ds1, p1, q1, rfl, rfl, rfl, h1, r1⟩ := trodAll_cons r0
  obtain ⟨rfl, rfl, rfl⟩ := trodAll_nil r1
  obtain rfl : args = #[v0, v1] := by cases args; simp_all
  obtain ⟨rfl, rfl⟩ := trodVars_none hV
  have k0 := h0
  have lt0 : ∀ x ∈ p0, x.block < W.heap.size := by obtain ⟨m, hm⟩ := k0; exact DataW.trod_lt m _ _ _ hm
  obtain ⟨ctv, cT, cn, cpv, cP, cwv, cQ, cbv, cB, rfl, chT, chP, chQ, chB, cz⟩ := open_cfg (hval 0 31 v0 rfl rfl) h0
  have cs := cz fun m hm => by simpa using List.all_eq_true.1 hsz m (DataW.weights_mem_each (j := 0) (t := 31) (by rw [Try.params3]; rfl) rfl m hm)
  obtain ⟨n, rfl, rfl, rfl, wf1⟩ := open_int Try.underlying3 (hval 1 3 v1 rfl rfl) h1
  clear hA0 hval0
  obtain ⟨bn1, bn2⟩ := bounds_i64 wf1
  refine (pset_c ctv cpv cwv cbv cT cn cP cQ cB n W chT chP chQ chB cs).mono fun e W' ⟨he, hg⟩ => ?_
  subst he
  exact ⟨_, rfl, _, _, _, [], _, [], hW', trodAll_mk1 (shut_bool Try.underlying4 _), (trodAll_cons_mk (Below.trod laidOut_pst (by kernel_rfl) (of_decide_eq_true (by kernel_rfl)) k0 hg lt0) (trodAll_cons_mk (shut_int Try.underlying3 wf1) trodAll_mk0)), rfl, hg.frame _, (fun h => by cases h)⟩

theorem pst_holds : Rows.PredsSetsSaid :=
  OpenClaim.holds_of_wide 3 Try.f3 rfl rfl rfl rfl rfl rfl rfl ⟨rfl, rfl, rfl, rfl, rfl⟩ rfl rfl rfl rfl rfl (by kernel_rfl) Try.func3 (by kernel_rfl)
    (of_decide_eq_true (by kernel_rfl)) (by unfold Func.isWrapper; first | (rw [if_pos (by decide +kernel)]; kernel_rfl) | (rw [if_neg (by decide +kernel)]; exact ⟨rfl, rfl⟩))
    (fun os started H enc _ => pst_lifted os started H enc)
#print axioms pst_holds
end Go.Proofs.Ytanliiopdhjhjaa
