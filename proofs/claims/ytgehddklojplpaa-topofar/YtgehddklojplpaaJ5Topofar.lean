/-
  customhouselaw07.TopoFar returns true for every input, and each argument reads behind the call as before. No conditions.
  The law TopoFar's walk. Conditions as the theorem lists them.
-/
import Derived.Test.YtgehddklojplpaaJ4
import Derived.Test.YtgehddklojplpaaRows
import Derived.Below
namespace Go.Proofs
open Go.RowKit Go.Proofs.Hd Go.Lib
set_option maxRecDepth 100000 in
set_option maxHeartbeats 2000000 in
theorem tfarl_c (tv : Value) (T : List (List Pt)) (a : Int) (w : World) (hT : PsT w tv T) : Calls Try.prog 4 #[.agg #[tv], .int .i64 a] w fun e w' => e = .returned (.bool true) ∧ Below w.heap.size w w' := by
  have HT := Lib.hid hT
  obtain ⟨A, cap, rfl, htm, -⟩ := hT
  have B0 := below1 w (.cells #[.slice A T.length cap] 24)
  have N0 : Hid (Blk (w.alloc (.cells #[.slice A T.length cap] 24)) w.heap.size 24 #[.slice A T.length cap]) := Blk.new w _ _
  go_enter Try.func4, Try.ntmps4
  go_wp2_with fail
  (with_reducible refine (far_c _ T a _ (HT.out.on B0)).mono ?_)
  rintro e w1 h1
  rcases h1 with ⟨hz, rfl, hb1⟩ | ⟨hs, n, v, rfl, hn, rfl, hv, hb1⟩
  · have HB1 := Lib.hid (B0.trans (hb1.mono B0.size))
    have N1 := Lib.hid (N0.out.on hb1)
    have d1 := N1.out.one
    obtain ⟨x, hx⟩ : ∃ x, strT T a = x := ⟨_, rfl⟩
    rw [hx] at hz ⊢
    clear hb1 B0 N0
    go_wp2_with fail
    (with_reducible refine (rtsound_c _ T _ (HT.out.on HB1.out)).mono ?_)
    rintro e w2 ⟨rfl, hb2⟩
    have HB2 := Lib.hid (HB1.out.trans (hb2.mono HB1.out.size))
    have d2 := (N1.out.on hb2).one
    clear hb2 HB1 N1 d1
    by_cases hs : sTp T = 0
    · rw [hs]
      unfold strT at hx
      rw [if_pos hs] at hx
      have hi : inB a T.length = false := by
        cases h : inB a T.length with
        | false => rfl
        | true => rw [h, if_pos rfl] at hx; exact absurd hx.symm hz
      rw [hi, if_neg (by decide)] at hx
      subst hx
      have hi2 : a < 0 ∨ (T.length : Int) ≤ a := by simp [inB] at hi; omega
      clear hs hz hi
      by_cases h0 : a < 0
      · go_wp2_with fail
        (with_reducible refine (awake7_c _).mono ?_)
        rintro e w3 ⟨rfl, hb3⟩
        have HB3 := Lib.hid (HB2.out.trans (hb3.mono HB2.out.size))
        clear hb3 HB2 d2
        go_wp2
        go_ret
        exact ⟨rfl, HB3.out⟩
      · have h1 : (T.length : Int) ≤ a := by omega
        go_wp2_with fail
        (with_reducible refine (awake7_c _).mono ?_)
        rintro e w3 ⟨rfl, hb3⟩
        have HB3 := Lib.hid (HB2.out.trans (hb3.mono HB2.out.size))
        clear hb3 HB2 d2
        go_wp2
        go_ret
        exact ⟨rfl, HB3.out⟩
    · unfold strT at hx
      rw [if_neg hs] at hx
      rw [hx]
      clear hs hx
      have hzb : (x == 0) = false := beq_false_of_ne hz
      go_wp2_with fail
      (with_reducible refine (awake7_c _).mono ?_)
      rintro e w3 ⟨rfl, hb3⟩
      have HB3 := Lib.hid (HB2.out.trans (hb3.mono HB2.out.size))
      clear hb3 HB2 d2
      go_wp2
      go_ret
      exact ⟨rfl, HB3.out⟩
  · have HB1 := Lib.hid (B0.trans (hb1.mono B0.size))
    have N1 := Lib.hid (N0.out.on hb1)
    have HV := Lib.hid hv
    obtain ⟨fb, fc, rfl, -, -⟩ := hv
    have d1 := N1.out.one
    have HS := Lib.hid (Snd.of hs)
    have HZ := Lib.hid hs
    have hnz : ¬ (T.length : Int) ≤ (n : Int) := by omega
    have h6 := (Snd.of hs).n6
    have HFL := Lib.hid (farL_len T n)
    rw [HFL.out] at HV ⊢
    clear hb1 B0 N0 hs
    go_wp2_with fail
    (with_reducible refine (rtsound_c _ T _ (HT.out.on HB1.out)).mono ?_)
    rintro e w2 ⟨rfl, hb2⟩
    rw [HZ.out]
    have HB2 := Lib.hid (HB1.out.trans (hb2.mono HB1.out.size))
    have N2 := Lib.hid (N1.out.on hb2)
    have HV2 := Lib.hid (HV.out.on hb2)
    have d2 := N2.out.one
    clear hb2 HB1 N1 d1 HV
    go_wp2_with fail
    (with_reducible refine (awake7_c _).mono ?_)
    rintro e w3 ⟨rfl, hb3⟩
    have HB3 := Lib.hid (HB2.out.trans (hb3.mono HB2.out.size))
    have d3 := (N2.out.on hb3).one
    have HV3 := Lib.hid (HV2.out.on hb3)
    clear hb3 HB2 d2 N2 HV2
    go_wp2_with fail
    (with_reducible refine (rfar_c _ T n _ (HT.out.on HB3.out) HS.out hn).mono ?_)
    rintro e w4 ⟨u, rfl, hu, hb4⟩
    have HB4 := Lib.hid (HB3.out.trans (hb4.mono HB3.out.size))
    have HV4 := Lib.hid (HV3.out.on hb4)
    have HU := Lib.hid hu
    clear hb4 HB3 d3 HV3 hu
    go_wp2_with fail
    (with_reducible refine (ints_c _ u (farL T n) _ HV4.out HU.out (by rw [HFL.out]; omega)).mono ?_)
    rintro e w5 ⟨rfl, hb5⟩
    have HB5 := Lib.hid (HB4.out.trans (hb5.mono HB4.out.size))
    clear hb5 HB4
    go_wp2
    go_ret
    exact ⟨rfl, HB5.out⟩
end Go.Proofs

namespace Go.Proofs.Ytgehddklojplpaa
open Go.ChangeShapes Go.WideShapes Go.ChangeAt Go.RowKit Go.Joins Go.Proofs.Hd

theorem laidOut_tfar : laidOutB Try.prog = true := by kernel_rfl
set_option maxRecDepth 100000 in
theorem tfar_lifted (os : Os) (started : os.Started) (H : Type) (enc : TypeId × Value → H) :
    ReturnsInHanded {} Try.checked os 4 .any (Rows.topoFarSpec.pre6 enc Try.prog Try.f4 Rows.topoFarRow.domain false) (Rows.topoFarSpec.post enc Try.prog Try.f4 false true false false) := by
  refine returnsInHanded_of_change (C := Try.checked) own started (by kernel_rfl) Try.func4
    (ChangeSpec.witness6 (enc := enc) (C := Try.checked) false ⟨#[], #[.agg #[.slice none 0 0], .int .i64 0], []⟩ 8 (by kernel_rfl) (by kernel_rfl) (by kernel_rfl) (by kernel_rfl)) ?_
  intro W base args ds gs before hval0 hW hcnd _
  have hval : ∀ (j : Nat) t v, Try.f4.params[j]? = some t → args[j]? = some v → Value.okWide Try.prog W .any base t v := hval0
  have hW' := hW
  obtain ⟨p, q, hA0, hV, rfl, hfz, hnd⟩ := hW
  have hA : DataW.TrodAll enc Try.prog W 0 (fun _ => true) true Try.f4.params.toList args.toList ds p := hA0
  rw [Try.params4] at hA hval
  obtain ⟨v0, vs0, d0, ds0, p0, q0, hargs, rfl, rfl, h0, r0⟩ := trodAll_cons hA
  obtain ⟨v1, vs1, d1, ds1, p1, q1, rfl, rfl, rfl, h1, r1⟩ := trodAll_cons r0
  obtain ⟨rfl, rfl, rfl⟩ := trodAll_nil r1
  obtain rfl : args = #[v0, v1] := by cases args; simp_all
  obtain ⟨rfl, rfl⟩ := trodVars_none hV
  have k0 := h0
  have lt0 : ∀ x ∈ p0, x.block < W.heap.size := by obtain ⟨m, hm⟩ := k0; exact DataW.trod_lt m _ _ _ hm
  obtain ⟨tV, tT, rfl, pt, dt⟩ := open_topo (hval 0 24 v0 rfl rfl) h0
  obtain ⟨a, rfl, rfl, rfl, wf1⟩ := open_int Try.underlying3 (hval 1 3 v1 rfl rfl) h1
  clear hA0 hval0
  obtain ⟨ba1, ba2⟩ := bounds_i64 wf1
  refine (tfarl_c tV tT a W pt).mono fun e W' ⟨he, hg⟩ => ?_
  subst he
  exact ⟨_, rfl, _, _, _, [], _, [], hW', trodAll_mk1 (shut_bool Try.underlying4 _), (trodAll_cons_mk (Below.trod laidOut_tfar (by kernel_rfl) (of_decide_eq_true (by kernel_rfl)) k0 hg lt0) (trodAll_cons_mk (shut_int Try.underlying3 wf1) trodAll_mk0)), rfl, hg.frame _, (fun h => by cases h)⟩

theorem tfar_holds : Rows.TopoFarSaid :=
  OpenClaim.holds_of_wide 4 Try.f4 rfl rfl rfl rfl rfl rfl rfl ⟨rfl, rfl, rfl, rfl, rfl⟩ rfl rfl rfl rfl rfl (by kernel_rfl) Try.func4 (by kernel_rfl)
    (of_decide_eq_true (by kernel_rfl)) (by unfold Func.isWrapper; first | (rw [if_pos (by decide +kernel)]; kernel_rfl) | (rw [if_neg (by decide +kernel)]; exact ⟨rfl, rfl⟩))
    (fun os started H enc _ => tfar_lifted os started H enc)
#print axioms tfar_holds
end Go.Proofs.Ytgehddklojplpaa
