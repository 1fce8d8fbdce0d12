/-
  The row of customhouselaw10.IdsParts: for every input it returns true, and each argument reads as it did. No conditions.
  The walk of customhouselaw10.IdsParts: it returns true. Conditions as each theorem lists them.
-/
import Derived.Test.YtbnfagbeebndeaaJ3
import Derived.Test.YtbnfagbeebndeaaRows
import Derived.Below
import Derived.SizedLaws
namespace Go.Proofs.Hd
theorem meetI_len (A B : List Int) : (meetI A B).length ≤ A.length := Nat.le_trans (List.length_filter_le _ _) (setI_len A)
theorem diffI_len (A B : List Int) : (diffI A B).length ≤ A.length := Nat.le_trans (List.length_filter_le _ _) (setI_len A)
theorem joinI_len (A B : List Int) : (joinI A B).length ≤ A.length + B.length := by
  have := setI_len (A ++ B)
  rw [List.length_append] at this
  exact this
end Go.Proofs.Hd
namespace Go.Proofs
open Go.RowKit Go.Proofs.Hd Go.Lib Go.Sort
attribute [local go_sem] uv_nonneg
set_option maxHeartbeats 4000000 in
set_option maxRecDepth 100000 in
theorem iparts_c (va vb : Value) (A B : List Int) (w : World) (hl : A.length ≤ 17592186044416) (hm : B.length ≤ 17592186044416) (ha : Nm w va A) (hb : Nm w vb B) : Calls Try.prog 5 #[va, vb] w fun e w' => e = .returned (.bool true) ∧ Below w.heap.size w w' := by
  have HA := Lib.hid ha
  have HB := Lib.hid hb
  have HLN : Hid (A.length ≤ 17592186044416 ∧ B.length ≤ 17592186044416) := ⟨hl, hm⟩
  have ML : Hid ((meetI A B).length ≤ 17592186044416) := Nat.le_trans (meetI_len A B) hl
  have DL : Hid ((diffI A B).length ≤ 17592186044416) := Nat.le_trans (diffI_len A B) hl
  clear ha hb hl hm
  have HBW := Lib.hid (Below.refl w.heap.size w)
  go_enter Try.func5, Try.ntmps5
  have cz1 := idmeet_c va vb A B w HLN.out.1 HLN.out.2 HA.out HB.out
  go_wp2_with fail
  (with_reducible refine cz1.mono ?_)
  rintro e wz1 ⟨v1, rfl, hn, hb⟩
  replace HA := Lib.hid (HA.out.on hb)
  replace HB := Lib.hid (HB.out.on hb)
  replace HBW := Lib.hid (HBW.out.trans (hb.mono HBW.out.size))
  have HM := Lib.hid hn
  clear cz1 hb hn
  have cz2 := idless_c va vb A B wz1 HLN.out.1 HLN.out.2 HA.out HB.out
  go_wp2_with fail
  (with_reducible refine cz2.mono ?_)
  rintro e wz2 ⟨v2, rfl, hn, hb⟩
  replace HA := Lib.hid (HA.out.on hb)
  replace HB := Lib.hid (HB.out.on hb)
  replace HBW := Lib.hid (HBW.out.trans (hb.mono HBW.out.size))
  replace HM := Lib.hid (HM.out.on hb)
  have HD := Lib.hid hn
  clear cz2 hb hn
  have cz3 := awake10_c wz2
  go_wp2_with fail
  (with_reducible refine cz3.mono ?_)
  rintro e wz3 ⟨rfl, hb⟩
  replace HA := Lib.hid (HA.out.on hb)
  replace HB := Lib.hid (HB.out.on hb)
  replace HBW := Lib.hid (HBW.out.trans (hb.mono HBW.out.size))
  replace HM := Lib.hid (HM.out.on hb)
  replace HD := Lib.hid (HD.out.on hb)
  clear cz3 hb
  have cz4 := idjoin_c v1 v2 (meetI A B) (diffI A B) wz3 ML.out DL.out HM.out HD.out
  rw [join_parts] at cz4
  go_wp2_with fail
  (with_reducible refine cz4.mono ?_)
  rintro e wz4 ⟨v3, rfl, hn, hb⟩
  replace HA := Lib.hid (HA.out.on hb)
  replace HB := Lib.hid (HB.out.on hb)
  replace HBW := Lib.hid (HBW.out.trans (hb.mono HBW.out.size))
  replace HM := Lib.hid (HM.out.on hb)
  replace HD := Lib.hid (HD.out.on hb)
  have HJ := Lib.hid hn
  clear cz4 hb hn
  have cz5 := idmake_c va A wz4 (by have := HLN.out; omega) HA.out
  go_wp2_with fail
  (with_reducible refine cz5.mono ?_)
  rintro e wz5 ⟨v4, rfl, hn, hb⟩
  replace HA := Lib.hid (HA.out.on hb)
  replace HB := Lib.hid (HB.out.on hb)
  replace HBW := Lib.hid (HBW.out.trans (hb.mono HBW.out.size))
  replace HM := Lib.hid (HM.out.on hb)
  replace HD := Lib.hid (HD.out.on hb)
  replace HJ := Lib.hid (HJ.out.on hb)
  have HK := Lib.hid hn
  clear cz5 hb hn
  have cz6 := rints_c v3 v4 (setI A) wz5 HJ.out HK.out (Nat.le_trans (setI_len A) (by have := HLN.out; omega))
  go_wp2_with fail
  (with_reducible refine cz6.mono ?_)
  rintro e wz6 ⟨rfl, hb⟩
  replace HA := Lib.hid (HA.out.on hb)
  replace HB := Lib.hid (HB.out.on hb)
  replace HBW := Lib.hid (HBW.out.trans (hb.mono HBW.out.size))
  replace HM := Lib.hid (HM.out.on hb)
  replace HD := Lib.hid (HD.out.on hb)
  replace HJ := Lib.hid (HJ.out.on hb)
  replace HK := Lib.hid (HK.out.on hb)
  clear cz6 hb
  clear HJ HK
  have cz7 := idmeet_c v1 v2 (meetI A B) (diffI A B) wz6 ML.out DL.out HM.out HD.out
  rw [meet_parts] at cz7
  go_wp2_with fail
  (with_reducible refine cz7.mono ?_)
  rintro e wz7 ⟨v5, rfl, hn, hb⟩
  replace HA := Lib.hid (HA.out.on hb)
  replace HB := Lib.hid (HB.out.on hb)
  replace HBW := Lib.hid (HBW.out.trans (hb.mono HBW.out.size))
  replace HM := Lib.hid (HM.out.on hb)
  replace HD := Lib.hid (HD.out.on hb)
  obtain ⟨A5, k5, rfl⟩ := hn.form (n := 0) rfl
  clear hn
  clear cz7 hb
  clear HD
  have cz8 := idmeet_c vb va B A wz7 HLN.out.2 HLN.out.1 HB.out HA.out
  rw [← meet_swap A B] at cz8
  go_wp2_with fail
  (with_reducible refine cz8.mono ?_)
  rintro e wz8 ⟨v6, rfl, hn, hb⟩
  replace HA := Lib.hid (HA.out.on hb)
  replace HB := Lib.hid (HB.out.on hb)
  replace HBW := Lib.hid (HBW.out.trans (hb.mono HBW.out.size))
  replace HM := Lib.hid (HM.out.on hb)
  have HQ := Lib.hid hn
  clear cz8 hb hn
  have cz9 := rints_c v1 v6 (meetI A B) wz8 HM.out HQ.out (by have := ML.out; omega)
  go_wp2_with fail
  (with_reducible refine cz9.mono ?_)
  rintro e wz9 ⟨rfl, hb⟩
  replace HA := Lib.hid (HA.out.on hb)
  replace HB := Lib.hid (HB.out.on hb)
  replace HBW := Lib.hid (HBW.out.trans (hb.mono HBW.out.size))
  replace HM := Lib.hid (HM.out.on hb)
  replace HQ := Lib.hid (HQ.out.on hb)
  clear cz9 hb
  clear HM HQ
  have cz10 := idjoin_c va vb A B wz9 HLN.out.1 HLN.out.2 HA.out HB.out
  go_wp2_with fail
  (with_reducible refine cz10.mono ?_)
  rintro e wz10 ⟨v7, rfl, hn, hb⟩
  replace HA := Lib.hid (HA.out.on hb)
  replace HB := Lib.hid (HB.out.on hb)
  replace HBW := Lib.hid (HBW.out.trans (hb.mono HBW.out.size))
  have HJ := Lib.hid hn
  clear cz10 hb hn
  have cz11 := idjoin_c vb va B A wz10 HLN.out.2 HLN.out.1 HB.out HA.out
  rw [← join_swap A B] at cz11
  go_wp2_with fail
  (with_reducible refine cz11.mono ?_)
  rintro e wz11 ⟨v8, rfl, hn, hb⟩
  replace HA := Lib.hid (HA.out.on hb)
  replace HB := Lib.hid (HB.out.on hb)
  replace HBW := Lib.hid (HBW.out.trans (hb.mono HBW.out.size))
  replace HJ := Lib.hid (HJ.out.on hb)
  have HK := Lib.hid hn
  clear cz11 hb hn
  have cz12 := rints_c v7 v8 (joinI A B) wz11 HJ.out HK.out (Nat.le_trans (joinI_len A B) (by have := HLN.out; omega))
  go_wp2_with fail
  (with_reducible refine cz12.mono ?_)
  rintro e wz12 ⟨rfl, hb⟩
  replace HA := Lib.hid (HA.out.on hb)
  replace HB := Lib.hid (HB.out.on hb)
  replace HBW := Lib.hid (HBW.out.trans (hb.mono HBW.out.size))
  replace HJ := Lib.hid (HJ.out.on hb)
  replace HK := Lib.hid (HK.out.on hb)
  clear cz12 hb
  clear HJ HK
  have cz13 := idjoin_c va vb A B wz12 HLN.out.1 HLN.out.2 HA.out HB.out
  go_wp2_with fail
  (with_reducible refine cz13.mono ?_)
  rintro e wz13 ⟨v9, rfl, hn, hb⟩
  replace HA := Lib.hid (HA.out.on hb)
  replace HB := Lib.hid (HB.out.on hb)
  replace HBW := Lib.hid (HBW.out.trans (hb.mono HBW.out.size))
  have HJ := Lib.hid hn
  clear cz13 hb hn
  have cz14 := idsound_c v9 (joinI A B) wz13 (Nat.le_trans (joinI_len A B) (by have := HLN.out; omega)) HJ.out
  rw [decide_eq_true (inc_joinI A B)] at cz14
  go_wp2_with fail
  (with_reducible refine cz14.mono ?_)
  rintro e wz14 ⟨rfl, hb⟩
  replace HA := Lib.hid (HA.out.on hb)
  replace HB := Lib.hid (HB.out.on hb)
  replace HBW := Lib.hid (HBW.out.trans (hb.mono HBW.out.size))
  replace HJ := Lib.hid (HJ.out.on hb)
  clear cz14 hb
  clear HJ
  have hneg := lexI_neg (setI A) (setI B)
  obtain ⟨r, hr⟩ : ∃ r, lexI (setI A) (setI B) = r := ⟨_, rfl⟩
  have hc := lexI_cases (setI A) (setI B)
  rw [hr] at hneg hc
  have HR := Lib.hid hr
  have HN := Lib.hid hneg
  clear hr hneg
  rcases hc with rfl | rfl | rfl
  · have cz15 := idcomp_c va vb A B wz14 HLN.out.1 HLN.out.2 HA.out HB.out
    rw [HR.out] at cz15
    go_wp2_with fail
    (with_reducible refine cz15.mono ?_)
    rintro e wz15 ⟨rfl, hb⟩
    replace HA := Lib.hid (HA.out.on hb)
    replace HB := Lib.hid (HB.out.on hb)
    replace HBW := Lib.hid (HBW.out.trans (hb.mono HBW.out.size))
    clear cz15 hb
    have cz16 := idcomp_c vb va B A wz15 HLN.out.2 HLN.out.1 HB.out HA.out
    rw [HN.out] at cz16
    go_wp2_with fail
    (with_reducible refine cz16.mono ?_)
    rintro e wz16 ⟨rfl, hb⟩
    replace HA := Lib.hid (HA.out.on hb)
    replace HB := Lib.hid (HB.out.on hb)
    replace HBW := Lib.hid (HBW.out.trans (hb.mono HBW.out.size))
    clear cz16 hb
    go_wp2
    go_ret
    exact ⟨rfl, HBW.out⟩
  · have cz25 := idcomp_c va vb A B wz14 HLN.out.1 HLN.out.2 HA.out HB.out
    rw [HR.out] at cz25
    go_wp2_with fail
    (with_reducible refine cz25.mono ?_)
    rintro e wz25 ⟨rfl, hb⟩
    replace HA := Lib.hid (HA.out.on hb)
    replace HB := Lib.hid (HB.out.on hb)
    replace HBW := Lib.hid (HBW.out.trans (hb.mono HBW.out.size))
    clear cz25 hb
    have cz26 := idcomp_c vb va B A wz25 HLN.out.2 HLN.out.1 HB.out HA.out
    rw [HN.out] at cz26
    go_wp2_with fail
    (with_reducible refine cz26.mono ?_)
    rintro e wz26 ⟨rfl, hb⟩
    replace HA := Lib.hid (HA.out.on hb)
    replace HB := Lib.hid (HB.out.on hb)
    replace HBW := Lib.hid (HBW.out.trans (hb.mono HBW.out.size))
    clear cz26 hb
    go_wp2
    go_ret
    exact ⟨rfl, HBW.out⟩
  · have cz35 := idcomp_c va vb A B wz14 HLN.out.1 HLN.out.2 HA.out HB.out
    rw [HR.out] at cz35
    go_wp2_with fail
    (with_reducible refine cz35.mono ?_)
    rintro e wz35 ⟨rfl, hb⟩
    replace HA := Lib.hid (HA.out.on hb)
    replace HB := Lib.hid (HB.out.on hb)
    replace HBW := Lib.hid (HBW.out.trans (hb.mono HBW.out.size))
    clear cz35 hb
    have cz36 := idcomp_c vb va B A wz35 HLN.out.2 HLN.out.1 HB.out HA.out
    rw [HN.out] at cz36
    go_wp2_with fail
    (with_reducible refine cz36.mono ?_)
    rintro e wz36 ⟨rfl, hb⟩
    replace HA := Lib.hid (HA.out.on hb)
    replace HB := Lib.hid (HB.out.on hb)
    replace HBW := Lib.hid (HBW.out.trans (hb.mono HBW.out.size))
    clear cz36 hb
    go_wp2
    go_ret
    exact ⟨rfl, HBW.out⟩
end Go.Proofs

namespace Go.Proofs.Ytbnfagbeebndeaa
open Go.ChangeShapes Go.WideShapes Go.ChangeAt Go.RowKit Go.Joins Go.Proofs.Hd

theorem laidOut_ipt : laidOutB Try.prog = true := by kernel_rfl
set_option maxRecDepth 100000 in
theorem ipt_lifted (os : Os) (started : os.Started) (H : Type) (enc : TypeId × Value → H) :
    ReturnsInHanded {} Try.checked os 5 .any (Rows.idsPartsSpec.pre6 enc Try.prog Try.f5 Rows.idsPartsRow.domain false) (Rows.idsPartsSpec.post enc Try.prog Try.f5 false true false false) := by
  refine returnsInHanded_of_change_sized (C := Try.checked) own started (by kernel_rfl) Try.func5
    (ChangeSpec.witness6 (enc := enc) (C := Try.checked) false ⟨#[], #[.slice none 0 0, .slice none 0 0], []⟩ 8 (by kernel_rfl) (by kernel_rfl) (by kernel_rfl) (by kernel_rfl)) ?_
  intro W base args ds gs before hval0 hW hcnd hsz _
  have hval : ∀ (j : Nat) t v, Try.f5.params[j]? = some t → args[j]? = some v → Value.okWide Try.prog W .any base t v := hval0
  have hW' := hW
  obtain ⟨p, q, hA0, hV, rfl, hfz, hnd⟩ := hW
  have hA : DataW.TrodAll enc Try.prog W 0 (fun _ => true) true Try.f5.params.toList args.toList ds p := hA0
  rw [Try.params5] at hA hval
  obtain ⟨v0, vs0, d0, ds0, p0, q0, hargs, rfl, rfl, h0, r0⟩ := trodAll_cons hA
  obtain ⟨v1, vs1, d1, ds1, p1, q1, rfl, rfl, rfl, h1, r1⟩ := trodAll_cons r0
  obtain ⟨rfl, rfl, rfl⟩ := trodAll_nil r1
  obtain rfl : args = #[v0, v1] := by cases args; simp_all
  obtain ⟨rfl, rfl⟩ := trodVars_none hV
  have k0 := h0
  have lt0 : ∀ x ∈ p0, x.block < W.heap.size := by obtain ⟨m, hm⟩ := k0; exact DataW.trod_lt m _ _ _ hm
  obtain ⟨xA, xc, xL, rfl, px, dx⟩ := open_nums (hval 0 22 v0 rfl rfl) h0
  have zx : xL.length ≤ 17592186044416 := by
    rcases dx with e | ⟨el, sp, e1, e2⟩
    · omega
    · subst e1
      have hh := sized_slice hsz (j := 0) (t := 22) (by rw [Try.params5]; rfl) rfl Try.underlying22
      have hb : Try.checked.prog.bytesOf 3 = 8 := by kernel_rfl
      have hr : reachBytes ≤ 140737488351232 := by decide
      rw [hb] at hh
      omega
  have k1 := h1
  have lt1 : ∀ x ∈ p1, x.block < W.heap.size := by obtain ⟨m, hm⟩ := k1; exact DataW.trod_lt m _ _ _ hm
  obtain ⟨yA, yc, yL, rfl, py, dy⟩ := open_nums (hval 1 22 v1 rfl rfl) h1
  have zy : yL.length ≤ 17592186044416 := by
    rcases dy with e | ⟨el, sp, e1, e2⟩
    · omega
    · subst e1
      have hh := sized_slice hsz (j := 1) (t := 22) (by rw [Try.params5]; rfl) rfl Try.underlying22
      have hb : Try.checked.prog.bytesOf 3 = 8 := by kernel_rfl
      have hr : reachBytes ≤ 140737488351232 := by decide
      rw [hb] at hh
      omega
  clear hA0 hval0
  refine (iparts_c _ _ xL yL W zx zy px py).mono fun e W' ⟨he, hg⟩ => ?_
  subst he
  exact ⟨_, rfl, _, _, _, [], _, [], hW', trodAll_mk1 (shut_bool Try.underlying4 _), (trodAll_cons_mk (Below.trod laidOut_ipt (by kernel_rfl) (of_decide_eq_true (by kernel_rfl)) k0 hg lt0) (trodAll_cons_mk (Below.trod laidOut_ipt (by kernel_rfl) (of_decide_eq_true (by kernel_rfl)) k1 hg lt1) trodAll_mk0)), rfl, hg.frame _, (fun h => by cases h)⟩

theorem ipt_holds : Rows.IdsPartsSaid :=
  OpenClaim.holds_of_wide 5 Try.f5 rfl rfl rfl rfl rfl rfl rfl ⟨rfl, rfl, rfl, rfl, rfl⟩ rfl rfl rfl rfl rfl (by kernel_rfl) Try.func5 (by kernel_rfl)
    (of_decide_eq_true (by kernel_rfl)) (by unfold Func.isWrapper; first | (rw [if_pos (by decide +kernel)]; kernel_rfl) | (rw [if_neg (by decide +kernel)]; exact ⟨rfl, rfl⟩))
    (fun os started H enc _ => ipt_lifted os started H enc)
#print axioms ipt_holds
end Go.Proofs.Ytbnfagbeebndeaa
