/-
  The row of customhouselaw10.IdsMakes: for every input it returns true, and each argument reads as it did. No conditions.
  The walk of customhouselaw10.IdsMakes: it returns true. Conditions as each theorem lists them.
-/
import Derived.Test.YtbnfagbeebndeaaJ3
import Derived.Test.YtbnfagbeebndeaaRows
import Derived.Below
namespace Go.Proofs.Hd
theorem Nm.addr {w : World} {A : Option Addr} {n c : Nat} {L : List Int} (h : Nm w (.slice A n c) L) (h0 : L ≠ []) : ∃ b o, A = some ⟨b, o, none⟩ ∧ ∀ (k : Nat) (x : Int), L[k]? = some x → w.cell? ⟨b, o + k, none⟩ = some (.int .i64 x) := by
  obtain ⟨A', c', e, _, _, h3⟩ := h
  injection e with e1 e2 e3
  subst e1
  rcases h3 with h | ⟨b, o, e, _, hc⟩
  · exact absurd h h0
  · exact ⟨b, o, e, hc⟩
end Go.Proofs.Hd
namespace Go.Proofs
open Go.RowKit Go.Proofs.Hd Go.Lib Go.Sort
attribute [local go_sem] uv_nonneg
set_option maxHeartbeats 4000000 in
set_option maxRecDepth 100000 in
theorem imakes_long (v : Value) (L : List Int) (n : Int) (w : World) (hl : 300 < L.length) (hv : Nm w v L) : Calls Try.prog 3 #[v, .int .i64 n] w fun e w' => e = .returned (.bool true) ∧ Below w.heap.size w w' := by
  obtain ⟨A, c, rfl, hlc, hcm, h3⟩ := hv
  have hlz : (300 : Int) < (L.length : Int) := by omega
  have hnc : 300 ≤ c := by omega
  have hncz : (300 : Int) ≤ (c : Int) := by omega
  have hN : Nm w (.slice A 300 c) (L.take 300) := Nm.take ⟨A, c, rfl, hlc, hcm, h3⟩ (by omega)
  have hlen : (L.take 300).length = 300 := by rw [List.length_take]; omega
  generalize hMM : L.take 300 = M at hN hlen
  clear hMM h3
  have HN := Lib.hid hN
  have HLEN : Hid (M.length = 300) := hlen
  clear hN hlen
  go_enter Try.func3, Try.ntmps3
  go_wp2
  go_loopg [5, 6] 300 (fun gk s5 s6 wr => ∃ k : Nat, 1 ≤ k ∧ gk + k = 300 + 1 ∧ s5 = .bool (decide (Inc (M.take k))) ∧ s6 = .int .i64 k ∧ Hid (Below w.heap.size w wr))
  case atStart => exact ⟨1, Nat.le_refl _, rfl, by rw [decide_eq_true (inc_one (Nat.le_refl _))], rfl, Below.refl _ _⟩
  case round =>
    obtain ⟨k, hk, hgk, rfl, rfl, HB⟩ := hrel
    by_cases hlt : k < 300
    · have hltz : (k : Int) < (300 : Int) := by omega
      obtain ⟨j, e⟩ : ∃ j, j + 1 = k := ⟨k - 1, by omega⟩
      have hjz : (j : Int) < (300 : Int) := by omega
      have q1 := pred_wrap e (by omega)
      have q2 : (k : Int) - 1 = (j : Int) := by omega
      obtain ⟨y, hy⟩ : ∃ y, M[j]? = some y := ⟨_, List.getElem?_eq_getElem (by have := HLEN.out; omega)⟩
      obtain ⟨z, hz⟩ : ∃ z, M[k]? = some z := ⟨_, List.getElem?_eq_getElem (by have := HLEN.out; omega)⟩
      obtain ⟨b, o, rfl, hcell⟩ := HN.out.addr (by intro e2; subst e2; simp at hy)
      have d1 := on_some HB.out (hcell j y hy)
      have d2 := on_some HB.out (hcell k z hz)
      have st := Lib.hid (inc_step e hy hz)
      have HJK := Lib.hid e
      clear hy hz e hcell
      cases hbb : decide (Inc (M.take k)) with
      | true =>
        have HI := Lib.hid (of_decide_eq_true hbb)
        clear hbb
        by_cases hyz : y < z
        · have hd : decide (y < z) = true := decide_eq_true hyz
          have hnew : Hid (decide (Inc (M.take (k + 1))) = true) := decide_eq_true (st.out.2 ⟨HI.out, hyz⟩)
          have HYZ := Lib.hid hyz
          clear hyz
          go_wp2_with fail
          go_quiet (fail)
          have HB2 := Lib.hid (bdn HB.out nq)
          clear d1 d2 HB
          generalize wr.drewN nq = w2 at HB2 ⊢
          go_wp2
          go_roundg (300 - k)
          case measure => omega
          case rel => exact ⟨k + 1, by omega, by omega, by rw [hnew.out], by go_num, HB2⟩
        · have hd : decide (y < z) = false := decide_eq_false hyz
          have hnew : Hid (decide (Inc (M.take (k + 1))) = false) := decide_eq_false (fun h => hyz (st.out.1 h).2)
          have HYZ := Lib.hid hyz
          clear hyz
          go_wp2_with fail
          go_quiet (fail)
          have HB2 := Lib.hid (bdn HB.out nq)
          clear d1 d2 HB
          generalize wr.drewN nq = w2 at HB2 ⊢
          go_wp2
          go_roundg (300 - k)
          case measure => omega
          case rel => exact ⟨k + 1, by omega, by omega, by rw [hnew.out], by go_num, HB2⟩
      | false =>
        have hnew : Hid (decide (Inc (M.take (k + 1))) = false) := decide_eq_false (fun h => absurd (st.out.1 h).1 (of_decide_eq_false hbb))
        clear hbb
        go_wp2_with fail
        go_quiet (fail)
        have HB2 := Lib.hid (bdn HB.out nq)
        clear d1 d2 HB
        generalize wr.drewN nq = w2 at HB2 ⊢
        go_wp2
        go_roundg (300 - k)
        case measure => omega
        case rel => exact ⟨k + 1, by omega, by omega, by rw [hnew.out], by go_num, HB2⟩
    · have hltz : ¬ (k : Int) < (300 : Int) := by omega
      have hin : decide (Inc (M.take k)) = decide (Inc M) := by rw [List.take_of_length_le (by have := HLEN.out; omega)]
      rw [hin]
      obtain ⟨r, hr⟩ : ∃ r, decide (Inc M) = r := ⟨_, rfl⟩
      obtain ⟨q, hq⟩ : ∃ q, decide (n ∈ M) = q := ⟨_, rfl⟩
      rw [hr]
      have HR := Lib.hid hr
      have HQ := Lib.hid hq
      have HNr := Lib.hid (HN.out.on HB.out)
      have HBr := HB
      clear hr hq hin HN HB
      have cz1 := awake10_c wr
      go_wp2_with fail
      (with_reducible refine cz1.mono ?_)
      rintro e wz1 ⟨rfl, hb⟩
      replace HNr := Lib.hid (HNr.out.on hb)
      replace HBr := Lib.hid (HBr.out.trans (hb.mono HBr.out.size))
      clear cz1 hb
      have cz2 := idmake_c _ M wz1 (by have := HLEN.out; omega) HNr.out
      go_wp2_with fail
      (with_reducible refine cz2.mono ?_)
      rintro e wz2 ⟨v1, rfl, hn, hb⟩
      replace HNr := Lib.hid (HNr.out.on hb)
      replace HBr := Lib.hid (HBr.out.trans (hb.mono HBr.out.size))
      have HK := Lib.hid hn
      clear cz2 hb hn
      have cz3 := lset_c _ M wz2 (by have := HLEN.out; omega) HNr.out
      go_wp2_with fail
      (with_reducible refine cz3.mono ?_)
      rintro e wz3 ⟨v2, rfl, hn, hb⟩
      replace HNr := Lib.hid (HNr.out.on hb)
      replace HBr := Lib.hid (HBr.out.trans (hb.mono HBr.out.size))
      replace HK := Lib.hid (HK.out.on hb)
      have HJ := Lib.hid hn
      clear cz3 hb hn
      have cz4 := rints_c v1 v2 (setI M) wz3 HK.out HJ.out (Nat.le_trans (setI_len M) (by have := HLEN.out; omega))
      go_wp2_with fail
      (with_reducible refine cz4.mono ?_)
      rintro e wz4 ⟨rfl, hb⟩
      replace HNr := Lib.hid (HNr.out.on hb)
      replace HBr := Lib.hid (HBr.out.trans (hb.mono HBr.out.size))
      replace HK := Lib.hid (HK.out.on hb)
      replace HJ := Lib.hid (HJ.out.on hb)
      clear cz4 hb
      clear HK HJ
      have cz5 := idsound_c _ M wz4 (by have := HLEN.out; omega) HNr.out
      rw [HR.out] at cz5
      go_wp2_with fail
      (with_reducible refine cz5.mono ?_)
      rintro e wz5 ⟨rfl, hb⟩
      replace HNr := Lib.hid (HNr.out.on hb)
      replace HBr := Lib.hid (HBr.out.trans (hb.mono HBr.out.size))
      clear cz5 hb
      have cz6 := idhas_c _ M n wz5 (by have := HLEN.out; omega) HNr.out
      rw [HQ.out] at cz6
      go_wp2_with fail
      (with_reducible refine cz6.mono ?_)
      rintro e wz6 ⟨rfl, rfl⟩
      clear cz6
      have cz7 := lhas_c _ M n wz6 (by have := HLEN.out; omega) HNr.out
      rw [HQ.out] at cz7
      go_wp2_with fail
      (with_reducible refine cz7.mono ?_)
      rintro e wz7 ⟨rfl, hb⟩
      replace HNr := Lib.hid (HNr.out.on hb)
      replace HBr := Lib.hid (HBr.out.trans (hb.mono HBr.out.size))
      clear cz7 hb
      go_wp2
      go_ret
      exact ⟨rfl, HBr.out⟩
set_option maxHeartbeats 4000000 in
set_option maxRecDepth 100000 in
theorem imakes_short (v : Value) (L : List Int) (n : Int) (w : World) (hl : L.length ≤ 300) (hv : Nm w v L) : Calls Try.prog 3 #[v, .int .i64 n] w fun e w' => e = .returned (.bool true) ∧ Below w.heap.size w w' := by
  obtain ⟨A, c, rfl, hlc, hcm, h3⟩ := hv
  have hlz : ¬ (300 : Int) < (L.length : Int) := by omega
  have hlz2 : (L.length : Int) ≤ 300 := by omega
  have hN : Nm w (.slice A L.length c) L := ⟨A, c, rfl, hlc, hcm, h3⟩
  have hlen : L.length = L.length := rfl
  clear h3
  have HN := Lib.hid hN
  have HLEN : Hid (L.length = L.length) := hlen
  clear hN hlen
  go_enter Try.func3, Try.ntmps3
  go_wp2
  go_loopg [5, 6] L.length (fun gk s5 s6 wr => ∃ k : Nat, 1 ≤ k ∧ gk + k = L.length + 1 ∧ s5 = .bool (decide (Inc (L.take k))) ∧ s6 = .int .i64 k ∧ Hid (Below w.heap.size w wr))
  case atStart => exact ⟨1, Nat.le_refl _, rfl, by rw [decide_eq_true (inc_one (Nat.le_refl _))], rfl, Below.refl _ _⟩
  case round =>
    obtain ⟨k, hk, hgk, rfl, rfl, HB⟩ := hrel
    by_cases hlt : k < L.length
    · have hltz : (k : Int) < (L.length : Int) := by omega
      obtain ⟨j, e⟩ : ∃ j, j + 1 = k := ⟨k - 1, by omega⟩
      have hjz : (j : Int) < (L.length : Int) := by omega
      have q1 := pred_wrap e (by omega)
      have q2 : (k : Int) - 1 = (j : Int) := by omega
      obtain ⟨y, hy⟩ : ∃ y, L[j]? = some y := ⟨_, List.getElem?_eq_getElem (by have := HLEN.out; omega)⟩
      obtain ⟨z, hz⟩ : ∃ z, L[k]? = some z := ⟨_, List.getElem?_eq_getElem (by have := HLEN.out; omega)⟩
      obtain ⟨b, o, rfl, hcell⟩ := HN.out.addr (by intro e2; subst e2; simp at hy)
      have d1 := on_some HB.out (hcell j y hy)
      have d2 := on_some HB.out (hcell k z hz)
      have st := Lib.hid (inc_step e hy hz)
      have HJK := Lib.hid e
      clear hy hz e hcell
      cases hbb : decide (Inc (L.take k)) with
      | true =>
        have HI := Lib.hid (of_decide_eq_true hbb)
        clear hbb
        by_cases hyz : y < z
        · have hd : decide (y < z) = true := decide_eq_true hyz
          have hnew : Hid (decide (Inc (L.take (k + 1))) = true) := decide_eq_true (st.out.2 ⟨HI.out, hyz⟩)
          have HYZ := Lib.hid hyz
          clear hyz
          go_wp2_with fail
          go_quiet (fail)
          have HB2 := Lib.hid (bdn HB.out nq)
          clear d1 d2 HB
          generalize wr.drewN nq = w2 at HB2 ⊢
          go_wp2
          go_roundg (L.length - k)
          case measure => omega
          case rel => exact ⟨k + 1, by omega, by omega, by rw [hnew.out], by go_num, HB2⟩
        · have hd : decide (y < z) = false := decide_eq_false hyz
          have hnew : Hid (decide (Inc (L.take (k + 1))) = false) := decide_eq_false (fun h => hyz (st.out.1 h).2)
          have HYZ := Lib.hid hyz
          clear hyz
          go_wp2_with fail
          go_quiet (fail)
          have HB2 := Lib.hid (bdn HB.out nq)
          clear d1 d2 HB
          generalize wr.drewN nq = w2 at HB2 ⊢
          go_wp2
          go_roundg (L.length - k)
          case measure => omega
          case rel => exact ⟨k + 1, by omega, by omega, by rw [hnew.out], by go_num, HB2⟩
      | false =>
        have hnew : Hid (decide (Inc (L.take (k + 1))) = false) := decide_eq_false (fun h => absurd (st.out.1 h).1 (of_decide_eq_false hbb))
        clear hbb
        go_wp2_with fail
        go_quiet (fail)
        have HB2 := Lib.hid (bdn HB.out nq)
        clear d1 d2 HB
        generalize wr.drewN nq = w2 at HB2 ⊢
        go_wp2
        go_roundg (L.length - k)
        case measure => omega
        case rel => exact ⟨k + 1, by omega, by omega, by rw [hnew.out], by go_num, HB2⟩
    · have hltz : ¬ (k : Int) < (L.length : Int) := by omega
      have hin : decide (Inc (L.take k)) = decide (Inc L) := by rw [List.take_of_length_le (by have := HLEN.out; omega)]
      rw [hin]
      obtain ⟨r, hr⟩ : ∃ r, decide (Inc L) = r := ⟨_, rfl⟩
      obtain ⟨q, hq⟩ : ∃ q, decide (n ∈ L) = q := ⟨_, rfl⟩
      rw [hr]
      have HR := Lib.hid hr
      have HQ := Lib.hid hq
      have HNr := Lib.hid (HN.out.on HB.out)
      have HBr := HB
      clear hr hq hin HN HB
      have cz1 := awake10_c wr
      go_wp2_with fail
      (with_reducible refine cz1.mono ?_)
      rintro e wz1 ⟨rfl, hb⟩
      replace HNr := Lib.hid (HNr.out.on hb)
      replace HBr := Lib.hid (HBr.out.trans (hb.mono HBr.out.size))
      clear cz1 hb
      have cz2 := idmake_c _ L wz1 (by have := HLEN.out; omega) HNr.out
      go_wp2_with fail
      (with_reducible refine cz2.mono ?_)
      rintro e wz2 ⟨v1, rfl, hn, hb⟩
      replace HNr := Lib.hid (HNr.out.on hb)
      replace HBr := Lib.hid (HBr.out.trans (hb.mono HBr.out.size))
      have HK := Lib.hid hn
      clear cz2 hb hn
      have cz3 := lset_c _ L wz2 (by have := HLEN.out; omega) HNr.out
      go_wp2_with fail
      (with_reducible refine cz3.mono ?_)
      rintro e wz3 ⟨v2, rfl, hn, hb⟩
      replace HNr := Lib.hid (HNr.out.on hb)
      replace HBr := Lib.hid (HBr.out.trans (hb.mono HBr.out.size))
      replace HK := Lib.hid (HK.out.on hb)
      have HJ := Lib.hid hn
      clear cz3 hb hn
      have cz4 := rints_c v1 v2 (setI L) wz3 HK.out HJ.out (Nat.le_trans (setI_len L) (by have := HLEN.out; omega))
      go_wp2_with fail
      (with_reducible refine cz4.mono ?_)
      rintro e wz4 ⟨rfl, hb⟩
      replace HNr := Lib.hid (HNr.out.on hb)
      replace HBr := Lib.hid (HBr.out.trans (hb.mono HBr.out.size))
      replace HK := Lib.hid (HK.out.on hb)
      replace HJ := Lib.hid (HJ.out.on hb)
      clear cz4 hb
      clear HK HJ
      have cz5 := idsound_c _ L wz4 (by have := HLEN.out; omega) HNr.out
      rw [HR.out] at cz5
      go_wp2_with fail
      (with_reducible refine cz5.mono ?_)
      rintro e wz5 ⟨rfl, hb⟩
      replace HNr := Lib.hid (HNr.out.on hb)
      replace HBr := Lib.hid (HBr.out.trans (hb.mono HBr.out.size))
      clear cz5 hb
      have cz6 := idhas_c _ L n wz5 (by have := HLEN.out; omega) HNr.out
      rw [HQ.out] at cz6
      go_wp2_with fail
      (with_reducible refine cz6.mono ?_)
      rintro e wz6 ⟨rfl, rfl⟩
      clear cz6
      have cz7 := lhas_c _ L n wz6 (by have := HLEN.out; omega) HNr.out
      rw [HQ.out] at cz7
      go_wp2_with fail
      (with_reducible refine cz7.mono ?_)
      rintro e wz7 ⟨rfl, hb⟩
      replace HNr := Lib.hid (HNr.out.on hb)
      replace HBr := Lib.hid (HBr.out.trans (hb.mono HBr.out.size))
      clear cz7 hb
      go_wp2
      go_ret
      exact ⟨rfl, HBr.out⟩
theorem imakes_c (v : Value) (L : List Int) (n : Int) (w : World) (hv : Nm w v L) : Calls Try.prog 3 #[v, .int .i64 n] w fun e w' => e = .returned (.bool true) ∧ Below w.heap.size w w' := by
  by_cases h : 300 < L.length
  · exact imakes_long v L n w h hv
  · exact imakes_short v L n w (by omega) hv
end Go.Proofs

namespace Go.Proofs.Ytbnfagbeebndeaa
open Go.ChangeShapes Go.WideShapes Go.ChangeAt Go.RowKit Go.Joins Go.Proofs.Hd

theorem laidOut_imk : laidOutB Try.prog = true := by kernel_rfl
set_option maxRecDepth 100000 in
theorem imk_lifted (os : Os) (started : os.Started) (H : Type) (enc : TypeId × Value → H) :
    ReturnsInHanded {} Try.checked os 3 .any (Rows.idsMakesSpec.pre6 enc Try.prog Try.f3 Rows.idsMakesRow.domain false) (Rows.idsMakesSpec.post enc Try.prog Try.f3 false true false false) := by
  refine returnsInHanded_of_change (C := Try.checked) own started (by kernel_rfl) Try.func3
    (ChangeSpec.witness6 (enc := enc) (C := Try.checked) false ⟨#[], #[.slice none 0 0, .int .i64 0], []⟩ 8 (by kernel_rfl) (by kernel_rfl) (by kernel_rfl) (by kernel_rfl)) ?_
  intro W base args ds gs before hval0 hW hcnd _
  have hval : ∀ (j : Nat) t v, Try.f3.params[j]? = some t → args[j]? = some v → Value.okWide Try.prog W .any base t v := hval0
  have hW' := hW
  obtain ⟨p, q, hA0, hV, rfl, hfz, hnd⟩ := hW
  have hA : DataW.TrodAll enc Try.prog W 0 (fun _ => true) true Try.f3.params.toList args.toList ds p := hA0
  rw [Try.params3] at hA hval
  obtain ⟨v0, vs0, d0, ds0, p0, q0, hargs, rfl, rfl, h0, r0⟩ := trodAll_cons hA
  obtain ⟨v1, vs1, d1, ds1, p1, q1, rfl, rfl, rfl, h1, r1⟩ := trodAll_cons r0
  obtain ⟨rfl, rfl, rfl⟩ := trodAll_nil r1
  obtain rfl : args = #[v0, v1] := by cases args; simp_all
  obtain ⟨rfl, rfl⟩ := trodVars_none hV
  have k0 := h0
  have lt0 : ∀ x ∈ p0, x.block < W.heap.size := by obtain ⟨m, hm⟩ := k0; exact DataW.trod_lt m _ _ _ hm
  obtain ⟨xA, xc, xL, rfl, px, dx⟩ := open_nums (hval 0 22 v0 rfl rfl) h0
  obtain ⟨y, rfl, rfl, rfl, wf1⟩ := open_int Try.underlying3 (hval 1 3 v1 rfl rfl) h1
  clear hA0 hval0
  obtain ⟨by1, by2⟩ := bounds_i64 wf1
  refine (imakes_c _ xL y W px).mono fun e W' ⟨he, hg⟩ => ?_
  subst he
  exact ⟨_, rfl, _, _, _, [], _, [], hW', trodAll_mk1 (shut_bool Try.underlying4 _), (trodAll_cons_mk (Below.trod laidOut_imk (by kernel_rfl) (of_decide_eq_true (by kernel_rfl)) k0 hg lt0) (trodAll_cons_mk (shut_int Try.underlying3 wf1) trodAll_mk0)), rfl, hg.frame _, (fun h => by cases h)⟩

theorem imk_holds : Rows.IdsMakesSaid :=
  OpenClaim.holds_of_wide 3 Try.f3 rfl rfl rfl rfl rfl rfl rfl ⟨rfl, rfl, rfl, rfl, rfl⟩ rfl rfl rfl rfl rfl (by kernel_rfl) Try.func3 (by kernel_rfl)
    (of_decide_eq_true (by kernel_rfl)) (by unfold Func.isWrapper; first | (rw [if_pos (by decide +kernel)]; kernel_rfl) | (rw [if_neg (by decide +kernel)]; exact ⟨rfl, rfl⟩))
    (fun os started H enc _ => imk_lifted os started H enc)
#print axioms imk_holds
end Go.Proofs.Ytbnfagbeebndeaa
