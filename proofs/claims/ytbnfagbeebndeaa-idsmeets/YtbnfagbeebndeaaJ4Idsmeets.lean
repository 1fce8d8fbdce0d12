/-
  The walk of customhouselaw10.IdsParts: it returns true. Conditions as each theorem lists them.
  The walk of customhouselaw10.IdsMakes: it returns true. Conditions as each theorem lists them.
  Plain mathematics on bytes: numbers as bytes, the highest first, and back; the checksum FNV-1a; fields and what is read of them. No program in sight. No conditions.
  What a call changes at most. No program in sight. No conditions.
  Plain facts on worlds: bytes in memory, rows of bytes that grow, what a call changes at most. No program in sight. No conditions.
-/
import Derived.Test.YtbnfagbeebndeaaJ3
import Derived.Lib.Hide
import Derived.Laws.IdiomStrings
import Derived.Laws.BytesArg
namespace Go.Proofs.Hd
theorem meetI_len (A B : List Int) : (meetI A B).length ≤ A.length := Nat.le_trans (List.length_filter_le _ _) (setI_len A)
theorem diffI_len (A B : List Int) : (diffI A B).length ≤ A.length := Nat.le_trans (List.length_filter_le _ _) (setI_len A)
theorem joinI_len (A B : List Int) : (joinI A B).length ≤ A.length + B.length := by
  have := setI_len (A ++ B)
  rw [List.length_append] at this
  exact this
end Go.Proofs.Hd
namespace Go.Proofs
open Go.RowKit Go.Proofs.Hd Go.Lib Go.Sort
attribute [local go_sem] uv_nonneg
set_option maxHeartbeats 4000000 in
set_option maxRecDepth 100000 in
theorem iparts_c (va vb : Value) (A B : List Int) (w : World) (hl : A.length ≤ 17592186044416) (hm : B.length ≤ 17592186044416) (ha : Nm w va A) (hb : Nm w vb B) : Calls Try.prog 5 #[va, vb] w fun e w' => e = .returned (.bool true) ∧ Below w.heap.size w w' := by
  have HA := Lib.hid ha
  have HB := Lib.hid hb
  have HLN : Hid (A.length ≤ 17592186044416 ∧ B.length ≤ 17592186044416) := ⟨hl, hm⟩
  have ML : Hid ((meetI A B).length ≤ 17592186044416) := Nat.le_trans (meetI_len A B) hl
  have DL : Hid ((diffI A B).length ≤ 17592186044416) := Nat.le_trans (diffI_len A B) hl
  clear ha hb hl hm
  have HBW := Lib.hid (Below.refl w.heap.size w)
  go_enter Try.func5, Try.ntmps5
  have cz1 := idmeet_c va vb A B w HLN.out.1 HLN.out.2 HA.out HB.out
  go_wp2_with fail
  (with_reducible refine cz1.mono ?_)
  rintro e wz1 ⟨v1, rfl, hn, hb⟩
  replace HA := Lib.hid (HA.out.on hb)
  replace HB := Lib.hid (HB.out.on hb)
  replace HBW := Lib.hid (HBW.out.trans (hb.mono HBW.out.size))
  have HM := Lib.hid hn
  clear cz1 hb hn
  have cz2 := idless_c va vb A B wz1 HLN.out.1 HLN.out.2 HA.out HB.out
  go_wp2_with fail
  (with_reducible refine cz2.mono ?_)
  rintro e wz2 ⟨v2, rfl, hn, hb⟩
  replace HA := Lib.hid (HA.out.on hb)
  replace HB := Lib.hid (HB.out.on hb)
  replace HBW := Lib.hid (HBW.out.trans (hb.mono HBW.out.size))
  replace HM := Lib.hid (HM.out.on hb)
  have HD := Lib.hid hn
  clear cz2 hb hn
  have cz3 := awake10_c wz2
  go_wp2_with fail
  (with_reducible refine cz3.mono ?_)
  rintro e wz3 ⟨rfl, hb⟩
  replace HA := Lib.hid (HA.out.on hb)
  replace HB := Lib.hid (HB.out.on hb)
  replace HBW := Lib.hid (HBW.out.trans (hb.mono HBW.out.size))
  replace HM := Lib.hid (HM.out.on hb)
  replace HD := Lib.hid (HD.out.on hb)
  clear cz3 hb
  have cz4 := idjoin_c v1 v2 (meetI A B) (diffI A B) wz3 ML.out DL.out HM.out HD.out
  rw [join_parts] at cz4
  go_wp2_with fail
  (with_reducible refine cz4.mono ?_)
  rintro e wz4 ⟨v3, rfl, hn, hb⟩
  replace HA := Lib.hid (HA.out.on hb)
  replace HB := Lib.hid (HB.out.on hb)
  replace HBW := Lib.hid (HBW.out.trans (hb.mono HBW.out.size))
  replace HM := Lib.hid (HM.out.on hb)
  replace HD := Lib.hid (HD.out.on hb)
  have HJ := Lib.hid hn
  clear cz4 hb hn
  have cz5 := idmake_c va A wz4 (by have := HLN.out; omega) HA.out
  go_wp2_with fail
  (with_reducible refine cz5.mono ?_)
  rintro e wz5 ⟨v4, rfl, hn, hb⟩
  replace HA := Lib.hid (HA.out.on hb)
  replace HB := Lib.hid (HB.out.on hb)
  replace HBW := Lib.hid (HBW.out.trans (hb.mono HBW.out.size))
  replace HM := Lib.hid (HM.out.on hb)
  replace HD := Lib.hid (HD.out.on hb)
  replace HJ := Lib.hid (HJ.out.on hb)
  have HK := Lib.hid hn
  clear cz5 hb hn
  have cz6 := rints_c v3 v4 (setI A) wz5 HJ.out HK.out (Nat.le_trans (setI_len A) (by have := HLN.out; omega))
  go_wp2_with fail
  (with_reducible refine cz6.mono ?_)
  rintro e wz6 ⟨rfl, hb⟩
  replace HA := Lib.hid (HA.out.on hb)
  replace HB := Lib.hid (HB.out.on hb)
  replace HBW := Lib.hid (HBW.out.trans (hb.mono HBW.out.size))
  replace HM := Lib.hid (HM.out.on hb)
  replace HD := Lib.hid (HD.out.on hb)
  replace HJ := Lib.hid (HJ.out.on hb)
  replace HK := Lib.hid (HK.out.on hb)
  clear cz6 hb
  clear HJ HK
  have cz7 := idmeet_c v1 v2 (meetI A B) (diffI A B) wz6 ML.out DL.out HM.out HD.out
  rw [meet_parts] at cz7
  go_wp2_with fail
  (with_reducible refine cz7.mono ?_)
  rintro e wz7 ⟨v5, rfl, hn, hb⟩
  replace HA := Lib.hid (HA.out.on hb)
  replace HB := Lib.hid (HB.out.on hb)
  replace HBW := Lib.hid (HBW.out.trans (hb.mono HBW.out.size))
  replace HM := Lib.hid (HM.out.on hb)
  replace HD := Lib.hid (HD.out.on hb)
  obtain ⟨A5, k5, rfl⟩ := hn.form (n := 0) rfl
  clear hn
  clear cz7 hb
  clear HD
  have cz8 := idmeet_c vb va B A wz7 HLN.out.2 HLN.out.1 HB.out HA.out
  rw [← meet_swap A B] at cz8
  go_wp2_with fail
  (with_reducible refine cz8.mono ?_)
  rintro e wz8 ⟨v6, rfl, hn, hb⟩
  replace HA := Lib.hid (HA.out.on hb)
  replace HB := Lib.hid (HB.out.on hb)
  replace HBW := Lib.hid (HBW.out.trans (hb.mono HBW.out.size))
  replace HM := Lib.hid (HM.out.on hb)
  have HQ := Lib.hid hn
  clear cz8 hb hn
  have cz9 := rints_c v1 v6 (meetI A B) wz8 HM.out HQ.out (by have := ML.out; omega)
  go_wp2_with fail
  (with_reducible refine cz9.mono ?_)
  rintro e wz9 ⟨rfl, hb⟩
  replace HA := Lib.hid (HA.out.on hb)
  replace HB := Lib.hid (HB.out.on hb)
  replace HBW := Lib.hid (HBW.out.trans (hb.mono HBW.out.size))
  replace HM := Lib.hid (HM.out.on hb)
  replace HQ := Lib.hid (HQ.out.on hb)
  clear cz9 hb
  clear HM HQ
  have cz10 := idjoin_c va vb A B wz9 HLN.out.1 HLN.out.2 HA.out HB.out
  go_wp2_with fail
  (with_reducible refine cz10.mono ?_)
  rintro e wz10 ⟨v7, rfl, hn, hb⟩
  replace HA := Lib.hid (HA.out.on hb)
  replace HB := Lib.hid (HB.out.on hb)
  replace HBW := Lib.hid (HBW.out.trans (hb.mono HBW.out.size))
  have HJ := Lib.hid hn
  clear cz10 hb hn
  have cz11 := idjoin_c vb va B A wz10 HLN.out.2 HLN.out.1 HB.out HA.out
  rw [← join_swap A B] at cz11
  go_wp2_with fail
  (with_reducible refine cz11.mono ?_)
  rintro e wz11 ⟨v8, rfl, hn, hb⟩
  replace HA := Lib.hid (HA.out.on hb)
  replace HB := Lib.hid (HB.out.on hb)
  replace HBW := Lib.hid (HBW.out.trans (hb.mono HBW.out.size))
  replace HJ := Lib.hid (HJ.out.on hb)
  have HK := Lib.hid hn
  clear cz11 hb hn
  have cz12 := rints_c v7 v8 (joinI A B) wz11 HJ.out HK.out (Nat.le_trans (joinI_len A B) (by have := HLN.out; omega))
  go_wp2_with fail
  (with_reducible refine cz12.mono ?_)
  rintro e wz12 ⟨rfl, hb⟩
  replace HA := Lib.hid (HA.out.on hb)
  replace HB := Lib.hid (HB.out.on hb)
  replace HBW := Lib.hid (HBW.out.trans (hb.mono HBW.out.size))
  replace HJ := Lib.hid (HJ.out.on hb)
  replace HK := Lib.hid (HK.out.on hb)
  clear cz12 hb
  clear HJ HK
  have cz13 := idjoin_c va vb A B wz12 HLN.out.1 HLN.out.2 HA.out HB.out
  go_wp2_with fail
  (with_reducible refine cz13.mono ?_)
  rintro e wz13 ⟨v9, rfl, hn, hb⟩
  replace HA := Lib.hid (HA.out.on hb)
  replace HB := Lib.hid (HB.out.on hb)
  replace HBW := Lib.hid (HBW.out.trans (hb.mono HBW.out.size))
  have HJ := Lib.hid hn
  clear cz13 hb hn
  have cz14 := idsound_c v9 (joinI A B) wz13 (Nat.le_trans (joinI_len A B) (by have := HLN.out; omega)) HJ.out
  rw [decide_eq_true (inc_joinI A B)] at cz14
  go_wp2_with fail
  (with_reducible refine cz14.mono ?_)
  rintro e wz14 ⟨rfl, hb⟩
  replace HA := Lib.hid (HA.out.on hb)
  replace HB := Lib.hid (HB.out.on hb)
  replace HBW := Lib.hid (HBW.out.trans (hb.mono HBW.out.size))
  replace HJ := Lib.hid (HJ.out.on hb)
  clear cz14 hb
  clear HJ
  have hneg := lexI_neg (setI A) (setI B)
  obtain ⟨r, hr⟩ : ∃ r, lexI (setI A) (setI B) = r := ⟨_, rfl⟩
  have hc := lexI_cases (setI A) (setI B)
  rw [hr] at hneg hc
  have HR := Lib.hid hr
  have HN := Lib.hid hneg
  clear hr hneg
  rcases hc with rfl | rfl | rfl
  · have cz15 := idcomp_c va vb A B wz14 HLN.out.1 HLN.out.2 HA.out HB.out
    rw [HR.out] at cz15
    go_wp2_with fail
    (with_reducible refine cz15.mono ?_)
    rintro e wz15 ⟨rfl, hb⟩
    replace HA := Lib.hid (HA.out.on hb)
    replace HB := Lib.hid (HB.out.on hb)
    replace HBW := Lib.hid (HBW.out.trans (hb.mono HBW.out.size))
    clear cz15 hb
    have cz16 := idcomp_c vb va B A wz15 HLN.out.2 HLN.out.1 HB.out HA.out
    rw [HN.out] at cz16
    go_wp2_with fail
    (with_reducible refine cz16.mono ?_)
    rintro e wz16 ⟨rfl, hb⟩
    replace HA := Lib.hid (HA.out.on hb)
    replace HB := Lib.hid (HB.out.on hb)
    replace HBW := Lib.hid (HBW.out.trans (hb.mono HBW.out.size))
    clear cz16 hb
    go_wp2
    go_ret
    exact ⟨rfl, HBW.out⟩
  · have cz25 := idcomp_c va vb A B wz14 HLN.out.1 HLN.out.2 HA.out HB.out
    rw [HR.out] at cz25
    go_wp2_with fail
    (with_reducible refine cz25.mono ?_)
    rintro e wz25 ⟨rfl, hb⟩
    replace HA := Lib.hid (HA.out.on hb)
    replace HB := Lib.hid (HB.out.on hb)
    replace HBW := Lib.hid (HBW.out.trans (hb.mono HBW.out.size))
    clear cz25 hb
    have cz26 := idcomp_c vb va B A wz25 HLN.out.2 HLN.out.1 HB.out HA.out
    rw [HN.out] at cz26
    go_wp2_with fail
    (with_reducible refine cz26.mono ?_)
    rintro e wz26 ⟨rfl, hb⟩
    replace HA := Lib.hid (HA.out.on hb)
    replace HB := Lib.hid (HB.out.on hb)
    replace HBW := Lib.hid (HBW.out.trans (hb.mono HBW.out.size))
    clear cz26 hb
    go_wp2
    go_ret
    exact ⟨rfl, HBW.out⟩
  · have cz35 := idcomp_c va vb A B wz14 HLN.out.1 HLN.out.2 HA.out HB.out
    rw [HR.out] at cz35
    go_wp2_with fail
    (with_reducible refine cz35.mono ?_)
    rintro e wz35 ⟨rfl, hb⟩
    replace HA := Lib.hid (HA.out.on hb)
    replace HB := Lib.hid (HB.out.on hb)
    replace HBW := Lib.hid (HBW.out.trans (hb.mono HBW.out.size))
    clear cz35 hb
    have cz36 := idcomp_c vb va B A wz35 HLN.out.2 HLN.out.1 HB.out HA.out
    rw [HN.out] at cz36
    go_wp2_with fail
    (with_reducible refine cz36.mono ?_)
    rintro e wz36 ⟨rfl, hb⟩
    replace HA := Lib.hid (HA.out.on hb)
    replace HB := Lib.hid (HB.out.on hb)
    replace HBW := Lib.hid (HBW.out.trans (hb.mono HBW.out.size))
    clear cz36 hb
    go_wp2
    go_ret
    exact ⟨rfl, HBW.out⟩
end Go.Proofs

namespace Go.Proofs.Hd
theorem Nm.addr {w : World} {A : Option Addr} {n c : Nat} {L : List Int} (h : Nm w (.slice A n c) L) (h0 : L ≠ []) : ∃ b o, A = some ⟨b, o, none⟩ ∧ ∀ (k : Nat) (x : Int), L[k]? = some x → w.cell? ⟨b, o + k, none⟩ = some (.int .i64 x) := by
  obtain ⟨A', c', e, _, _, h3⟩ := h
  injection e with e1 e2 e3
  subst e1
  rcases h3 with h | ⟨b, o, e, _, hc⟩
  · exact absurd h h0
  · exact ⟨b, o, e, hc⟩
end Go.Proofs.Hd
namespace Go.Proofs
open Go.RowKit Go.Proofs.Hd Go.Lib Go.Sort
attribute [local go_sem] uv_nonneg
set_option maxHeartbeats 4000000 in
set_option maxRecDepth 100000 in
theorem imakes_long (v : Value) (L : List Int) (n : Int) (w : World) (hl : 300 < L.length) (hv : Nm w v L) : Calls Try.prog 3 #[v, .int .i64 n] w fun e w' => e = .returned (.bool true) ∧ Below w.heap.size w w' := by
  obtain ⟨A, c, rfl, hlc, hcm, h3⟩ := hv
  have hlz : (300 : Int) < (L.length : Int) := by omega
  have hnc : 300 ≤ c := by omega
  have hncz : (300 : Int) ≤ (c : Int) := by omega
  have hN : Nm w (.slice A 300 c) (L.take 300) := Nm.take ⟨A, c, rfl, hlc, hcm, h3⟩ (by omega)
  have hlen : (L.take 300).length = 300 := by rw [List.length_take]; omega
  generalize hMM : L.take 300 = M at hN hlen
  clear hMM h3
  have HN := Lib.hid hN
  have HLEN : Hid (M.length = 300) := hlen
  clear hN hlen
  go_enter Try.func3, Try.ntmps3
  go_wp2
  go_loopg [5, 6] 300 (fun gk s5 s6 wr => ∃ k : Nat, 1 ≤ k ∧ gk + k = 300 + 1 ∧ s5 = .bool (decide (Inc (M.take k))) ∧ s6 = .int .i64 k ∧ Hid (Below w.heap.size w wr))
  case atStart => exact ⟨1, Nat.le_refl _, rfl, by rw [decide_eq_true (inc_one (Nat.le_refl _))], rfl, Below.refl _ _⟩
  case round =>
    obtain ⟨k, hk, hgk, rfl, rfl, HB⟩ := hrel
    by_cases hlt : k < 300
    · have hltz : (k : Int) < (300 : Int) := by omega
      obtain ⟨j, e⟩ : ∃ j, j + 1 = k := ⟨k - 1, by omega⟩
      have hjz : (j : Int) < (300 : Int) := by omega
      have q1 := pred_wrap e (by omega)
      have q2 : (k : Int) - 1 = (j : Int) := by omega
      obtain ⟨y, hy⟩ : ∃ y, M[j]? = some y := ⟨_, List.getElem?_eq_getElem (by have := HLEN.out; omega)⟩
      obtain ⟨z, hz⟩ : ∃ z, M[k]? = some z := ⟨_, List.getElem?_eq_getElem (by have := HLEN.out; omega)⟩
      obtain ⟨b, o, rfl, hcell⟩ := HN.out.addr (by intro e2; subst e2; simp at hy)
      have d1 := on_some HB.out (hcell j y hy)
      have d2 := on_some HB.out (hcell k z hz)
      have st := Lib.hid (inc_step e hy hz)
      have HJK := Lib.hid e
      clear hy hz e hcell
      cases hbb : decide (Inc (M.take k)) with
      | true =>
        have HI := Lib.hid (of_decide_eq_true hbb)
        clear hbb
        by_cases hyz : y < z
        · have hd : decide (y < z) = true := decide_eq_true hyz
          have hnew : Hid (decide (Inc (M.take (k + 1))) = true) := decide_eq_true (st.out.2 ⟨HI.out, hyz⟩)
          have HYZ := Lib.hid hyz
          clear hyz
          go_wp2_with fail
          go_quiet (fail)
          have HB2 := Lib.hid (bdn HB.out nq)
          clear d1 d2 HB
          generalize wr.drewN nq = w2 at HB2 ⊢
          go_wp2
          go_roundg (300 - k)
          case measure => omega
          case rel => exact ⟨k + 1, by omega, by omega, by rw [hnew.out], by go_num, HB2⟩
        · have hd : decide (y < z) = false := decide_eq_false hyz
          have hnew : Hid (decide (Inc (M.take (k + 1))) = false) := decide_eq_false (fun h => hyz (st.out.1 h).2)
          have HYZ := Lib.hid hyz
          clear hyz
          go_wp2_with fail
          go_quiet (fail)
          have HB2 := Lib.hid (bdn HB.out nq)
          clear d1 d2 HB
          generalize wr.drewN nq = w2 at HB2 ⊢
          go_wp2
          go_roundg (300 - k)
          case measure => omega
          case rel => exact ⟨k + 1, by omega, by omega, by rw [hnew.out], by go_num, HB2⟩
      | false =>
        have hnew : Hid (decide (Inc (M.take (k + 1))) = false) := decide_eq_false (fun h => absurd (st.out.1 h).1 (of_decide_eq_false hbb))
        clear hbb
        go_wp2_with fail
        go_quiet (fail)
        have HB2 := Lib.hid (bdn HB.out nq)
        clear d1 d2 HB
        generalize wr.drewN nq = w2 at HB2 ⊢
        go_wp2
        go_roundg (300 - k)
        case measure => omega
        case rel => exact ⟨k + 1, by omega, by omega, by rw [hnew.out], by go_num, HB2⟩
    · have hltz : ¬ (k : Int) < (300 : Int) := by omega
      have hin : decide (Inc (M.take k)) = decide (Inc M) := by rw [List.take_of_length_le (by have := HLEN.out; omega)]
      rw [hin]
      obtain ⟨r, hr⟩ : ∃ r, decide (Inc M) = r := ⟨_, rfl⟩
      obtain ⟨q, hq⟩ : ∃ q, decide (n ∈ M) = q := ⟨_, rfl⟩
      rw [hr]
      have HR := Lib.hid hr
      have HQ := Lib.hid hq
      have HNr := Lib.hid (HN.out.on HB.out)
      have HBr := HB
      clear hr hq hin HN HB
      have cz1 := awake10_c wr
      go_wp2_with fail
      (with_reducible refine cz1.mono ?_)
      rintro e wz1 ⟨rfl, hb⟩
      replace HNr := Lib.hid (HNr.out.on hb)
      replace HBr := Lib.hid (HBr.out.trans (hb.mono HBr.out.size))
      clear cz1 hb
      have cz2 := idmake_c _ M wz1 (by have := HLEN.out; omega) HNr.out
      go_wp2_with fail
      (with_reducible refine cz2.mono ?_)
      rintro e wz2 ⟨v1, rfl, hn, hb⟩
      replace HNr := Lib.hid (HNr.out.on hb)
      replace HBr := Lib.hid (HBr.out.trans (hb.mono HBr.out.size))
      have HK := Lib.hid hn
      clear cz2 hb hn
      have cz3 := lset_c _ M wz2 (by have := HLEN.out; omega) HNr.out
      go_wp2_with fail
      (with_reducible refine cz3.mono ?_)
      rintro e wz3 ⟨v2, rfl, hn, hb⟩
      replace HNr := Lib.hid (HNr.out.on hb)
      replace HBr := Lib.hid (HBr.out.trans (hb.mono HBr.out.size))
      replace HK := Lib.hid (HK.out.on hb)
      have HJ := Lib.hid hn
      clear cz3 hb hn
      have cz4 := rints_c v1 v2 (setI M) wz3 HK.out HJ.out (Nat.le_trans (setI_len M) (by have := HLEN.out; omega))
      go_wp2_with fail
      (with_reducible refine cz4.mono ?_)
      rintro e wz4 ⟨rfl, hb⟩
      replace HNr := Lib.hid (HNr.out.on hb)
      replace HBr := Lib.hid (HBr.out.trans (hb.mono HBr.out.size))
      replace HK := Lib.hid (HK.out.on hb)
      replace HJ := Lib.hid (HJ.out.on hb)
      clear cz4 hb
      clear HK HJ
      have cz5 := idsound_c _ M wz4 (by have := HLEN.out; omega) HNr.out
      rw [HR.out] at cz5
      go_wp2_with fail
      (with_reducible refine cz5.mono ?_)
      rintro e wz5 ⟨rfl, hb⟩
      replace HNr := Lib.hid (HNr.out.on hb)
      replace HBr := Lib.hid (HBr.out.trans (hb.mono HBr.out.size))
      clear cz5 hb
      have cz6 := idhas_c _ M n wz5 (by have := HLEN.out; omega) HNr.out
      rw [HQ.out] at cz6
      go_wp2_with fail
      (with_reducible refine cz6.mono ?_)
      rintro e wz6 ⟨rfl, rfl⟩
      clear cz6
      have cz7 := lhas_c _ M n wz6 (by have := HLEN.out; omega) HNr.out
      rw [HQ.out] at cz7
      go_wp2_with fail
      (with_reducible refine cz7.mono ?_)
      rintro e wz7 ⟨rfl, hb⟩
      replace HNr := Lib.hid (HNr.out.on hb)
      replace HBr := Lib.hid (HBr.out.trans (hb.mono HBr.out.size))
      clear cz7 hb
      go_wp2
      go_ret
      exact ⟨rfl, HBr.out⟩
set_option maxHeartbeats 4000000 in
set_option maxRecDepth 100000 in
theorem imakes_short (v : Value) (L : List Int) (n : Int) (w : World) (hl : L.length ≤ 300) (hv : Nm w v L) : Calls Try.prog 3 #[v, .int .i64 n] w fun e w' => e = .returned (.bool true) ∧ Below w.heap.size w w' := by
  obtain ⟨A, c, rfl, hlc, hcm, h3⟩ := hv
  have hlz : ¬ (300 : Int) < (L.length : Int) := by omega
  have hlz2 : (L.length : Int) ≤ 300 := by omega
  have hN : Nm w (.slice A L.length c) L := ⟨A, c, rfl, hlc, hcm, h3⟩
  have hlen : L.length = L.length := rfl
  clear h3
  have HN := Lib.hid hN
  have HLEN : Hid (L.length = L.length) := hlen
  clear hN hlen
  go_enter Try.func3, Try.ntmps3
  go_wp2
  go_loopg [5, 6] L.length (fun gk s5 s6 wr => ∃ k : Nat, 1 ≤ k ∧ gk + k = L.length + 1 ∧ s5 = .bool (decide (Inc (L.take k))) ∧ s6 = .int .i64 k ∧ Hid (Below w.heap.size w wr))
  case atStart => exact ⟨1, Nat.le_refl _, rfl, by rw [decide_eq_true (inc_one (Nat.le_refl _))], rfl, Below.refl _ _⟩
  case round =>
    obtain ⟨k, hk, hgk, rfl, rfl, HB⟩ := hrel
    by_cases hlt : k < L.length
    · have hltz : (k : Int) < (L.length : Int) := by omega
      obtain ⟨j, e⟩ : ∃ j, j + 1 = k := ⟨k - 1, by omega⟩
      have hjz : (j : Int) < (L.length : Int) := by omega
      have q1 := pred_wrap e (by omega)
      have q2 : (k : Int) - 1 = (j : Int) := by omega
      obtain ⟨y, hy⟩ : ∃ y, L[j]? = some y := ⟨_, List.getElem?_eq_getElem (by have := HLEN.out; omega)⟩
      obtain ⟨z, hz⟩ : ∃ z, L[k]? = some z := ⟨_, List.getElem?_eq_getElem (by have := HLEN.out; omega)⟩
      obtain ⟨b, o, rfl, hcell⟩ := HN.out.addr (by intro e2; subst e2; simp at hy)
      have d1 := on_some HB.out (hcell j y hy)
      have d2 := on_some HB.out (hcell k z hz)
      have st := Lib.hid (inc_step e hy hz)
      have HJK := Lib.hid e
      clear hy hz e hcell
      cases hbb : decide (Inc (L.take k)) with
      | true =>
        have HI := Lib.hid (of_decide_eq_true hbb)
        clear hbb
        by_cases hyz : y < z
        · have hd : decide (y < z) = true := decide_eq_true hyz
          have hnew : Hid (decide (Inc (L.take (k + 1))) = true) := decide_eq_true (st.out.2 ⟨HI.out, hyz⟩)
          have HYZ := Lib.hid hyz
          clear hyz
          go_wp2_with fail
          go_quiet (fail)
          have HB2 := Lib.hid (bdn HB.out nq)
          clear d1 d2 HB
          generalize wr.drewN nq = w2 at HB2 ⊢
          go_wp2
          go_roundg (L.length - k)
          case measure => omega
          case rel => exact ⟨k + 1, by omega, by omega, by rw [hnew.out], by go_num, HB2⟩
        · have hd : decide (y < z) = false := decide_eq_false hyz
          have hnew : Hid (decide (Inc (L.take (k + 1))) = false) := decide_eq_false (fun h => hyz (st.out.1 h).2)
          have HYZ := Lib.hid hyz
          clear hyz
          go_wp2_with fail
          go_quiet (fail)
          have HB2 := Lib.hid (bdn HB.out nq)
          clear d1 d2 HB
          generalize wr.drewN nq = w2 at HB2 ⊢
          go_wp2
          go_roundg (L.length - k)
          case measure => omega
          case rel => exact ⟨k + 1, by omega, by omega, by rw [hnew.out], by go_num, HB2⟩
      | false =>
        have hnew : Hid (decide (Inc (L.take (k + 1))) = false) := decide_eq_false (fun h => absurd (st.out.1 h).1 (of_decide_eq_false hbb))
        clear hbb
        go_wp2_with fail
        go_quiet (fail)
        have HB2 := Lib.hid (bdn HB.out nq)
        clear d1 d2 HB
        generalize wr.drewN nq = w2 at HB2 ⊢
        go_wp2
        go_roundg (L.length - k)
        case measure => omega
        case rel => exact ⟨k + 1, by omega, by omega, by rw [hnew.out], by go_num, HB2⟩
    · have hltz : ¬ (k : Int) < (L.length : Int) := by omega
      have hin : decide (Inc (L.take k)) = decide (Inc L) := by rw [List.take_of_length_le (by have := HLEN.out; omega)]
      rw [hin]
      obtain ⟨r, hr⟩ : ∃ r, decide (Inc L) = r := ⟨_, rfl⟩
      obtain ⟨q, hq⟩ : ∃ q, decide (n ∈ L) = q := ⟨_, rfl⟩
      rw [hr]
      have HR := Lib.hid hr
      have HQ := Lib.hid hq
      have HNr := Lib.hid (HN.out.on HB.out)
      have HBr := HB
      clear hr hq hin HN HB
      have cz1 := awake10_c wr
      go_wp2_with fail
      (with_reducible refine cz1.mono ?_)
      rintro e wz1 ⟨rfl, hb⟩
      replace HNr := Lib.hid (HNr.out.on hb)
      replace HBr := Lib.hid (HBr.out.trans (hb.mono HBr.out.size))
      clear cz1 hb
      have cz2 := idmake_c _ L wz1 (by have := HLEN.out; omega) HNr.out
      go_wp2_with fail
      (with_reducible refine cz2.mono ?_)
      rintro e wz2 ⟨v1, rfl, hn, hb⟩
      replace HNr := Lib.hid (HNr.out.on hb)
      replace HBr := Lib.hid (HBr.out.trans (hb.mono HBr.out.size))
      have HK := Lib.hid hn
      clear cz2 hb hn
      have cz3 := lset_c _ L wz2 (by have := HLEN.out; omega) HNr.out
      go_wp2_with fail
      (with_reducible refine cz3.mono ?_)
      rintro e wz3 ⟨v2, rfl, hn, hb⟩
      replace HNr := Lib.hid (HNr.out.on hb)
      replace HBr := Lib.hid (HBr.out.trans (hb.mono HBr.out.size))
      replace HK := Lib.hid (HK.out.on hb)
      have HJ := Lib.hid hn
      clear cz3 hb hn
      have cz4 := rints_c v1 v2 (setI L) wz3 HK.out HJ.out (Nat.le_trans (setI_len L) (by have := HLEN.out; omega))
      go_wp2_with fail
      (with_reducible refine cz4.mono ?_)
      rintro e wz4 ⟨rfl, hb⟩
      replace HNr := Lib.hid (HNr.out.on hb)
      replace HBr := Lib.hid (HBr.out.trans (hb.mono HBr.out.size))
      replace HK := Lib.hid (HK.out.on hb)
      replace HJ := Lib.hid (HJ.out.on hb)
      clear cz4 hb
      clear HK HJ
      have cz5 := idsound_c _ L wz4 (by have := HLEN.out; omega) HNr.out
      rw [HR.out] at cz5
      go_wp2_with fail
      (with_reducible refine cz5.mono ?_)
      rintro e wz5 ⟨rfl, hb⟩
      replace HNr := Lib.hid (HNr.out.on hb)
      replace HBr := Lib.hid (HBr.out.trans (hb.mono HBr.out.size))
      clear cz5 hb
      have cz6 := idhas_c _ L n wz5 (by have := HLEN.out; omega) HNr.out
      rw [HQ.out] at cz6
      go_wp2_with fail
      (with_reducible refine cz6.mono ?_)
      rintro e wz6 ⟨rfl, rfl⟩
      clear cz6
      have cz7 := lhas_c _ L n wz6 (by have := HLEN.out; omega) HNr.out
      rw [HQ.out] at cz7
      go_wp2_with fail
      (with_reducible refine cz7.mono ?_)
      rintro e wz7 ⟨rfl, hb⟩
      replace HNr := Lib.hid (HNr.out.on hb)
      replace HBr := Lib.hid (HBr.out.trans (hb.mono HBr.out.size))
      clear cz7 hb
      go_wp2
      go_ret
      exact ⟨rfl, HBr.out⟩
theorem imakes_c (v : Value) (L : List Int) (n : Int) (w : World) (hv : Nm w v L) : Calls Try.prog 3 #[v, .int .i64 n] w fun e w' => e = .returned (.bool true) ∧ Below w.heap.size w w' := by
  by_cases h : 300 < L.length
  · exact imakes_long v L n w h hv
  · exact imakes_short v L n w (by omega) hv
end Go.Proofs

namespace Go.Proofs.Hd
open Go.RowKit
/-- Byte number j of a word, from the lowest on. -/
def byt (n : BitVec 64) (j : Nat) : UInt8 := UInt8.ofNat (n.toNat / 256 ^ j)
/-- The k lowest bytes of a word, the highest of them first. -/
def bigB (n : BitVec 64) : Nat → List UInt8
  | 0 => []
  | k + 1 => byt n k :: bigB n k
theorem bigB_len (n : BitVec 64) (k : Nat) : (bigB n k).length = k := by
  induction k with
  | zero => rfl
  | succ k ih => simp [bigB, ih]
theorem bigB_get (n : BitVec 64) : ∀ (k i j : Nat), i + 1 + j = k → (bigB n k)[i]? = some (byt n j) := by
  intro k
  induction k with
  | zero => intro i j h; omega
  | succ k ih =>
    intro i j h
    cases i with
    | zero => obtain rfl : j = k := by omega
              rfl
    | succ i => exact ih i j (by omega)
theorem bigB_take (n : BitVec 64) (k i j : Nat) (h : i + 1 + j = k) : (bigB n k).take (i + 1) = (bigB n k).take i ++ [byt n j] := by
  have hg := bigB_get n k i j h
  obtain ⟨hi, e⟩ := List.getElem?_eq_some_iff.1 hg
  rw [List.take_succ_eq_append_getElem hi, e]
theorem bigB_full (n : BitVec 64) (k : Nat) : (bigB n k).take k = bigB n k := List.take_of_length_le (by rw [bigB_len]; omega)
/-- The number that bytes are. -/
def numN (L : List UInt8) : Nat := L.foldl (fun a x => a * 256 + x.toNat) 0
def num (L : List UInt8) : BitVec 64 := BitVec.ofNat 64 (numN L)
theorem numN_snoc (L : List UInt8) (x : UInt8) : numN (L ++ [x]) = numN L * 256 + x.toNat := by simp [numN]
theorem num_snoc (L : List UInt8) (x : UInt8) : num (L ++ [x]) = num L * 256#64 + BitVec.ofNat 64 x.toNat := by
  unfold num; rw [numN_snoc, BitVec.ofNat_add, BitVec.ofNat_mul]
theorem num_nil : num [] = 0#64 := rfl
theorem byte_lt (x : UInt8) : x.toNat < 256 := x.toNat_lt
theorem numN_bound (L : List UInt8) : numN L < 256 ^ L.length := by
  have H : ∀ (M : List UInt8) (a b : Nat), a < b → M.foldl (fun a (x : UInt8) => a * 256 + x.toNat) a < b * 256 ^ M.length := by
    intro M
    induction M with
    | nil => intro a b h; simpa using h
    | cons x M ih =>
      intro a b h
      have hx := byte_lt x
      have := ih (a * 256 + x.toNat) (b * 256) (by omega)
      rw [List.foldl_cons, List.length_cons, Nat.pow_succ, Nat.mul_comm (256 ^ M.length) 256, ← Nat.mul_assoc]
      exact this
  have := H L 0 1 (by omega)
  simpa [numN] using this
theorem byt_nat (n : BitVec 64) (j : Nat) : (byt n j).toNat = n.toNat / 256 ^ j % 256 := by simp [byt]
theorem numN_big (n : BitVec 64) (k : Nat) : numN (bigB n k) = n.toNat % 256 ^ k := by
  have H : ∀ (k a : Nat), (bigB n k).foldl (fun a (x : UInt8) => a * 256 + x.toNat) a = a * 256 ^ k + n.toNat % 256 ^ k := by
    intro k
    induction k with
    | zero => intro a; simp [bigB, Nat.mod_one]
    | succ k ih =>
      intro a
      rw [bigB, List.foldl_cons, ih, byt_nat, Nat.mod_pow_succ, Nat.pow_succ, Nat.add_mul, Nat.mul_assoc, Nat.mul_comm 256 (256 ^ k), Nat.mul_comm (n.toNat / 256 ^ k % 256)]
      omega
  have := H k 0
  simpa [numN] using this
theorem num_big8 (n : BitVec 64) : num (bigB n 8) = n := by
  unfold num
  rw [numN_big]
  apply BitVec.eq_of_toNat_eq
  rw [BitVec.toNat_ofNat]
  have := n.isLt
  rw [show (256 : Nat) ^ 8 = 2 ^ 64 by decide, Nat.mod_mod]
  exact Nat.mod_eq_of_lt this
theorem num_lt4 (L : List UInt8) (h : L.length ≤ 4) : (num L).toNat < 4294967296 := by
  unfold num
  rw [BitVec.toNat_ofNat]
  have h1 := numN_bound L
  have h2 : (256 : Nat) ^ L.length ≤ 256 ^ 4 := Nat.pow_le_pow_right (by decide) h
  have h3 : numN L < 4294967296 := by have : (256 : Nat) ^ 4 = 4294967296 := by decide
                                      omega
  rw [Nat.mod_eq_of_lt (by omega)]; exact h3
theorem num_big4 (m : Nat) (h : m < 4294967296) : (num (bigB (BitVec.ofNat 64 m) 4)).toNat = m := by
  unfold num
  rw [numN_big, BitVec.toNat_ofNat, BitVec.toNat_ofNat, show (256 : Nat) ^ 4 = 4294967296 by decide]
  omega
theorem bigB_inj8 {a b : BitVec 64} (h : bigB a 8 = bigB b 8) : a = b := by rw [← num_big8 a, h, num_big8]
theorem bigB_inj4 {a b : Nat} (ha : a < 4294967296) (hb : b < 4294967296) (h : bigB (BitVec.ofNat 64 a) 4 = bigB (BitVec.ofNat 64 b) 4) : a = b := by
  have h1 := num_big4 a ha
  have h2 := num_big4 b hb
  rw [h] at h1; omega
/-- The checksum. -/
def fnv (L : List UInt8) : BitVec 64 := L.foldl (fun s x => (s ^^^ BitVec.ofNat 64 x.toNat) * 1099511628211#64) 14695981039346656037#64
theorem fnv_snoc (L : List UInt8) (x : UInt8) : fnv (L ++ [x]) = (fnv L ^^^ BitVec.ofNat 64 x.toNat) * 1099511628211#64 := by simp [fnv]
theorem uv_byte (x : UInt8) : ((x.toNat : Nat) : Int) = uv (BitVec.ofNat 64 x.toNat) := by
  unfold uv; rw [BitVec.toNat_ofNat]; have := byte_lt x; omega
theorem uv_mul (a b : BitVec 64) : IntKind.u64.wrap (uv a * uv b) = uv (a * b) := by
  unfold uv; rw [BitVec.toNat_mul, IntKind.wrap_u64, Int.natCast_emod, big, Int.natCast_mul]
theorem shl_or (n : BitVec 64) (x : UInt8) : (n <<< 8) ||| BitVec.ofNat 64 x.toNat = n * 256#64 + BitVec.ofNat 64 x.toNat := by
  have hx := byte_lt x
  have e : n <<< 8 = n * 256#64 := by
    apply BitVec.eq_of_toNat_eq
    rw [BitVec.toNat_shiftLeft, BitVec.toNat_mul, Nat.shiftLeft_eq]; rfl
  rw [← e]
  symm
  apply BitVec.add_eq_or_of_and_eq_zero
  apply BitVec.eq_of_getLsbD_eq
  intro i hi
  simp only [BitVec.getLsbD_and, BitVec.getLsbD_shiftLeft, BitVec.getLsbD_ofNat]
  by_cases h : i < 8
  · simp [h]
  · have : x.toNat.testBit i = false := Nat.testBit_lt_two_pow (Nat.lt_of_lt_of_le hx (by have := Nat.pow_le_pow_right (show 0 < 2 by decide) (show 8 ≤ i by omega); simpa using this))
    simp [this]
/-- What a round of number makes. -/
theorem num_step (L : List UInt8) (x : UInt8) : bits .or .u64 (IntKind.u64.wrap (uv (num L) * 256)) (x.toNat : Int) = uv (num (L ++ [x])) := by
  have : IntKind.u64.wrap (uv (num L) * 256) = uv (num L <<< 8) := uv_shl _ 8
  rw [this, uv_byte, uv_or, shl_or, num_snoc]
/-- What a round of the reference's Number makes. -/
theorem num_step' (L : List UInt8) (x : UInt8) : IntKind.u64.wrap (IntKind.u64.wrap (uv (num L) * 256) + (x.toNat : Int)) = uv (num (L ++ [x])) := by
  have : IntKind.u64.wrap (uv (num L) * 256) = uv (num L * 256#64) := uv_mul _ 256#64
  rw [this, uv_byte, uv_add, num_snoc]
/-- What a round of Sum makes. -/
theorem fnv_step (L : List UInt8) (x : UInt8) : IntKind.u64.wrap (bits .xor .u64 (uv (fnv L)) (x.toNat : Int) * 1099511628211) = uv (fnv (L ++ [x])) := by
  have := uv_mul (fnv L ^^^ BitVec.ofNat 64 x.toNat) 1099511628211#64
  rw [uv_byte, uv_xor, fnv_snoc]; exact this
theorem fnv_nil : uv (fnv []) = 14695981039346656037 := by rfl
/-- What a round of withNumber appends. -/
theorem byt_step (n : BitVec 64) (j : Nat) : IntKind.u8.wrap (uv n / 2 ^ (j * 8)) = ((byt n j).toNat : Int) := by
  rw [byt_nat, IntKind.wrap_u8]
  unfold uv
  rw [Nat.mul_comm j 8, Int.pow_mul, show ((2 : Int) ^ 8) = ((256 : Nat) : Int) by decide, ← Int.natCast_pow, ← Int.natCast_ediv, Int.natCast_emod]; rfl
theorem byt_low (n : BitVec 64) (t : Nat) (m : BitVec 64) (h : m.toNat = n.toNat / 256 ^ t) : IntKind.u8.wrap (uv m % 256) = ((byt n t).toNat : Int) := by
  rw [byt_nat, IntKind.wrap_u8]
  unfold uv
  rw [h]; omega
/-- A text as a field. -/
def txF (S : List UInt8) : List UInt8 := bigB (BitVec.ofNat 64 S.length) 4 ++ S
/-- A text of more than 2^24 bytes counts as none. -/
def cutT (S : List UInt8) : List UInt8 := if S.length ≤ 16777216 then S else []
theorem cutT_len (S : List UInt8) : (cutT S).length ≤ 16777216 := by
  unfold cutT; split
  · assumption
  · simp
theorem txF_len (S : List UInt8) : (txF S).length = S.length + 4 := by simp [txF, bigB_len]; omega
/-- With its checksum behind. -/
def seal8 (B : List UInt8) : List UInt8 := B ++ bigB (fnv B) 8
theorem seal8_len (B : List UInt8) : (seal8 B).length = B.length + 8 := by simp [seal8, bigB_len]
theorem seal8_inj {A B : List UInt8} (h : seal8 A = seal8 B) : A = B := by
  have hl : A.length = B.length := by
    have := congrArg List.length h
    rw [seal8_len, seal8_len] at this; omega
  exact (List.append_inj h hl).1
/-- What is taken, what is left, and the error behind, of n bytes of L at error e. -/
def tkB (L : List UInt8) (e : Int) (n : Nat) : List UInt8 := if e = 0 then (if n ≤ L.length then L.take n else []) else []
def tkL (L : List UInt8) (e : Int) (n : Nat) : List UInt8 := if e = 0 then (if n ≤ L.length then L.drop n else []) else L
def tkE (L : List UInt8) (e : Int) (n : Nat) : Int := if e = 0 then (if n ≤ L.length then 0 else 3) else e
theorem tkB_le (L : List UInt8) (e : Int) (n : Nat) : (tkB L e n).length ≤ n := by
  unfold tkB; split
  · split
    · simp; omega
    · simp
  · simp
theorem tk_inv {L : List UInt8} {e : Int} (n : Nat) (h : e ≠ 0 → L = []) : tkE L e n ≠ 0 → tkL L e n = [] := by
  unfold tkE tkL
  by_cases he : e = 0
  · rw [if_pos he, if_pos he]
    by_cases hn : n ≤ L.length
    · rw [if_pos hn]; intro h; exact absurd rfl h
    · rw [if_neg hn, if_neg hn]; intro _; rfl
  · rw [if_neg he, if_neg he]; intro _; exact h he
theorem tkL_le (L : List UInt8) (e : Int) (n : Nat) : (tkL L e n).length ≤ L.length := by
  unfold tkL; split
  · split <;> simp
  · simp
theorem take_app (A B : List UInt8) (n : Nat) (h : A.length = n) : tkB (A ++ B) 0 n = A ∧ tkL (A ++ B) 0 n = B ∧ tkE (A ++ B) 0 n = 0 := by
  subst h
  unfold tkB tkL tkE
  simp
theorem wrapU_ofInt (x : Int) : IntKind.u64.wrap x = uv (BitVec.ofInt 64 x) := by
  unfold uv; rw [IntKind.wrap_u64, BitVec.toNat_ofInt]; have := Int.emod_nonneg x (show (18446744073709551616 : Int) ≠ 0 by decide)
  rw [show ((2 ^ 64 : Nat) : Int) = 18446744073709551616 by rfl]; omega
theorem wrapU_nat (n : Nat) (h : n < 18446744073709551616) : uv (BitVec.ofNat 64 n) = (n : Int) := by
  unfold uv; rw [BitVec.toNat_ofNat]; omega
theorem wrapI_back (x : Int) (h1 : -9223372036854775808 ≤ x) (h2 : x ≤ 9223372036854775807) : IntKind.i64.wrap (uv (BitVec.ofInt 64 x)) = x := by
  rw [← wrapU_ofInt, IntKind.wrap_u64, IntKind.wrap_i64]; omega
theorem ofInt_inj {x y : Int} (h1 : -9223372036854775808 ≤ x) (h2 : x ≤ 9223372036854775807) (h3 : -9223372036854775808 ≤ y) (h4 : y ≤ 9223372036854775807) (h : BitVec.ofInt 64 x = BitVec.ofInt 64 y) : x = y := by
  rw [← wrapI_back x h1 h2, h, wrapI_back y h3 h4]
end Go.Proofs.Hd

namespace Go.Proofs.Hd
open Go.RowKit
/-- From w to w' at most the blocks of S have changed, and new ones may be there. -/
structure Ch (S : Nat → Prop) (w w' : World) : Prop where
  os : w'.os = w.os
  tape : w'.tape = w.tape
  output : w'.output = w.output
  size : w.heap.size ≤ w'.heap.size
  block : ∀ k, k < w.heap.size → ¬ S k → w'.heap[k]? = w.heap[k]?
theorem Ch.refl (S : Nat → Prop) (w : World) : Ch S w w := ⟨rfl, rfl, rfl, Nat.le_refl _, fun _ _ _ => rfl⟩
theorem Ch.trans {S : Nat → Prop} {a b c : World} (h : Ch S a b) (k : Ch S b c) : Ch S a c :=
  ⟨k.os.trans h.os, k.tape.trans h.tape, k.output.trans h.output, Nat.le_trans h.size k.size, fun i hi hs => (k.block i (Nat.lt_of_lt_of_le hi h.size) hs).trans (h.block i hi hs)⟩
theorem Ch.mono {S S' : Nat → Prop} {w w' : World} (h : Ch S w w') (hs : ∀ k, k < w.heap.size → S k → S' k) : Ch S' w w' := ⟨h.os, h.tape, h.output, h.size, fun k hk hn => h.block k hk (fun c => hn (hs k hk c))⟩
theorem Ch.of_below {S : Nat → Prop} {w w' : World} (h : Below w.heap.size w w') : Ch S w w' := ⟨h.os, h.tape, h.output, h.size, fun k hk _ => h.block k hk⟩
theorem Ch.below {S : Nat → Prop} {B : Nat} {w w' : World} (h : Ch S w w') (hB : B ≤ w.heap.size) (hs : ∀ k, k < B → ¬ S k) : Below B w w' := ⟨h.os, h.tape, h.output, h.size, fun k hk => h.block k (by omega) (hs k hk)⟩
theorem Ch.set (w : World) (p : Addr) (u : Value) : Ch (· = p.block) w (w.setCell p u) := ⟨rfl, rfl, rfl, by simp [World.setCell], fun k _ hn => Below.heap_setCell _ _ _ _ hn⟩
theorem Ch.blk {S : Nat → Prop} {w w' : World} {g : Nat} {t : TypeId} {cs : Array Value} (h : Ch S w w') (b : Blk w g t cs) (hn : ¬ S g) : Blk w' g t cs := (h.block g b.lt hn).trans b
theorem Ch.tb {S : Nat → Prop} {w w' : World} {g : Nat} {t : TypeId} (h : Ch S w w') (b : TB w g t) (hn : ¬ S g) : TB w' g t := by
  obtain ⟨cs, fr, e⟩ := b; exact ⟨cs, fr, (h.block g (TB.lt ⟨cs, fr, e⟩) hn).trans e⟩
theorem Ch.cell {S : Nat → Prop} {w w' : World} {p : Addr} {v : Value} (h : Ch S w w') (hc : w.cell? p = some v) (hn : ¬ S p.block) : w'.cell? p = some v :=
  (World.cell?_of_block (h.block p.block (World.block_lt_of_cell? w p hc) hn)).trans hc
theorem Ch.own {S : Nat → Prop} {w w' : World} {base e size n : Nat} {v : Value} {xs : List Value} (h : Ch S w w') (r : w.ownsRow base e size v n xs) (hn : ∀ g, v.ownBlock = some g → ¬ S g) : w'.ownsRow base e size v n xs := by
  refine ⟨r.1, ?_⟩
  rcases r.2 with r | ⟨g, cap, cur, rfl, hb, hg, rest⟩
  · exact .inl r
  · exact .inr ⟨g, cap, cur, rfl, hb, (h.block g (Array.getElem?_eq_some_iff.1 hg).1 (hn g rfl)).trans hg, rest⟩
end Go.Proofs.Hd

namespace Go.Proofs.Hd
open Go.RowKit
/-- Bytes as cells. -/
def bc (B : List UInt8) : List Value := B.map fun b => Value.int .u8 b.toNat
theorem bc_len (B : List UInt8) : (bc B).length = B.length := by simp [bc]
theorem bc_append (A B : List UInt8) : bc (A ++ B) = bc A ++ bc B := by simp [bc]
theorem bc_get {B : List UInt8} {k : Nat} {b : UInt8} (h : B[k]? = some b) : (bc B)[k]? = some (.int .u8 b.toNat) := by simp [bc, h]
theorem bc_one (B : List UInt8) : ∀ u ∈ bc B, u.oneCell' = true := by
  intro u hu; simp only [bc, List.mem_map] at hu; obtain ⟨b, _, rfl⟩ := hu; rfl
/-- A text of bytes. -/
def str (B : List UInt8) : ByteArray := ⟨B.toArray⟩
theorem str_size (B : List UInt8) : (str B).size = B.length := by show B.toArray.size = _; simp
theorem strCells_str (B : List UInt8) : Lib.strCells (str B) = bc B := by simp [Lib.strCells, str, bc]
theorem str_of (s : ByteArray) : s = str s.data.toList := by cases s; simp [str]
theorem str_inj {A B : List UInt8} (h : str A = str B) : A = B := by
  unfold str at h; injection h with h; simpa using h
theorem add_plain (b o j : Nat) : (⟨b, o, none⟩ : Addr).add j = ⟨b, o + j, none⟩ := by
  unfold Addr.add; by_cases h : j = 0 <;> simp [h]
/-- v is a slice that reads as the bytes L. -/
def Rd (w : World) (v : Value) (L : List UInt8) : Prop := (L = [] ∧ ∃ A cap, v = .slice A 0 cap ∧ cap ≤ maxLen) ∨ ∃ b off cap, v = .slice (some ⟨b, off, none⟩) L.length cap ∧ L.length ≤ cap ∧ cap ≤ maxLen ∧ b < w.heap.size ∧ ∀ (k : Nat) (c : UInt8), L[k]? = some c → w.cell? ⟨b, off + k, none⟩ = some (.int .u8 c.toNat)
theorem Rd.form {w : World} {v : Value} {L : List UInt8} (h : Rd w v L) : ∃ A cap, v = .slice A L.length cap ∧ L.length ≤ cap ∧ cap ≤ maxLen ∧ ∀ (k : Nat) (c : UInt8), L[k]? = some c → ∃ b off, A = some ⟨b, off, none⟩ ∧ w.cell? ⟨b, off + k, none⟩ = some (.int .u8 c.toNat) := by
  rcases h with ⟨rfl, A, cap, rfl, hm⟩ | ⟨b, off, cap, rfl, hc, hm, hb, h⟩
  · exact ⟨A, cap, rfl, Nat.zero_le _, hm, fun k c hk => by simp at hk⟩
  · exact ⟨_, cap, rfl, hc, hm, fun k c hk => ⟨b, off, rfl, h k c hk⟩⟩
theorem Rd.on {w w' : World} {v : Value} {L : List UInt8} (h : Rd w v L) (hb : Below w.heap.size w w') : Rd w' v L := by
  rcases h with h | ⟨b, off, cap, e, hc, hm, hs, h⟩
  · exact .inl h
  · exact .inr ⟨b, off, cap, e, hc, hm, Nat.lt_of_lt_of_le hs hb.size, fun k c hk => on_some hb (h k c hk)⟩
theorem Rd.nil (w : World) : Rd w (.slice none 0 0) [] := .inl ⟨rfl, none, 0, rfl, Nat.zero_le _⟩
theorem Rd.src {w : World} {v : Value} {L : List UInt8} (h : Rd w v L) : Src w 1 v L.length (bc L) := by
  refine ⟨by simp [bc], bc_one L, ?_⟩
  rcases h with ⟨rfl, A, cap, rfl, _⟩ | ⟨b, off, cap, rfl, _, _, hb, h⟩
  · cases A with
    | none => exact .inl ⟨rfl, cap, rfl⟩
    | some ad => exact .inr ⟨ad, cap, rfl, fun j u hu => by simp [bc] at hu⟩
  · refine .inr ⟨_, cap, rfl, fun j u hu => ?_⟩
    have hj : j < L.length := by have := (List.getElem?_eq_some_iff.1 hu).1; rwa [bc_len] at this
    rw [bc_get (List.getElem?_eq_getElem hj)] at hu
    injection hu with hu
    subst hu
    rw [add_plain]
    exact h j _ (List.getElem?_eq_getElem hj)
theorem Rd.of_own {w : World} {base e : Nat} {v : Value} {B : List UInt8} (h : w.ownsRow base e 1 v B.length (bc B)) : Rd w v B := by
  rcases h.2 with ⟨rfl, h0⟩ | ⟨g, cap, cur, hv, hge, hheap, hlc, hcm, _⟩
  · obtain rfl : B = [] := List.eq_nil_of_length_eq_zero h0
    exact .inl ⟨rfl, _, _, rfl, Nat.zero_le _⟩
  · subst hv
    refine .inr ⟨g, 0, cap, rfl, hlc, hcm, (h.lt g rfl).2, fun k c hc => ?_⟩
    have := h.cells (g := g) rfl k _ (bc_get hc)
    rwa [add_plain] at this
/-- The block in which a slice lies is one of bytes. -/
def In8 (w : World) (t : TypeId) (v : Value) : Prop := ∀ g, v.ownBlock = some g → TB w g t
theorem In8.on {w w' : World} {t : TypeId} {v : Value} (h : In8 w t v) (hb : Below w.heap.size w w') : In8 w' t v := fun g hg => (h g hg).on hb
theorem In8.of_own {w : World} {base e size n : Nat} {v : Value} {xs : List Value} (h : w.ownsRow base e size v n xs) : In8 w e v := by
  intro g hg
  rcases h.2 with ⟨rfl, _⟩ | ⟨g', cap, cur, rfl, _, hh, _⟩
  · simp [Value.ownBlock] at hg
  · simp [Value.ownBlock] at hg
    subst hg
    exact ⟨_, _, hh⟩
theorem Ch.rd {S : Nat → Prop} {w w' : World} {v : Value} {L : List UInt8} (h : Ch S w w') (r : Rd w v L) (hn : ∀ g, v.ownBlock = some g → ¬ S g) : Rd w' v L := by
  rcases r with r | ⟨b, off, cap, e, hc, hm, hs, r⟩
  · exact .inl r
  · subst e
    exact .inr ⟨b, off, cap, rfl, hc, hm, Nat.lt_of_lt_of_le hs h.size, fun k c hk => h.cell (r k c hk) (hn b rfl)⟩
theorem Ch.in8 {S : Nat → Prop} {w w' : World} {t : TypeId} {v : Value} (h : Ch S w w') (r : In8 w t v) (hn : ∀ g, v.ownBlock = some g → ¬ S g) : In8 w' t v := fun g hg => h.tb (r g hg) (hn g hg)
theorem TB.ne {w : World} {g g' : Nat} {t t' : TypeId} {cs : Array Value} (h : TB w g t) (h' : Blk w g' t' cs) (hne : t ≠ t') : g ≠ g' := by
  rintro rfl
  obtain ⟨c, f, e⟩ := h
  unfold Blk at h'
  rw [e] at h'
  injection h' with h'
  injection h' with _ ht
  exact hne ht
theorem Blk.ne {w : World} {g g' : Nat} {t t' : TypeId} {cs cs' : Array Value} (h : Blk w g t cs) (h' : Blk w g' t' cs') (hne : t ≠ t') : g ≠ g' := TB.ne ⟨cs, (0, 0), h⟩ h' hne
theorem Blk.tb {w : World} {g : Nat} {t : TypeId} {cs : Array Value} (h : Blk w g t cs) : TB w g t := ⟨cs, (0, 0), h⟩
/-- A row that lay at o has grown and lies at o' now: nothing else has changed. -/
def Grw (w w' : World) (o o' : Option Nat) : Prop := w.grownBy w' o ∧ (o' = o ∨ ∃ k, o' = some k ∧ w.heap.size ≤ k)
theorem Grw.refl (w : World) (o : Option Nat) : Grw w w o o := ⟨World.grownBy.refl w o, .inl rfl⟩
theorem Grw.trans {a b c : World} {o o1 o2 : Option Nat} (h : Grw a b o o1) (k : Grw b c o1 o2) : Grw a c o o2 := by
  refine ⟨⟨k.1.os.trans h.1.os, k.1.tape.trans h.1.tape, k.1.output.trans h.1.output, Nat.le_trans h.1.size k.1.size, fun i hi hn => ?_⟩, ?_⟩
  · refine (k.1.block i (Nat.lt_of_lt_of_le hi h.1.size) ?_).trans (h.1.block i hi hn)
    rcases h.2 with e | ⟨j, e, hj⟩
    · rw [e]; exact hn
    · rw [e]; intro c; injection c with c; omega
  · rcases k.2 with e | ⟨j, e, hj⟩
    · rcases h.2 with e' | ⟨j, e', hj⟩
      · exact .inl (e.trans e')
      · exact .inr ⟨j, e.trans e', hj⟩
    · exact .inr ⟨j, e, Nat.le_trans h.1.size hj⟩
theorem Grw.ch {w w' : World} {o o' : Option Nat} (h : Grw w w' o o') : Ch (fun k => o = some k) w w' := ⟨h.1.os, h.1.tape, h.1.output, h.1.size, fun k hk hn => h.1.block k hk (fun c => hn c.symm)⟩
theorem Grw.of_below {w w' : World} (h : Below w.heap.size w w') (o : Option Nat) : Grw w w' o o := ⟨grown_of_below h o, .inl rfl⟩
theorem Grw.below {w w' : World} {o o' : Option Nat} {B : Nat} (h : Grw w w' o o') (hB : B ≤ w.heap.size) (ho : ∀ k, o = some k → B ≤ k) : Below B w w' :=
  (Below.refl B w).grown h.1 hB ho
section
variable {P : Program} (w : World)
theorem run_app2 (base : Nat) (t ty e : TypeId) (i : TypeInfo) (z : Value) (size bytes : Nat) (ht : P.underlying t = some (.slice e)) (hi : P.info? e = some i) (hz : i.zero = some z)
    (hsize : i.size = size) (hby : i.bytes = bytes) (hzs : z.cells.size = size) (hsz : 0 < size) (v : Value) (n : Nat) (xs : List Value) (hown : w.ownsRow base e size v n xs)
    (x : Value) (m : Nat) (news : List Value) (hx : Src w size x m news) (h63 : n + m ≤ maxLen) (hbytes : (n + m) * bytes ≤ 140737488355328) (hbase : base ≤ w.heap.size) :
    ∃ v' w', (Builtin.append_ #[t, t] ty #[v, x]).run P w = .ok v' w' ∧ w'.ownsRow base e size v' (n + m) (xs ++ news) ∧ Grw w w' v.ownBlock v'.ownBlock := by
  obtain ⟨hl, h1, ⟨rfl, c, rfl⟩ | ⟨ad, c, rfl, hc⟩⟩ := hx
  · obtain rfl : news = [] := List.eq_nil_of_length_eq_zero (by simpa using hl)
    refine ⟨v, w, ?_, by simpa using hown, Grw.refl w _⟩
    rcases hown.2 with ⟨rfl, rfl⟩ | ⟨g, cap, cur, rfl, _, _, hnc, _⟩
    · simp [Builtin.append_, run_underlying ht, sizeOf, typeInfo, hi, Builtin.lenOf, Builtin.firstCells]
    · simp [Builtin.append_, run_underlying ht, sizeOf, typeInfo, hi, Builtin.lenOf, Builtin.firstCells, hnc, storeCells]
  · obtain ⟨v', w', hr, h2, h3, _, h5⟩ := run_append_own_at (P := P) w base t ty e i z size bytes ht hi hz hsize hby hzs hsz v n xs hown ad m c news hl hc h1 h63 hbytes hbase
    exact ⟨v', w', hr, h2, h3, h5.imp id fun h => ⟨_, h, Nat.le_refl _⟩⟩
theorem run_appS2 (base : Nat) (t u ty e : TypeId) (i : TypeInfo) (ht : P.underlying t = some (.slice e)) (hu : P.underlying u = some .string) (hi : P.info? e = some i) (hz : i.zero = some (.int .u8 0))
    (hsize : i.size = 1) (hby : i.bytes = 1) (v : Value) (n : Nat) (xs : List Value) (hown : w.ownsRow base e 1 v n xs) (s : ByteArray)
    (h63 : n + s.size ≤ maxLen) (hbytes : n + s.size ≤ 140737488355328) (hbase : base ≤ w.heap.size) :
    ∃ v' w', (Builtin.append_ #[t, u] ty #[v, .string s]).run P w = .ok v' w' ∧ w'.ownsRow base e 1 v' (n + s.size) (xs ++ Lib.strCells s) ∧ Grw w w' v.ownBlock v'.ownBlock := by
  obtain ⟨v', w', hr, h2, h3, h4⟩ := Lib.run_append_own_string (P := P) w base t u ty e i ht hu hi hz hsize hby v n xs hown s h63 hbytes hbase
  refine ⟨v', w', hr, h2, h3, ?_⟩
  have hsmall : n + s.size ≤ 9223372036854775807 := by simp only [maxLen] at h63; omega
  rcases hown.2 with ⟨rfl, rfl⟩ | ⟨g, cap, cur, rfl, hbg, hg, hnc, hcm, hcs, htake⟩
  · by_cases hm : s.size = 0
    · exact .inl (by rw [h4.2 ⟨rfl, hm⟩])
    · have hr' := run_append_nil_string (P := P) w t u ty e i (.int .u8 0) ht hu hi hz s (by omega) (by omega) (by rw [hby]; omega)
      rw [hr] at hr'
      injection hr' with e1 e2
      exact .inr ⟨_, by rw [e1]; rfl, Nat.le_refl _⟩
  · by_cases hroom : n + s.size ≤ cap
    · have hcs' : cur.size = cap := by simpa using hcs
      have hr' := Lib.run_append_room_string (P := P) w t u ty e i ht hu hi hsize g n cap cur hg s hroom (by omega)
      rw [hr] at hr'
      injection hr' with e1 e2
      exact .inl (by rw [e1]; rfl)
    · have holds : ∀ j u, xs[j]? = some u → w.cell? ((⟨g, 0, none⟩ : Addr).add j) = some u := hown.cells (g := g) rfl
      have hr' := Lib.run_append_grow_string (P := P) w t u ty e i (.int .u8 0) ht hu hi hz ⟨g, 0, none⟩ n cap xs (by rw [hsize]; exact hown.1) holds s (by omega) (by omega) (by rw [hby]; exact growslice_fits (by omega) (by omega))
      rw [hr] at hr'
      injection hr' with e1 e2
      exact .inr ⟨_, by rw [e1]; rfl, Nat.le_refl _⟩
theorem wpList_app2 {ops : Array Oper} {rest : List Oper} {o : Oper} {a : Act} {Q : Exit → Act → World → Prop} (hgd : o.guard = none) (s x : Operand) (t : TypeId)
    (ho : o.op = .call { callee := .builtin .append, args := #[s, x], argTypes := #[t, t] }) (base : Nat) (e : TypeId) (i : TypeInfo) (z : Value) (size bytes : Nat) (ht : P.underlying t = some (.slice e)) (hi : P.info? e = some i) (hz : i.zero = some z)
    (hsize : i.size = size) (hby : i.bytes = bytes) (hzs : z.cells.size = size) (hsz : 0 < size) (v : Value) (n : Nat) (xs : List Value) (hs : a.eval s = v) (hown : w.ownsRow base e size v n xs)
    (y : Value) (m : Nat) (news : List Value) (hy : a.eval x = y) (hx : Src w size y m news) (h63 : n + m ≤ maxLen) (hbytes : (n + m) * bytes ≤ 140737488355328) (hbase : base ≤ w.heap.size)
    (h : ∀ v' w', w'.ownsRow base e size v' (n + m) (xs ++ news) → Grw w w' v.ownBlock v'.ownBlock → wpList P ops Q rest (a.put o.dst v') w') : wpList P ops Q (o :: rest) a w := by
  obtain ⟨v', w', hr, h2, h3⟩ := run_app2 (P := P) w base t o.type e i z size bytes ht hi hz hsize hby hzs hsz v n xs hown y m news hx h63 hbytes hbase
  exact Lib.wpList_append_run w hgd s x t t ho v y hs hy v' w' hr (h v' w' h2 h3)
theorem wpList_appS2 {ops : Array Oper} {rest : List Oper} {o : Oper} {a : Act} {Q : Exit → Act → World → Prop} (hgd : o.guard = none) (sl x : Operand) (t u : TypeId)
    (ho : o.op = .call { callee := .builtin .append, args := #[sl, x], argTypes := #[t, u] }) (base : Nat) (e : TypeId) (i : TypeInfo) (ht : P.underlying t = some (.slice e)) (hu : P.underlying u = some .string) (hi : P.info? e = some i) (hz : i.zero = some (.int .u8 0))
    (hsize : i.size = 1) (hby : i.bytes = 1) (v : Value) (n : Nat) (xs : List Value) (hs : a.eval sl = v) (hown : w.ownsRow base e 1 v n xs) (s : ByteArray) (hx : a.eval x = .string s)
    (h63 : n + s.size ≤ maxLen) (hbytes : n + s.size ≤ 140737488355328) (hbase : base ≤ w.heap.size)
    (h : ∀ v' w', w'.ownsRow base e 1 v' (n + s.size) (xs ++ Lib.strCells s) → Grw w w' v.ownBlock v'.ownBlock → wpList P ops Q rest (a.put o.dst v') w') : wpList P ops Q (o :: rest) a w := by
  obtain ⟨v', w', hr, h2, h3⟩ := run_appS2 (P := P) w base t u o.type e i ht hu hi hz hsize hby v n xs hown s h63 hbytes hbase
  exact Lib.wpList_append_run w hgd sl x t u ho v (.string s) hs hx v' w' hr (h v' w' h2 h3)
/-- string(b). -/
theorem run_text {t u e : TypeId} (ht : P.underlying t = some (.slice e)) (he : P.underlying e = some (.int .u8)) (hu : P.underlying u = some .string) {v : Value} {L : List UInt8} (h : Rd w v L) :
    (convert t u v).run P w = .ok (.string (str L)) w := by
  rcases h with ⟨rfl, A, cap, rfl, _⟩ | ⟨b, off, cap, rfl, _, _, hb, h⟩
  · cases A with
    | none => rw [run_convert_bytes_nil w t e ht he 0 cap u hu]; rfl
    | some ad => exact run_convert_bytes_back w t u e ad cap [] ht he hu (fun j hj => by simp at hj)
  · refine run_convert_bytes_back w t u e ⟨b, off, none⟩ cap L ht he hu (fun j hj => ?_)
    rw [add_plain]; exact h j _ (List.getElem?_eq_getElem hj)
end
/-- A list of bytes was returned, behind what a row of base holds: the row has grown. -/
def GotB (t : TypeId) (w : World) (base : Nat) (o : Option Nat) (B : List UInt8) (e : Ending) (w' : World) : Prop := ∃ v, e = .returned v ∧ w'.ownsRow base t 1 v B.length (bc B) ∧ Grw w w' o v.ownBlock
end Go.Proofs.Hd
