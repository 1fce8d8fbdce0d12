/-
  customhouselaw08.ConfigClones returns true for every input within the sizes of memory, and each argument reads behind the call as before. No conditions.
  Contract of the reference's Ports of layer 8. Conditions as the theorem lists them.
  Contract of the reference's Rules of layer 8. Conditions as the theorem lists them.
  Contract of the reference's Same of layer 8. Conditions as the theorem lists them.
  What stands of memory when only whole numbers in rows were written over. Conditions as each theorem lists them.
  The walk of customhouselaw08.ConfigClones: it returns true. Conditions as the theorem lists them.
-/
import Derived.Test.YtfmfbkfppfohbaaJ11
import Derived.Test.YtfmfbkfppfohbaaRows
import Derived.Below
import Derived.SizedLaws
namespace Go.Proofs
open Go.RowKit Go.Proofs.Hd Go.Lib
attribute [local go_sem high] run_eqP
set_option maxRecDepth 100000 in
set_option maxHeartbeats 4000000 in
theorem rports_c (x : Bool) (v u : Value) (T S : List (List Pt)) (w : World) (hv : PsT w v T) (hu : PsT w u S) (hx : x = true ↔ T = S) : Calls Try.prog 45 #[.agg #[v], .agg #[u]] w fun e w' => e = .returned (.bool x) ∧ Below w.heap.size w w' := by
  obtain ⟨A, c, rfl, hTm, hA⟩ := hv
  obtain ⟨B, d, rfl, hSm, hB⟩ := hu
  have hTz : (T.length : Int) ≤ 9223372036854775807 := by unfold maxLen at hTm; omega
  have hSz : (S.length : Int) ≤ 9223372036854775807 := by unfold maxLen at hSm; omega
  have HA := Lib.hid hA
  have HB := Lib.hid hB
  have HX := Lib.hid hx
  clear hA hB hx hTm hSm
  have bad : ¬ T = S → x = false := fun h => by
    cases hxx : x with
    | false => rfl
    | true => exact absurd (HX.out.1 hxx) h
  have BAD := Lib.hid bad
  clear bad
  have B0 : Hid (Below w.heap.size w ((w.alloc (.cells #[.slice A T.length c] 24)).alloc (.cells #[.slice B S.length d] 24))) := below2 w _ _
  have N0 : Hid (Blk ((w.alloc (.cells #[.slice A T.length c] 24)).alloc (.cells #[.slice B S.length d] 24)) w.heap.size 24 #[.slice A T.length c]) := (Blk.new w _ _).on (below1 _ _)
  have M0 : Hid (Blk ((w.alloc (.cells #[.slice A T.length c] 24)).alloc (.cells #[.slice B S.length d] 24)) (w.heap.size + 1) 24 #[.slice B S.length d]) := Blk.new2 w _ _ _
  go_enter Try.func45, Try.ntmps45
  have t0 := N0.out.one
  have t1 := M0.out.one
  go_upto_region 1 with (fail)
  clear t0 t1
  generalize ((w.alloc (.cells #[.slice A T.length c] 24)).alloc (.cells #[.slice B S.length d] 24)) = w1 at B0 N0 M0 ⊢
  have t0 := N0.out.one
  have t1 := M0.out.one
  by_cases hl : T.length = S.length
  · have hne : ((T.length : Int) != (S.length : Int)) = false := by rw [hl]; simp
    obtain ⟨n, hn1, hn2⟩ : ∃ n : Nat, Hid (T.length = n) ∧ Hid (S.length = n) := ⟨T.length, rfl, hl.symm⟩
    clear hl hne hSz
    rw [hn1.out] at hTz N0 t0 ⊢
    rw [hn2.out] at M0 t1 ⊢
    go_wp2
    clear t0 t1
    go_loopg [5, 6] n (fun gk s5 _ wr => ∃ k : Nat, k ≤ n ∧ gk = n - k ∧ s5 = .int .i64 k ∧ Hid (∀ j, j < k → T[j]? = S[j]?) ∧ Hid (Below w1.heap.size w1 wr))
    case atStart => exact ⟨0, Nat.zero_le _, rfl, rfl, fun j hj => absurd hj (Nat.not_lt_zero _), Below.refl _ _⟩
    case round =>
      obtain ⟨k, hk, rfl, rfl, HE, HW⟩ := hrel
      have t0 := (N0.out.on HW.out).one
      have t1 := (M0.out.on HW.out).one
      by_cases hlt : k < n
      · have hltz : (k : Int) < (n : Int) := by omega
        obtain ⟨L, hL⟩ : ∃ L, T[k]? = some L := ⟨_, List.getElem?_eq_getElem (by have := hn1.out; omega)⟩
        obtain ⟨M, hM⟩ : ∃ M, S[k]? = some M := ⟨_, List.getElem?_eq_getElem (by have := hn2.out; omega)⟩
        obtain ⟨ab, ao, rfl, _, hac⟩ := HA.out (by rintro rfl; simp at hL)
        obtain ⟨bb, bo, rfl, _, hbc⟩ := HB.out (by rintro rfl; simp at hM)
        obtain ⟨s1, hs1, hR1⟩ := hac k L hL
        obtain ⟨s2, hs2, hR2⟩ := hbc k M hM
        have HBW := Lib.hid (B0.out.trans (HW.out.mono B0.out.size))
        have HR1 := Lib.hid hR1
        have HR2 := Lib.hid hR2
        obtain ⟨A1, c1, rfl, hLm, hC1⟩ := hR1
        obtain ⟨A2, c2, rfl, -, hC2⟩ := hR2
        have HLM := Lib.hid hLm
        have HC1 := Lib.hid hC1
        have HC2 := Lib.hid hC2
        clear hLm hC1 hC2
        have HS1 := Lib.hid hs1
        have HS2 := Lib.hid hs2
        have HKL := Lib.hid hL
        have HKM := Lib.hid hM
        have y1 := on_some HBW.out hs1
        have y2 := on_some HBW.out hs2
        clear hac hbc hL hM hs1 hs2
        by_cases hlm : L.length = M.length
        · have hne : ((L.length : Int) != (M.length : Int)) = false := by rw [hlm]; simp
          obtain ⟨m, hm1, hm2⟩ : ∃ m : Nat, Hid (L.length = m) ∧ Hid (M.length = m) := ⟨L.length, rfl, hlm.symm⟩
          clear hlm hne
          rw [hm1.out] at y1 HS1
          rw [hm2.out] at y2 HS2
          have hmz : (m : Int) ≤ 9223372036854775807 := by have := HLM.out; have := hm1.out; unfold maxLen at *; omega
          go_wp2_with fail
          go_quiet (fail)
          have HW2 := Lib.hid (bldrewN HW.out nq)
          clear HW HBW y1 y2 t0 t1
          generalize wr.drewN nq = w3 at HW2 ⊢
          clear nq
          have t0 := (N0.out.on HW2.out).one
          have t1 := (M0.out.on HW2.out).one
          go_wp2
          clear t0 t1
          go_loopg [6] m (fun gk s6 wq => ∃ j : Nat, j ≤ m ∧ gk = m - j ∧ s6 = .int .i64 j ∧ Hid (∀ i, i < j → L[i]? = M[i]?) ∧ Hid (Below w1.heap.size w1 wq))
          case atStart => exact ⟨0, Nat.zero_le _, rfl, rfl, fun j hj => absurd hj (Nat.not_lt_zero _), HW2⟩
          case round =>
            clear HW2
            rename_i wr0
            obtain ⟨j, hj, rfl, rfl, HF, HW⟩ := hrel
            have HBW := Lib.hid (B0.out.trans (HW.out.mono B0.out.size))
            have y1 := on_some HBW.out HS1.out
            have y2 := on_some HBW.out HS2.out
            have t0 := (N0.out.on HW.out).one
            have t1 := (M0.out.on HW.out).one
            by_cases hjt : j < m
            · have hjz : (j : Int) < (m : Int) := by omega
              obtain ⟨a, ha⟩ : ∃ a, L[j]? = some a := ⟨_, List.getElem?_eq_getElem (by have := hm1.out; omega)⟩
              obtain ⟨b, hb⟩ : ∃ b, M[j]? = some b := ⟨_, List.getElem?_eq_getElem (by have := hm2.out; omega)⟩
              obtain ⟨pa, oa, rfl, _, hca⟩ := HC1.out (by rintro rfl; simp at ha)
              have ta0 := on_some HBW.out (hca j a ha).1
              have ta1 := on_some HBW.out (hca j a ha).2.1
              have ta2 := on_some HBW.out (hca j a ha).2.2.1
              have ta3 := on_some HBW.out (hca j a ha).2.2.2.1
              have ta4 := on_some HBW.out (hca j a ha).2.2.2.2
              obtain ⟨a0, a1, a2, a3, a4⟩ := a
              simp only at ta0 ta1 ta2 ta3 ta4
              clear hca
              obtain ⟨pb, ob, rfl, _, hcb⟩ := HC2.out (by rintro rfl; simp at hb)
              have tb0 := on_some HBW.out (hcb j b hb).1
              have tb1 := on_some HBW.out (hcb j b hb).2.1
              have tb2 := on_some HBW.out (hcb j b hb).2.2.1
              have tb3 := on_some HBW.out (hcb j b hb).2.2.2.1
              have tb4 := on_some HBW.out (hcb j b hb).2.2.2.2
              obtain ⟨b0, b1, b2, b3, b4⟩ := b
              simp only at tb0 tb1 tb2 tb3 tb4
              clear hcb
              have HKA := Lib.hid ha
              have HKB := Lib.hid hb
              clear ha hb
              cases hq : eqP ⟨a0, a1, a2, a3, a4⟩ ⟨b0, b1, b2, b3, b4⟩ with
              | true =>
                have HQ : Hid ((⟨a0, a1, a2, a3, a4⟩ : Pt) = ⟨b0, b1, b2, b3, b4⟩) := eqP_iff.1 hq
                go_wp2_with fail
                go_quiet (fail)
                have HW2 := Lib.hid (bldrewN HW.out nq)
                go_wp2
                go_roundg (m - (j + 1))
                case measure => omega
                case rel =>
                  refine ⟨j + 1, by omega, rfl, by go_num, (fun i hi => ?_), HW2.out⟩
                  by_cases e : i = j
                  · subst e; rw [HKA.out, HKB.out, HQ.out]
                  · exact HF.out i (by omega)
              | false =>
                have HQ : Hid (x = false) := BAD.out fun e => by
                  have e2 := HKL.out
                  rw [e, HKM.out] at e2
                  injection e2 with e2
                  have e3 := HKA.out
                  rw [← e2, HKB.out] at e3
                  injection e3 with e3
                  rw [eqP_iff.2 e3.symm] at hq
                  cases hq
                go_wp2_with fail
                go_quiet (fail)
                have HW2 := Lib.hid (bldrewN HBW.out nq)
                go_wp2
                go_ret
                exact ⟨by rw [HQ.out]; rfl, HW2.out⟩
            · have hjz : ¬ (j : Int) < (m : Int) := by omega
              have HLM2 : Hid (L = M) := List.ext_getElem? fun i => by
                by_cases hi : i < j
                · exact HF.out i hi
                · rw [List.getElem?_eq_none (by have := hm1.out; omega), List.getElem?_eq_none (by have := hm2.out; omega)]
              go_wp2
              go_roundg (n - (k + 1))
              case measure => omega
              case rel =>
                refine ⟨k + 1, by omega, rfl, by go_num, (fun i hi => ?_), HW.out⟩
                by_cases e : i = k
                · subst e; rw [HKL.out, HKM.out, HLM2.out]
                · exact HE.out i (by omega)
        · have hne : ((L.length : Int) != (M.length : Int)) = true := by rw [bne_iff_ne]; omega
          have HLN := Lib.hid hlm
          have HQ : Hid (x = false) := BAD.out fun e => by
            have e2 := HKL.out
            rw [e, HKM.out] at e2
            injection e2 with e2
            exact HLN.out (congrArg List.length e2.symm)
          clear hlm
          go_wp2_with fail
          go_quiet (fail)
          have HW2 := Lib.hid (bldrewN HBW.out nq)
          go_wp2
          go_ret
          exact ⟨by rw [HQ.out]; rfl, HW2.out⟩
      · have hltz : ¬ (k : Int) < (n : Int) := by omega
        have HQ : Hid (x = true) := HX.out.2 (List.ext_getElem? fun j => by
          by_cases hj : j < k
          · exact HE.out j hj
          · rw [List.getElem?_eq_none (by have := hn1.out; omega), List.getElem?_eq_none (by have := hn2.out; omega)])
        go_wp2
        go_ret
        exact ⟨by rw [HQ.out]; rfl, B0.out.trans (HW.out.mono B0.out.size)⟩
  · have hne : ((T.length : Int) != (S.length : Int)) = true := by rw [bne_iff_ne]; omega
    have HQ : Hid (x = false) := BAD.out fun e => hl (congrArg List.length e)
    have hlz : ¬ (T.length : Int) = (S.length : Int) := by omega
    clear hl
    go_wp2
    go_ret
    exact ⟨by rw [HQ.out]; rfl, B0.out⟩
end Go.Proofs

namespace Go.Proofs
open Go.RowKit Go.Proofs.Hd Go.Lib
attribute [local go_sem high] run_eqR
attribute [local go_sem] uv_nonneg
set_option maxRecDepth 100000 in
set_option maxHeartbeats 4000000 in
theorem rrules_c (x : Bool) (v u : Value) (T S : List (List Rl)) (w : World) (hv : RuT w v T) (hu : RuT w u S) (hx : x = true ↔ T = S) : Calls Try.prog 46 #[v, u] w fun e w' => e = .returned (.bool x) ∧ Below w.heap.size w w' := by
  obtain ⟨A, c, rfl, hTm, hTM, hA⟩ := hv
  obtain ⟨B, d, rfl, hSm, -, hB⟩ := hu
  have hTz : (T.length : Int) ≤ 9223372036854775807 := by unfold maxLen at hTm; omega
  have hSz : (S.length : Int) ≤ 9223372036854775807 := by unfold maxLen at hSm; omega
  have HA := Lib.hid hA
  have HB := Lib.hid hB
  have HX := Lib.hid hx
  clear hA hB hx hTm hSm
  have bad : ¬ T = S → x = false := fun h => by
    cases hxx : x with
    | false => rfl
    | true => exact absurd (HX.out.1 hxx) h
  have BAD := Lib.hid bad
  clear bad
  have B0 : Hid (Below w.heap.size w w) := Below.refl _ _
  go_enter Try.func46, Try.ntmps46
  by_cases hl : T.length = S.length
  · have hne : ((T.length : Int) != (S.length : Int)) = false := by rw [hl]; simp
    obtain ⟨n, hn1, hn2⟩ : ∃ n : Nat, Hid (T.length = n) ∧ Hid (S.length = n) := ⟨T.length, rfl, hl.symm⟩
    clear hl hne hSz
    rw [hn1.out] at hTz ⊢
    rw [hn2.out]
    go_wp2

    go_loopg [5, 6] n (fun gk s5 _ wr => ∃ k : Nat, k ≤ n ∧ gk = n - k ∧ s5 = .int .i64 k ∧ Hid (∀ j, j < k → T[j]? = S[j]?) ∧ Hid (Below w.heap.size w wr))
    case atStart => exact ⟨0, Nat.zero_le _, rfl, rfl, fun j hj => absurd hj (Nat.not_lt_zero _), Below.refl _ _⟩
    case round =>
      obtain ⟨k, hk, rfl, rfl, HE, HW⟩ := hrel
      by_cases hlt : k < n
      · have hltz : (k : Int) < (n : Int) := by omega
        obtain ⟨L, hL⟩ : ∃ L, T[k]? = some L := ⟨_, List.getElem?_eq_getElem (by have := hn1.out; omega)⟩
        obtain ⟨M, hM⟩ : ∃ M, S[k]? = some M := ⟨_, List.getElem?_eq_getElem (by have := hn2.out; omega)⟩
        obtain ⟨ab, ao, rfl, _, hac⟩ := HA.out (by rintro rfl; simp at hL)
        obtain ⟨bb, bo, rfl, _, hbc⟩ := HB.out (by rintro rfl; simp at hM)
        obtain ⟨s1, hs1, hR1⟩ := hac k L hL
        obtain ⟨s2, hs2, hR2⟩ := hbc k M hM
        have HBW := Lib.hid (B0.out.trans (HW.out.mono B0.out.size))
        have HR1 := Lib.hid hR1
        have HR2 := Lib.hid hR2
        have HLM : Hid (L.length ≤ maxLen) := hTM L (List.mem_of_getElem? hL)
        obtain ⟨A1, c1, rfl, hC1⟩ := hR1.form
        obtain ⟨A2, c2, rfl, hC2⟩ := hR2.form
        have HC1 := Lib.hid hC1
        have HC2 := Lib.hid hC2
        clear hC1 hC2
        have HS1 := Lib.hid hs1
        have HS2 := Lib.hid hs2
        have HKL := Lib.hid hL
        have HKM := Lib.hid hM
        have y1 := on_some HBW.out hs1
        have y2 := on_some HBW.out hs2
        clear hac hbc hL hM hs1 hs2 hR1 hR2
        by_cases hlm : L.length = M.length
        · have hne : ((L.length : Int) != (M.length : Int)) = false := by rw [hlm]; simp
          obtain ⟨m, hm1, hm2⟩ : ∃ m : Nat, Hid (L.length = m) ∧ Hid (M.length = m) := ⟨L.length, rfl, hlm.symm⟩
          clear hlm hne
          rw [hm1.out] at y1 HS1
          rw [hm2.out] at y2 HS2
          have hmz : (m : Int) ≤ 9223372036854775807 := by have := HLM.out; have := hm1.out; unfold maxLen at *; omega
          go_wp2_with fail
          go_quiet (fail)
          have HW2 := Lib.hid (bldrewN HW.out nq)
          clear HW HBW y1 y2
          generalize wr.drewN nq = w3 at HW2 ⊢
          clear nq
          go_wp2

          go_loopg [6] m (fun gk s6 wq => ∃ j : Nat, j ≤ m ∧ gk = m - j ∧ s6 = .int .i64 j ∧ Hid (∀ i, i < j → L[i]? = M[i]?) ∧ Hid (Below w.heap.size w wq))
          case atStart => exact ⟨0, Nat.zero_le _, rfl, rfl, fun j hj => absurd hj (Nat.not_lt_zero _), HW2⟩
          case round =>
            clear HW2
            rename_i wr0
            obtain ⟨j, hj, rfl, rfl, HF, HW⟩ := hrel
            have HBW := Lib.hid (B0.out.trans (HW.out.mono B0.out.size))
            have y1 := on_some HBW.out HS1.out
            have y2 := on_some HBW.out HS2.out
            by_cases hjt : j < m
            · have hjz : (j : Int) < (m : Int) := by omega
              obtain ⟨a, ha⟩ : ∃ a, L[j]? = some a := ⟨_, List.getElem?_eq_getElem (by have := hm1.out; omega)⟩
              obtain ⟨b, hb⟩ : ∃ b, M[j]? = some b := ⟨_, List.getElem?_eq_getElem (by have := hm2.out; omega)⟩
              obtain ⟨pa, oa, rfl, _, hca⟩ := HC1.out (by rintro rfl; simp at ha)
              obtain ⟨ta0, ta1, ta2, ta3, ta4, ta5, ta6, ta7, ta8, ta9, ta10, ta11⟩ := ((hca j a ha).on HBW.out).out
              clear hca
              obtain ⟨pb, ob, rfl, _, hcb⟩ := HC2.out (by rintro rfl; simp at hb)
              obtain ⟨tb0, tb1, tb2, tb3, tb4, tb5, tb6, tb7, tb8, tb9, tb10, tb11⟩ := ((hcb j b hb).on HBW.out).out
              clear hcb
              have HKA := Lib.hid ha
              have HKB := Lib.hid hb
              clear ha hb
              cases hq : eqR a b with
              | true =>
                have HQ : Hid (a = b) := eqR_iff.1 hq
                go_wp2_with fail
                go_quiet (fail)
                have HW2 := Lib.hid (bldrewN HW.out nq)
                go_wp2
                go_roundg (m - (j + 1))
                case measure => omega
                case rel =>
                  refine ⟨j + 1, by omega, rfl, by go_num, (fun i hi => ?_), HW2.out⟩
                  by_cases e : i = j
                  · subst e; rw [HKA.out, HKB.out, HQ.out]
                  · exact HF.out i (by omega)
              | false =>
                have HQ : Hid (x = false) := BAD.out fun e => by
                  have e2 := HKL.out
                  rw [e, HKM.out] at e2
                  injection e2 with e2
                  have e3 := HKA.out
                  rw [← e2, HKB.out] at e3
                  injection e3 with e3
                  rw [eqR_iff.2 e3.symm] at hq
                  cases hq
                go_wp2_with fail
                go_quiet (fail)
                have HW2 := Lib.hid (bldrewN HBW.out nq)
                go_wp2
                go_ret
                exact ⟨by rw [HQ.out]; rfl, HW2.out⟩
            · have hjz : ¬ (j : Int) < (m : Int) := by omega
              have HLM2 : Hid (L = M) := List.ext_getElem? fun i => by
                by_cases hi : i < j
                · exact HF.out i hi
                · rw [List.getElem?_eq_none (by have := hm1.out; omega), List.getElem?_eq_none (by have := hm2.out; omega)]
              go_wp2
              go_roundg (n - (k + 1))
              case measure => omega
              case rel =>
                refine ⟨k + 1, by omega, rfl, by go_num, (fun i hi => ?_), HW.out⟩
                by_cases e : i = k
                · subst e; rw [HKL.out, HKM.out, HLM2.out]
                · exact HE.out i (by omega)
        · have hne : ((L.length : Int) != (M.length : Int)) = true := by rw [bne_iff_ne]; omega
          have HLN := Lib.hid hlm
          have HQ : Hid (x = false) := BAD.out fun e => by
            have e2 := HKL.out
            rw [e, HKM.out] at e2
            injection e2 with e2
            exact HLN.out (congrArg List.length e2.symm)
          clear hlm
          go_wp2_with fail
          go_quiet (fail)
          have HW2 := Lib.hid (bldrewN HBW.out nq)
          go_wp2
          go_ret
          exact ⟨by rw [HQ.out]; rfl, HW2.out⟩
      · have hltz : ¬ (k : Int) < (n : Int) := by omega
        have HQ : Hid (x = true) := HX.out.2 (List.ext_getElem? fun j => by
          by_cases hj : j < k
          · exact HE.out j hj
          · rw [List.getElem?_eq_none (by have := hn1.out; omega), List.getElem?_eq_none (by have := hn2.out; omega)])
        go_wp2
        go_ret
        exact ⟨by rw [HQ.out]; rfl, B0.out.trans (HW.out.mono B0.out.size)⟩
  · have hne : ((T.length : Int) != (S.length : Int)) = true := by rw [bne_iff_ne]; omega
    have HQ : Hid (x = false) := BAD.out fun e => hl (congrArg List.length e)
    have hlz : ¬ (T.length : Int) = (S.length : Int) := by omega
    clear hl
    go_wp2
    go_ret
    exact ⟨by rw [HQ.out]; rfl, B0.out⟩
end Go.Proofs

namespace Go.Proofs
open Go.RowKit Go.Proofs.Hd Go.Lib
attribute [local go_sem high] run_eqA run_eqW
theorem sizePol : (Try.prog.info? 28).map (·.size) = some 3 := by kernel_rfl
set_option maxRecDepth 100000 in
set_option maxHeartbeats 4000000 in
theorem rsame_c (x : Bool) (tv pv wv bv : Value) (T : List (List Pt)) (ten : Int) (P : List (Int × Int)) (Q : List Wa) (BB : List (List (List Rl))) (tv2 pv2 wv2 bv2 : Value) (T2 : List (List Pt)) (ten2 : Int) (P2 : List (Int × Int)) (Q2 : List Wa) (BB2 : List (List (List Rl))) (w : World)
    (hT : PsT w tv T) (hP : Pe w pv P) (hQ : Wy w wv Q) (hB : RuQ w bv BB) (hT2 : PsT w tv2 T2) (hP2 : Pe w pv2 P2) (hQ2 : Wy w wv2 Q2) (hB2 : RuQ w bv2 BB2) (hx : x = true ↔ T = T2 ∧ ten = ten2 ∧ P = P2 ∧ Q = Q2 ∧ BB = BB2) :
    Calls Try.prog 23 #[.agg #[tv, .int .i64 ten, pv, wv, bv], .agg #[tv2, .int .i64 ten2, pv2, wv2, bv2]] w fun e w' => e = .returned (.bool x) ∧ Below w.heap.size w w' := by
  have HT := Lib.hid hT
  have HT2 := Lib.hid hT2
  obtain ⟨A, cap, rfl, -, -⟩ := hT
  obtain ⟨pA, pc, rfl, hpm, hPA⟩ := hP
  obtain ⟨wA, wcp, rfl, hwm, hWA⟩ := hQ
  obtain ⟨bA, bc, rfl, hbm, hBA⟩ := hB
  obtain ⟨A2, cap2, rfl, -, -⟩ := hT2
  obtain ⟨pA2, pc2, rfl, -, hPA2⟩ := hP2
  obtain ⟨wA2, wc2, rfl, -, hWA2⟩ := hQ2
  obtain ⟨bA2, bc2, rfl, -, hBA2⟩ := hB2
  have HPA := Lib.hid hPA
  have HWA := Lib.hid hWA
  have HBA := Lib.hid hBA
  have HPA2 := Lib.hid hPA2
  have HWA2 := Lib.hid hWA2
  have HBA2 := Lib.hid hBA2
  have hpz : (P.length : Int) ≤ 9223372036854775807 := by unfold maxLen at hpm; omega
  have hwz : (Q.length : Int) ≤ 9223372036854775807 := by unfold maxLen at hwm; omega
  have hbz : (BB.length : Int) ≤ 9223372036854775807 := by unfold maxLen at hbm; omega
  have HX := Lib.hid hx
  clear hx hpm hwm hbm hPA hWA hBA hPA2 hWA2 hBA2
  have bad : ¬ (T = T2 ∧ ten = ten2 ∧ P = P2 ∧ Q = Q2 ∧ BB = BB2) → x = false := fun h => by
    cases hxx : x with
    | false => rfl
    | true => exact absurd (HX.out.1 hxx) h
  have BAD := Lib.hid bad
  clear bad
  have B0 : Hid (Below w.heap.size w ((w.alloc (.cells #[.slice A T.length cap, .int .i64 ten, .slice pA P.length pc, .slice wA Q.length wcp, .slice bA BB.length bc] 31)).alloc (.cells #[.slice A2 T2.length cap2, .int .i64 ten2, .slice pA2 P2.length pc2, .slice wA2 Q2.length wc2, .slice bA2 BB2.length bc2] 31))) := below2 w _ _
  have N0 : Hid (Blk ((w.alloc (.cells #[.slice A T.length cap, .int .i64 ten, .slice pA P.length pc, .slice wA Q.length wcp, .slice bA BB.length bc] 31)).alloc (.cells #[.slice A2 T2.length cap2, .int .i64 ten2, .slice pA2 P2.length pc2, .slice wA2 Q2.length wc2, .slice bA2 BB2.length bc2] 31)) w.heap.size 31 #[.slice A T.length cap, .int .i64 ten, .slice pA P.length pc, .slice wA Q.length wcp, .slice bA BB.length bc]) := (Blk.new w _ _).on (below1 _ _)
  have M0 : Hid (Blk ((w.alloc (.cells #[.slice A T.length cap, .int .i64 ten, .slice pA P.length pc, .slice wA Q.length wcp, .slice bA BB.length bc] 31)).alloc (.cells #[.slice A2 T2.length cap2, .int .i64 ten2, .slice pA2 P2.length pc2, .slice wA2 Q2.length wc2, .slice bA2 BB2.length bc2] 31)) (w.heap.size + 1) 31 #[.slice A2 T2.length cap2, .int .i64 ten2, .slice pA2 P2.length pc2, .slice wA2 Q2.length wc2, .slice bA2 BB2.length bc2]) := Blk.new2 w _ _ _
  go_enter Try.func23, Try.ntmps23
  go_upto_region 1 with (fail)
  generalize ((w.alloc (.cells #[.slice A T.length cap, .int .i64 ten, .slice pA P.length pc, .slice wA Q.length wcp, .slice bA BB.length bc] 31)).alloc (.cells #[.slice A2 T2.length cap2, .int .i64 ten2, .slice pA2 P2.length pc2, .slice wA2 Q2.length wc2, .slice bA2 BB2.length bc2] 31)) = w0 at B0 N0 M0 ⊢
  go_cut [5, 6] (fun i o wc => ∃ b5 b6 : Nat, i = .pointer (some ⟨b5, 0, none⟩) ∧ o = .pointer (some ⟨b6, 0, none⟩) ∧ Below w0.heap.size w0 wc ∧ Blk wc b5 28 #[.int .i64 ten, .slice pA P.length pc, .slice wA Q.length wcp] ∧ Blk wc b6 28 #[.int .i64 ten2, .slice pA2 P2.length pc2, .slice wA2 Q2.length wc2])
  case first =>
    have KP : ∀ W, Below w0.heap.size w0 W → (Below w0.heap.size w0 W ∧ W.cell? ⟨w.heap.size, 1, none⟩ = some (.int .i64 ten) ∧ W.cell? ⟨w.heap.size, 2, none⟩ = some (.slice pA P.length pc) ∧ W.cell? ⟨w.heap.size, 3, none⟩ = some (.slice wA Q.length wcp) ∧ W.cell? ⟨w.heap.size + 1, 1, none⟩ = some (.int .i64 ten2) ∧ W.cell? ⟨w.heap.size + 1, 2, none⟩ = some (.slice pA2 P2.length pc2) ∧ W.cell? ⟨w.heap.size + 1, 3, none⟩ = some (.slice wA2 Q2.length wc2)) := fun W hb => ⟨hb, (N0.out.on hb).five.2.1, (N0.out.on hb).five.2.2.1, (N0.out.on hb).five.2.2.2.1, (M0.out.on hb).five.2.1, (M0.out.on hb).five.2.2.1, (M0.out.on hb).five.2.2.2.1⟩
    have HKP := Lib.hid KP
    clear KP
    refine wp_region_held_drew (S := fun w' => Below w0.heap.size w0 w' ∧ w'.cell? ⟨w.heap.size, 1, none⟩ = some (.int .i64 ten) ∧ w'.cell? ⟨w.heap.size, 2, none⟩ = some (.slice pA P.length pc) ∧ w'.cell? ⟨w.heap.size, 3, none⟩ = some (.slice wA Q.length wcp) ∧ w'.cell? ⟨w.heap.size + 1, 1, none⟩ = some (.int .i64 ten2) ∧ w'.cell? ⟨w.heap.size + 1, 2, none⟩ = some (.slice pA2 P2.length pc2) ∧ w'.cell? ⟨w.heap.size + 1, 3, none⟩ = some (.slice wA2 Q2.length wc2)) (by kernel_rfl) (HKP.out _ (Below.refl _ w0).drew) (fun hHeld => ?_)
    generalize w0.drew = u0 at hHeld ⊢
    refine wpAnyH_take (i := 0) (oi := ⟨some 10, _, _, _, _, _⟩) (v := ?vfp0) rfl (by kernel_rfl) (by kernel_rfl) (by kernel_rfl) (fun _ _ _ h => h) (Or.inl ⟨by rfl, ?yfp0⟩) hHeld ?rfp0
    case yfp0 => (intro w' hSw; (try dsimp only at hSw); go_simp; try (with_reducible rfl))
    simp only [Act.put, List.setIfInBounds_toArray, List.set_cons_zero, List.set_cons_succ]
    refine wpAnyH_take (i := 1) (oi := ⟨some 11, _, _, _, _, _⟩) (v := ?vfp1) rfl (by kernel_rfl) (by kernel_rfl) (by kernel_rfl) (fun _ _ _ h => h) (Or.inl ⟨by rfl, ?yfp1⟩) hHeld ?rfp1
    case yfp1 => (intro w' hSw; (try dsimp only at hSw); go_simp; try (with_reducible rfl))
    simp only [Act.put, List.setIfInBounds_toArray, List.set_cons_zero, List.set_cons_succ]
    refine wpAnyH_take (i := 2) (oi := ⟨some 12, _, _, _, _, _⟩) (v := ?vfp2) rfl (by kernel_rfl) (by kernel_rfl) (by kernel_rfl) (fun _ _ _ h => h) (Or.inl ⟨by rfl, ?yfp2⟩) hHeld ?rfp2
    case yfp2 => (intro w' hSw; (try dsimp only at hSw); go_simp; try (with_reducible rfl))
    simp only [Act.put, List.setIfInBounds_toArray, List.set_cons_zero, List.set_cons_succ]
    refine wpAnyH_take (i := 3) (oi := ⟨some 13, _, _, _, _, _⟩) (v := ?vfp3) rfl (by kernel_rfl) (by kernel_rfl) (by kernel_rfl) (fun _ _ _ h => h) (Or.inl ⟨by rfl, ?yfp3⟩) hHeld ?rfp3
    case yfp3 => (intro w' hSw; (try dsimp only at hSw); go_simp; try (with_reducible rfl))
    simp only [Act.put, List.setIfInBounds_toArray, List.set_cons_zero, List.set_cons_succ]
    refine wpAnyH_ready (rs := [4, 5]) (by kernel_rfl) (by simp) ?_
    refine AllReadyH.cons (o := ⟨some 5, _, _, _, _, _⟩) rfl (fun K hK => ?_) ?_
    · go_simp
      have hb := below1 u0 (.cells #[.int .i64 0, .slice none 0 0, .slice none 0 0] 28)
      refine hK.out _ _ (HKP.out _ (hHeld.1.trans (hb.mono hHeld.1.size))) (fun hNext => ?_)
      have t4 : Nb w0.heap.size (u0.alloc (.cells #[.int .i64 0, .slice none 0 0, .slice none 0 0] 28)) u0.heap.size 28 #[.int .i64 0, .slice none 0 0, .slice none 0 0] := Nb.top u0 hHeld.1.size
      clear hK K hHeld hb
      have hHeld := hNext
      clear hNext
      generalize hgen : (u0.alloc (.cells #[.int .i64 0, .slice none 0 0, .slice none 0 0] 28)) = u1 at hHeld t4 ⊢
      clear hgen
      generalize hgen : u0.heap.size = b4_1 at t4  ⊢
      clear hgen
      try simp only [Act.put, List.setIfInBounds_toArray, List.set_cons_zero, List.set_cons_succ]
      refine wpAnyH_ready (rs := [5]) (by kernel_rfl) (by simp) ?_
      refine AllReadyH.cons (o := ⟨some 6, _, _, _, _, _⟩) rfl (fun K hK => ?_) AllReadyH.nil
      go_simp
      have hb := below1 u1 (.cells #[.int .i64 0, .slice none 0 0, .slice none 0 0] 28)
      refine hK.out _ _ (HKP.out _ (hHeld.1.trans (hb.mono hHeld.1.size))) (fun hNext => ?_)
      have t5 : Nb w0.heap.size (u1.alloc (.cells #[.int .i64 0, .slice none 0 0, .slice none 0 0] 28)) u1.heap.size 28 #[.int .i64 0, .slice none 0 0, .slice none 0 0] := Nb.top u1 hHeld.1.size
      have ne5_4 : u1.heap.size ≠ b4_1 := t4.ne.symm
      have ne4_5 : b4_1 ≠ u1.heap.size := t4.ne
      replace t4 := t4.on hb
      clear hK K hHeld hb
      have hHeld := hNext
      clear hNext
      generalize hgen : (u1.alloc (.cells #[.int .i64 0, .slice none 0 0, .slice none 0 0] 28)) = u2 at hHeld t4 t5 ⊢
      clear hgen
      generalize hgen : u1.heap.size = b5_2 at t5 ne5_4 ne4_5 ⊢
      clear hgen
      try simp only [Act.put, List.setIfInBounds_toArray, List.set_cons_zero, List.set_cons_succ]
      refine wpAnyH_ready (rs := [6]) (by kernel_rfl) (by simp) ?_
      refine AllReadyH.cons (o := ⟨none, _, _, _, _, _⟩) rfl (fun K hK => ?_) AllReadyH.nil
      rw [if_pos (by rfl)]
      refine wp_store_mid 28 _ _ rfl b4_1 0 #[.int .i64 ten, .slice pA P.length pc, .slice wA Q.length wcp] rfl rfl t4.there sizePol (by simp [Value.oneCell']) ?_
      (try dsimp only)
      refine hK.out _ _ (HKP.out _ (Below.setCells _ _ _ hHeld.1 t4.2)) (fun hNext => ?_)
      clear hK K hHeld
      have hHeld := hNext
      clear hNext
      replace t5 := t5.far ne4_5 [.int .i64 ten, .slice pA P.length pc, .slice wA Q.length wcp]
      replace t4 := t4.put [.int .i64 ten, .slice pA P.length pc, .slice wA Q.length wcp] rfl
      generalize (World.setCells u2 b4_1 0 [.int .i64 ten, .slice pA P.length pc, .slice wA Q.length wcp]) = u3 at hHeld t4 t5 ⊢
      try simp only [Act.put]
      refine wpAnyH_ready (rs := [7]) (by kernel_rfl) (by simp) ?_
      refine AllReadyH.cons (o := ⟨none, _, _, _, _, _⟩) rfl (fun K hK => ?_) AllReadyH.nil
      rw [if_pos (by rfl)]
      refine wp_store_mid 28 _ _ rfl b5_2 0 #[.int .i64 ten2, .slice pA2 P2.length pc2, .slice wA2 Q2.length wc2] rfl rfl t5.there sizePol (by simp [Value.oneCell']) ?_
      (try dsimp only)
      refine hK.out _ _ (HKP.out _ (Below.setCells _ _ _ hHeld.1 t5.2)) (fun hNext => ?_)
      clear hK K hHeld
      have hHeld := hNext
      clear hNext
      replace t4 := t4.far ne5_4 [.int .i64 ten2, .slice pA2 P2.length pc2, .slice wA2 Q2.length wc2]
      replace t5 := t5.put [.int .i64 ten2, .slice pA2 P2.length pc2, .slice wA2 Q2.length wc2] rfl
      generalize (World.setCells u3 b5_2 0 [.int .i64 ten2, .slice pA2 P2.length pc2, .slice wA2 Q2.length wc2]) = u4 at hHeld t4 t5 ⊢
      try simp only [Act.put]
      refine wpAnyH_done (by kernel_rfl) ?_ _
      go_wp2_with fail
      go_meet
      exact ⟨_, _, rfl, rfl, hHeld.1, t4.1, t5.1⟩
    refine AllReadyH.cons (o := ⟨some 6, _, _, _, _, _⟩) rfl (fun K hK => ?_) AllReadyH.nil
    go_simp
    have hb := below1 u0 (.cells #[.int .i64 0, .slice none 0 0, .slice none 0 0] 28)
    refine hK.out _ _ (HKP.out _ (hHeld.1.trans (hb.mono hHeld.1.size))) (fun hNext => ?_)
    have t5 : Nb w0.heap.size (u0.alloc (.cells #[.int .i64 0, .slice none 0 0, .slice none 0 0] 28)) u0.heap.size 28 #[.int .i64 0, .slice none 0 0, .slice none 0 0] := Nb.top u0 hHeld.1.size
    clear hK K hHeld hb
    have hHeld := hNext
    clear hNext
    generalize hgen : (u0.alloc (.cells #[.int .i64 0, .slice none 0 0, .slice none 0 0] 28)) = u5 at hHeld t5 ⊢
    clear hgen
    generalize hgen : u0.heap.size = b5_5 at t5  ⊢
    clear hgen
    try simp only [Act.put, List.setIfInBounds_toArray, List.set_cons_zero, List.set_cons_succ]
    refine wpAnyH_ready (rs := [4]) (by kernel_rfl) (by simp) ?_
    refine AllReadyH.cons (o := ⟨some 5, _, _, _, _, _⟩) rfl (fun K hK => ?_) AllReadyH.nil
    go_simp
    have hb := below1 u5 (.cells #[.int .i64 0, .slice none 0 0, .slice none 0 0] 28)
    refine hK.out _ _ (HKP.out _ (hHeld.1.trans (hb.mono hHeld.1.size))) (fun hNext => ?_)
    have t4 : Nb w0.heap.size (u5.alloc (.cells #[.int .i64 0, .slice none 0 0, .slice none 0 0] 28)) u5.heap.size 28 #[.int .i64 0, .slice none 0 0, .slice none 0 0] := Nb.top u5 hHeld.1.size
    have ne4_5 : u5.heap.size ≠ b5_5 := t5.ne.symm
    have ne5_4 : b5_5 ≠ u5.heap.size := t5.ne
    replace t5 := t5.on hb
    clear hK K hHeld hb
    have hHeld := hNext
    clear hNext
    generalize hgen : (u5.alloc (.cells #[.int .i64 0, .slice none 0 0, .slice none 0 0] 28)) = u6 at hHeld t4 t5 ⊢
    clear hgen
    generalize hgen : u5.heap.size = b4_6 at t4 ne4_5 ne5_4 ⊢
    clear hgen
    try simp only [Act.put, List.setIfInBounds_toArray, List.set_cons_zero, List.set_cons_succ]
    refine wpAnyH_ready (rs := [6]) (by kernel_rfl) (by simp) ?_
    refine AllReadyH.cons (o := ⟨none, _, _, _, _, _⟩) rfl (fun K hK => ?_) AllReadyH.nil
    rw [if_pos (by rfl)]
    refine wp_store_mid 28 _ _ rfl b4_6 0 #[.int .i64 ten, .slice pA P.length pc, .slice wA Q.length wcp] rfl rfl t4.there sizePol (by simp [Value.oneCell']) ?_
    (try dsimp only)
    refine hK.out _ _ (HKP.out _ (Below.setCells _ _ _ hHeld.1 t4.2)) (fun hNext => ?_)
    clear hK K hHeld
    have hHeld := hNext
    clear hNext
    replace t5 := t5.far ne4_5 [.int .i64 ten, .slice pA P.length pc, .slice wA Q.length wcp]
    replace t4 := t4.put [.int .i64 ten, .slice pA P.length pc, .slice wA Q.length wcp] rfl
    generalize (World.setCells u6 b4_6 0 [.int .i64 ten, .slice pA P.length pc, .slice wA Q.length wcp]) = u7 at hHeld t4 t5 ⊢
    try simp only [Act.put]
    refine wpAnyH_ready (rs := [7]) (by kernel_rfl) (by simp) ?_
    refine AllReadyH.cons (o := ⟨none, _, _, _, _, _⟩) rfl (fun K hK => ?_) AllReadyH.nil
    rw [if_pos (by rfl)]
    refine wp_store_mid 28 _ _ rfl b5_5 0 #[.int .i64 ten2, .slice pA2 P2.length pc2, .slice wA2 Q2.length wc2] rfl rfl t5.there sizePol (by simp [Value.oneCell']) ?_
    (try dsimp only)
    refine hK.out _ _ (HKP.out _ (Below.setCells _ _ _ hHeld.1 t5.2)) (fun hNext => ?_)
    clear hK K hHeld
    have hHeld := hNext
    clear hNext
    replace t4 := t4.far ne5_4 [.int .i64 ten2, .slice pA2 P2.length pc2, .slice wA2 Q2.length wc2]
    replace t5 := t5.put [.int .i64 ten2, .slice pA2 P2.length pc2, .slice wA2 Q2.length wc2] rfl
    generalize (World.setCells u7 b5_5 0 [.int .i64 ten2, .slice pA2 P2.length pc2, .slice wA2 Q2.length wc2]) = u8 at hHeld t4 t5 ⊢
    try simp only [Act.put]
    refine wpAnyH_done (by kernel_rfl) ?_ _
    go_wp2_with fail
    go_meet
    exact ⟨_, _, rfl, rfl, hHeld.1, t4.1, t5.1⟩
  case rest =>
    obtain ⟨b5, b6, rfl, rfl, b1, k5, k6⟩ := hcut
    have B1 := Lib.hid (B0.out.trans (b1.mono B0.out.size))
    have N1 := Lib.hid (N0.out.on b1)
    have M1 := Lib.hid (M0.out.on b1)
    have K1 := Lib.hid k5
    have L1 := Lib.hid k6
    obtain ⟨f0, f1, f2⟩ := k5.three
    obtain ⟨g0, g1, g2⟩ := k6.three
    obtain ⟨d0, d1, d2, d3, d4⟩ := N1.out.five
    obtain ⟨e0, e1, e2, e3, e4⟩ := M1.out.five
    clear b1 k5 k6 B0 N0 M0 d1 d2 d3 e1 e2 e3
    by_cases h0 : T = T2
    · have hq0 := Lib.hid h0
      clear h0
      go_wp2_with fail
      (with_reducible refine (rports_c true _ _ T T2 _ (HT.out.on B1.out) (HT2.out.on B1.out) ⟨fun _ => hq0.out, fun _ => rfl⟩).mono ?_)
      rintro e w3 ⟨rfl, hb⟩
      have B3 := Lib.hid (B1.out.trans (hb.mono B1.out.size))
      have N3 := Lib.hid (N1.out.on hb)
      have M3 := Lib.hid (M1.out.on hb)
      have K3 := Lib.hid (K1.out.on hb)
      have L3 := Lib.hid (L1.out.on hb)
      clear d0 d4 e0 e4 f0 f1 f2 g0 g1 g2 hb B1 N1 M1 K1 L1
      obtain ⟨f0, f1, f2⟩ := K3.out.three
      obtain ⟨g0, g1, g2⟩ := L3.out.three
      obtain ⟨d0, d1, d2, d3, d4⟩ := N3.out.five
      obtain ⟨e0, e1, e2, e3, e4⟩ := M3.out.five
      clear d0 d1 d2 d3 e0 e1 e2 e3
      by_cases h1 : ten = ten2
      · have hq1 := Lib.hid h1
        have tq : (ten != ten2) = false := by simp [h1]
        clear h1
        by_cases h2 : P.length = P2.length
        · have ne2 : ((P.length : Int) != (P2.length : Int)) = false := by rw [h2]; simp
          have hq2 := Lib.hid h2
          clear h2
          by_cases h3 : Q.length = Q2.length
          · have ne3 : ((Q.length : Int) != (Q2.length : Int)) = false := by rw [h3]; simp
            have hq3 := Lib.hid h3
            clear h3
            by_cases h4 : BB.length = BB2.length
            · have ne4 : ((BB.length : Int) != (BB2.length : Int)) = false := by rw [h4]; simp
              have hq4 := Lib.hid h4
              clear h4
              go_wp2
              clear d4 e4 f0 f1 f2 g0 g1 g2 ne2 ne3 ne4 tq
              go_loopg [7] P.length (fun gk s7 wr => ∃ k : Nat, k ≤ P.length ∧ gk = P.length - k ∧ s7 = .int .i64 k ∧ Hid (∀ j, j < k → P[j]? = P2[j]?) ∧ Hid (Below w3.heap.size w3 wr))
              case atStart => exact ⟨0, Nat.zero_le _, rfl, rfl, fun j hj => absurd hj (Nat.not_lt_zero _), Below.refl _ _⟩
              case round =>
                obtain ⟨k, hk, rfl, rfl, HE1, HW⟩ := hrel
                have HBW := Lib.hid (B3.out.trans (HW.out.mono B3.out.size))
                obtain ⟨f0, f1, f2⟩ := (K3.out.on HW.out).three
                obtain ⟨g0, g1, g2⟩ := (L3.out.on HW.out).three
                obtain ⟨d0, d1, d2, d3, d4⟩ := (N3.out.on HW.out).five
                obtain ⟨e0, e1, e2, e3, e4⟩ := (M3.out.on HW.out).five
                clear d0 d1 d2 d3 e0 e1 e2 e3
                by_cases hlt : k < P.length
                · have hltz : (k : Int) < (P.length : Int) := by omega
                  have hlt2 : k < P2.length := by have := hq2.out; omega
                  have hlt2z : (k : Int) < (P2.length : Int) := by omega
                  obtain ⟨a, ha⟩ : ∃ a, P[k]? = some a := ⟨_, List.getElem?_eq_getElem hlt⟩
                  obtain ⟨b, hb⟩ : ∃ b, P2[k]? = some b := ⟨_, List.getElem?_eq_getElem hlt2⟩
                  obtain ⟨ab, ao, rfl, _, hac⟩ := HPA.out (by rintro rfl; simp at ha)
                  obtain ⟨bb, bo, rfl, _, hbc⟩ := HPA2.out (by rintro rfl; simp at hb)
                  have HKA := Lib.hid ha
                  have HKB := Lib.hid hb
                  have ta0 := on_some HBW.out (hac k a ha).1
                  have ta1 := on_some HBW.out (hac k a ha).2
                  obtain ⟨a0, a1⟩ := a
                  simp only at ta0 ta1
                  have tb0 := on_some HBW.out (hbc k b hb).1
                  have tb1 := on_some HBW.out (hbc k b hb).2
                  obtain ⟨b0, b1⟩ := b
                  simp only at tb0 tb1
                  clear hac hbc ha hb
                  cases hq : eqA (a0, a1) (b0, b1) with
                  | true =>
                    have HQ : Hid (((a0, a1) : Int × Int) = (b0, b1)) := eqA_iff.1 hq
                    go_wp2_with fail
                    go_quiet (fail)
                    have HW2 := Lib.hid (bldrewN HW.out nq)
                    go_wp2
                    go_roundg (P.length - (k + 1))
                    case measure => omega
                    case rel =>
                      refine ⟨k + 1, by omega, rfl, by go_num, (fun j hj => ?_), HW2.out⟩
                      by_cases e : j = k
                      · subst e; rw [HKA.out, HKB.out, HQ.out]
                      · exact HE1.out j (by omega)
                  | false =>
                    have HQ : Hid (x = false) := BAD.out fun e => by
                      have e2 := HKA.out
                      rw [e.2.2.1, HKB.out] at e2
                      injection e2 with e2
                      rw [eqA_iff.2 e2.symm] at hq
                      cases hq
                    go_wp2_with fail
                    go_quiet (fail)
                    have HW2 := Lib.hid (bldrewN HBW.out nq)
                    go_wp2
                    go_ret
                    exact ⟨by rw [HQ.out]; rfl, HW2.out⟩
                · have hltz : ¬ (k : Int) < (P.length : Int) := by omega
                  have HPE : Hid (P = P2) := List.ext_getElem? fun j => by
                    by_cases hj : j < k
                    · exact HE1.out j hj
                    · rw [List.getElem?_eq_none (by omega), List.getElem?_eq_none (by have := hq2.out; omega)]
                  clear HBW
                  go_wp2
                  clear d4 e4 f0 f1 f2 g0 g1 g2
                  go_loopg [8] Q.length (fun gk s8 wr => ∃ k : Nat, k ≤ Q.length ∧ gk = Q.length - k ∧ s8 = .int .i64 k ∧ Hid (∀ j, j < k → Q[j]? = Q2[j]?) ∧ Hid (Below w3.heap.size w3 wr))
                  case atStart => exact ⟨0, Nat.zero_le _, rfl, rfl, fun j hj => absurd hj (Nat.not_lt_zero _), HW⟩
                  case round =>
                    clear HW HE1
                    rename_i wr0
                    obtain ⟨k, hk, rfl, rfl, HE1, HW⟩ := hrel
                    have HBW := Lib.hid (B3.out.trans (HW.out.mono B3.out.size))
                    obtain ⟨f0, f1, f2⟩ := (K3.out.on HW.out).three
                    obtain ⟨g0, g1, g2⟩ := (L3.out.on HW.out).three
                    obtain ⟨d0, d1, d2, d3, d4⟩ := (N3.out.on HW.out).five
                    obtain ⟨e0, e1, e2, e3, e4⟩ := (M3.out.on HW.out).five
                    clear d0 d1 d2 d3 e0 e1 e2 e3
                    by_cases hlt : k < Q.length
                    · have hltz : (k : Int) < (Q.length : Int) := by omega
                      have hlt2 : k < Q2.length := by have := hq3.out; omega
                      have hlt2z : (k : Int) < (Q2.length : Int) := by omega
                      obtain ⟨a, ha⟩ : ∃ a, Q[k]? = some a := ⟨_, List.getElem?_eq_getElem hlt⟩
                      obtain ⟨b, hb⟩ : ∃ b, Q2[k]? = some b := ⟨_, List.getElem?_eq_getElem hlt2⟩
                      obtain ⟨ab, ao, rfl, _, hac⟩ := HWA.out (by rintro rfl; simp at ha)
                      obtain ⟨bb, bo, rfl, _, hbc⟩ := HWA2.out (by rintro rfl; simp at hb)
                      have HKA := Lib.hid ha
                      have HKB := Lib.hid hb
                      have ta0 := on_some HBW.out (hac k a ha).1
                      have ta1 := on_some HBW.out (hac k a ha).2.1
                      have ta2 := on_some HBW.out (hac k a ha).2.2
                      obtain ⟨a0, a1, a2⟩ := a
                      simp only at ta0 ta1 ta2
                      have tb0 := on_some HBW.out (hbc k b hb).1
                      have tb1 := on_some HBW.out (hbc k b hb).2.1
                      have tb2 := on_some HBW.out (hbc k b hb).2.2
                      obtain ⟨b0, b1, b2⟩ := b
                      simp only at tb0 tb1 tb2
                      clear hac hbc ha hb
                      cases hq : eqW ⟨a0, a1, a2⟩ ⟨b0, b1, b2⟩ with
                      | true =>
                        have HQ : Hid ((⟨a0, a1, a2⟩ : Wa) = ⟨b0, b1, b2⟩) := eqW_iff.1 hq
                        go_wp2_with fail
                        go_quiet (fail)
                        have HW2 := Lib.hid (bldrewN HW.out nq)
                        go_wp2
                        go_roundg (Q.length - (k + 1))
                        case measure => omega
                        case rel =>
                          refine ⟨k + 1, by omega, rfl, by go_num, (fun j hj => ?_), HW2.out⟩
                          by_cases e : j = k
                          · subst e; rw [HKA.out, HKB.out, HQ.out]
                          · exact HE1.out j (by omega)
                      | false =>
                        have HQ : Hid (x = false) := BAD.out fun e => by
                          have e2 := HKA.out
                          rw [e.2.2.2.1, HKB.out] at e2
                          injection e2 with e2
                          rw [eqW_iff.2 e2.symm] at hq
                          cases hq
                        go_wp2_with fail
                        go_quiet (fail)
                        have HW2 := Lib.hid (bldrewN HBW.out nq)
                        go_wp2
                        go_ret
                        exact ⟨by rw [HQ.out]; rfl, HW2.out⟩
                    · have hltz : ¬ (k : Int) < (Q.length : Int) := by omega
                      have HQE : Hid (Q = Q2) := List.ext_getElem? fun j => by
                        by_cases hj : j < k
                        · exact HE1.out j hj
                        · rw [List.getElem?_eq_none (by omega), List.getElem?_eq_none (by have := hq3.out; omega)]
                      clear HBW
                      go_wp2
                      clear d4 e4 f0 f1 f2 g0 g1 g2
                      go_loopg [9] BB.length (fun gk s9 wr => ∃ k : Nat, k ≤ BB.length ∧ gk = BB.length - k ∧ s9 = .int .i64 k ∧ Hid (∀ j, j < k → BB[j]? = BB2[j]?) ∧ Hid (Below w3.heap.size w3 wr))
                      case atStart => exact ⟨0, Nat.zero_le _, rfl, rfl, fun j hj => absurd hj (Nat.not_lt_zero _), HW⟩
                      case round =>
                        clear HW HE1
                        rename_i wr0
                        obtain ⟨k, hk, rfl, rfl, HE1, HW⟩ := hrel
                        have HBW := Lib.hid (B3.out.trans (HW.out.mono B3.out.size))
                        obtain ⟨d0, d1, d2, d3, d4⟩ := (N3.out.on HW.out).five
                        obtain ⟨e0, e1, e2, e3, e4⟩ := (M3.out.on HW.out).five
                        clear d0 d1 d2 d3 e0 e1 e2 e3
                        by_cases hlt : k < BB.length
                        · have hltz : (k : Int) < (BB.length : Int) := by omega
                          have hlt2 : k < BB2.length := by have := hq4.out; omega
                          have hlt2z : (k : Int) < (BB2.length : Int) := by omega
                          obtain ⟨a, ha⟩ : ∃ a, BB[k]? = some a := ⟨_, List.getElem?_eq_getElem hlt⟩
                          obtain ⟨b, hb⟩ : ∃ b, BB2[k]? = some b := ⟨_, List.getElem?_eq_getElem hlt2⟩
                          obtain ⟨ab, ao, rfl, _, hac⟩ := HBA.out (by rintro rfl; simp at ha)
                          obtain ⟨bb, bo, rfl, _, hbc⟩ := HBA2.out (by rintro rfl; simp at hb)
                          obtain ⟨s1, hs1, hR1⟩ := hac k a ha
                          obtain ⟨s2, hs2, hR2⟩ := hbc k b hb
                          have HR1 := Lib.hid hR1
                          have HR2 := Lib.hid hR2
                          obtain ⟨A1, c1, rfl, -⟩ := hR1
                          obtain ⟨A3, c3, rfl, -⟩ := hR2
                          have y1 := on_some HBW.out hs1
                          have y2 := on_some HBW.out hs2
                          have HKA := Lib.hid ha
                          have HKB := Lib.hid hb
                          have KP : ∀ W, Below wr.heap.size wr W → (Below wr.heap.size wr W ∧ W.cell? ⟨w.heap.size, 4, none⟩ = some (.slice (some ⟨ab, ao, none⟩) BB.length bc) ∧ W.cell? ⟨w.heap.size + 1, 4, none⟩ = some (.slice (some ⟨bb, bo, none⟩) BB2.length bc2) ∧ W.cell? ⟨ab, ao + k, none⟩ = some (.slice A1 a.length c1) ∧ W.cell? ⟨bb, bo + k, none⟩ = some (.slice A3 b.length c3)) := fun W hb => ⟨hb, on_some hb d4, on_some hb e4, on_some hb y1, on_some hb y2⟩
                          have HKP := Lib.hid KP
                          clear KP hac hbc ha hb hs1 hs2
                          by_cases hab : a = b
                          · have HAB := Lib.hid hab
                            clear hab
                            go_upto_region 17 with (fail)
                            refine wp_region_held_drew (S := fun w' => Below wr.heap.size wr w' ∧ w'.cell? ⟨w.heap.size, 4, none⟩ = some (.slice (some ⟨ab, ao, none⟩) BB.length bc) ∧ w'.cell? ⟨w.heap.size + 1, 4, none⟩ = some (.slice (some ⟨bb, bo, none⟩) BB2.length bc2) ∧ w'.cell? ⟨ab, ao + k, none⟩ = some (.slice A1 a.length c1) ∧ w'.cell? ⟨bb, bo + k, none⟩ = some (.slice A3 b.length c3)) (by kernel_rfl) (HKP.out _ (Below.refl _ wr).drew) (fun hHeld => ?_)
                            refine wpAnyH_take (i := 0) (oi := ⟨some 97, _, _, _, _, _⟩) (v := ?vta0) rfl (by kernel_rfl) (by kernel_rfl) (by kernel_rfl) (fun _ _ _ h => h) (Or.inl ⟨by rfl, ?yta0⟩) hHeld ?rta0
                            case yta0 => (intro w' hSw; (try dsimp only at hSw); go_simp; try (with_reducible rfl))
                            simp only [Act.put, List.setIfInBounds_toArray, List.set_cons_zero, List.set_cons_succ]
                            refine wpAnyH_take (i := 1) (oi := ⟨some 98, _, _, _, _, _⟩) (v := ?vta1) rfl (by kernel_rfl) (by kernel_rfl) (by kernel_rfl) (fun _ _ _ h => h) (Or.inl ⟨by rfl, ?yta1⟩) hHeld ?rta1
                            case yta1 => (intro w' hSw; (try dsimp only at hSw); go_simp; try (with_reducible rfl))
                            simp only [Act.put, List.setIfInBounds_toArray, List.set_cons_zero, List.set_cons_succ]
                            refine wpAnyH_take (i := 2) (oi := ⟨some 99, _, _, _, _, _⟩) (v := ?vta2) rfl (by kernel_rfl) (by kernel_rfl) (by kernel_rfl) (fun _ _ _ h => h) (Or.inl ⟨by rfl, ?yta2⟩) hHeld ?rta2
                            case yta2 => (intro w' hSw; (try dsimp only at hSw); go_simp; try (with_reducible rfl))
                            simp only [Act.put, List.setIfInBounds_toArray, List.set_cons_zero, List.set_cons_succ]
                            refine wpAnyH_take (i := 3) (oi := ⟨some 100, _, _, _, _, _⟩) (v := ?vta3) rfl (by kernel_rfl) (by kernel_rfl) (by kernel_rfl) (fun _ _ _ h => h) (Or.inl ⟨by rfl, ?yta3⟩) hHeld ?rta3
                            case yta3 => (intro w' hSw; (try dsimp only at hSw); go_simp; try (with_reducible rfl))
                            simp only [Act.put, List.setIfInBounds_toArray, List.set_cons_zero, List.set_cons_succ]
                            refine wpAnyH_take (i := 4) (oi := ⟨some 101, _, _, _, _, _⟩) (v := ?vta4) rfl (by kernel_rfl) (by kernel_rfl) (by kernel_rfl) (fun _ _ _ h => h) (Or.inl ⟨by rfl, ?yta4⟩) hHeld ?rta4
                            case yta4 => (intro w' hSw; (try dsimp only at hSw); go_simp; try (with_reducible rfl))
                            simp only [Act.put, List.setIfInBounds_toArray, List.set_cons_zero, List.set_cons_succ]
                            refine wpAnyH_take (i := 5) (oi := ⟨some 102, _, _, _, _, _⟩) (v := ?vta5) rfl (by kernel_rfl) (by kernel_rfl) (by kernel_rfl) (fun _ _ _ h => h) (Or.inl ⟨by rfl, ?yta5⟩) hHeld ?rta5
                            case yta5 => (intro w' hSw; (try dsimp only at hSw); go_simp; try (with_reducible rfl))
                            simp only [Act.put, List.setIfInBounds_toArray, List.set_cons_zero, List.set_cons_succ]
                            refine wpAnyH_take (i := 6) (oi := ⟨some 103, _, _, _, _, _⟩) (v := ?vta6) rfl (by kernel_rfl) (by kernel_rfl) (by kernel_rfl) (fun _ _ _ h => h) (Or.inl ⟨by rfl, ?yta6⟩) hHeld ?rta6
                            case yta6 => (intro w' hSw; (try dsimp only at hSw); go_simp; try (with_reducible rfl))
                            simp only [Act.put, List.setIfInBounds_toArray, List.set_cons_zero, List.set_cons_succ]
                            refine wpAnyH_take (i := 7) (oi := ⟨some 104, _, _, _, _, _⟩) (v := ?vta7) rfl (by kernel_rfl) (by kernel_rfl) (by kernel_rfl) (fun _ _ _ h => h) (Or.inl ⟨by rfl, ?yta7⟩) hHeld ?rta7
                            case yta7 => (intro w' hSw; (try dsimp only at hSw); go_simp; try (with_reducible rfl))
                            simp only [Act.put, List.setIfInBounds_toArray, List.set_cons_zero, List.set_cons_succ]
                            refine wpAnyH_take (i := 8) (oi := ⟨some 105, _, _, _, _, _⟩) (v := ?vta8) rfl (by kernel_rfl) (by kernel_rfl) (by kernel_rfl) (fun _ _ _ h => h) (Or.inl ⟨by rfl, ?yta8⟩) hHeld ?rta8
                            case yta8 => (intro w' hSw; (try dsimp only at hSw); go_simp; try (with_reducible rfl))
                            simp only [Act.put, List.setIfInBounds_toArray, List.set_cons_zero, List.set_cons_succ]
                            refine wpAnyH_take (i := 9) (oi := ⟨some 106, _, _, _, _, _⟩) (v := ?vta9) rfl (by kernel_rfl) (by kernel_rfl) (by kernel_rfl) (fun _ _ _ h => h) (Or.inl ⟨by rfl, ?yta9⟩) hHeld ?rta9
                            case yta9 => (intro w' hSw; (try dsimp only at hSw); go_simp; try (with_reducible rfl))
                            simp only [Act.put, List.setIfInBounds_toArray, List.set_cons_zero, List.set_cons_succ]
                            refine wpAnyH_ready (rs := [10]) (by kernel_rfl) (by simp) ?_
                            refine AllReadyH.cons (o := ⟨some 107, _, _, _, _, _⟩) rfl (fun K hK => ?_) AllReadyH.nil
                            go_simp
                            (with_reducible refine (rrules_c true _ _ a b _ (HR1.out.on (HBW.out.trans (hHeld.1.mono HBW.out.size))) (HR2.out.on (HBW.out.trans (hHeld.1.mono HBW.out.size))) ⟨fun _ => HAB.out, fun _ => rfl⟩).mono ?_)
                            rintro e w5 ⟨rfl, hb⟩
                            (try dsimp only)
                            refine hK.out _ _ (HKP.out _ (hHeld.1.trans (hb.mono hHeld.1.size))) (fun hNext => ?_)
                            clear hK K hHeld
                            have hHeld := hNext
                            clear hNext
                            try simp only [Act.put, List.setIfInBounds_toArray, List.set_cons_zero, List.set_cons_succ]
                            refine wpAnyH_take (i := 11) (oi := ⟨some 108, _, _, _, _, _⟩) (v := ?vta11) rfl (by kernel_rfl) (by kernel_rfl) (by kernel_rfl) (fun _ _ _ h => h) (Or.inl ⟨by rfl, ?yta11⟩) hHeld ?rta11
                            case yta11 => (intro w' hSw; (try dsimp only at hSw); go_simp; try (with_reducible rfl))
                            simp only [Act.put, List.setIfInBounds_toArray, List.set_cons_zero, List.set_cons_succ]
                            refine wpAnyH_done (by kernel_rfl) ?_ _
                            have HW2 := Lib.hid (HW.out.trans (hHeld.1.mono HW.out.size))
                            clear hHeld HKP
                            go_wp2
                            go_roundg (BB.length - (k + 1))
                            case measure => omega
                            case rel =>
                              refine ⟨k + 1, by omega, rfl, by go_num, (fun j hj => ?_), HW2.out⟩
                              by_cases e : j = k
                              · subst e; rw [HKA.out, HKB.out, HAB.out]
                              · exact HE1.out j (by omega)
                          · have HAB := Lib.hid hab
                            have HQ : Hid (x = false) := BAD.out fun e => by
                              have e2 := HKA.out
                              rw [e.2.2.2.2, HKB.out] at e2
                              injection e2 with e2
                              exact HAB.out e2.symm
                            clear hab
                            go_upto_region 17 with (fail)
                            refine wp_region_held_drew (S := fun w' => Below wr.heap.size wr w' ∧ w'.cell? ⟨w.heap.size, 4, none⟩ = some (.slice (some ⟨ab, ao, none⟩) BB.length bc) ∧ w'.cell? ⟨w.heap.size + 1, 4, none⟩ = some (.slice (some ⟨bb, bo, none⟩) BB2.length bc2) ∧ w'.cell? ⟨ab, ao + k, none⟩ = some (.slice A1 a.length c1) ∧ w'.cell? ⟨bb, bo + k, none⟩ = some (.slice A3 b.length c3)) (by kernel_rfl) (HKP.out _ (Below.refl _ wr).drew) (fun hHeld => ?_)
                            refine wpAnyH_take (i := 0) (oi := ⟨some 97, _, _, _, _, _⟩) (v := ?vtb0) rfl (by kernel_rfl) (by kernel_rfl) (by kernel_rfl) (fun _ _ _ h => h) (Or.inl ⟨by rfl, ?ytb0⟩) hHeld ?rtb0
                            case ytb0 => (intro w' hSw; (try dsimp only at hSw); go_simp; try (with_reducible rfl))
                            simp only [Act.put, List.setIfInBounds_toArray, List.set_cons_zero, List.set_cons_succ]
                            refine wpAnyH_take (i := 1) (oi := ⟨some 98, _, _, _, _, _⟩) (v := ?vtb1) rfl (by kernel_rfl) (by kernel_rfl) (by kernel_rfl) (fun _ _ _ h => h) (Or.inl ⟨by rfl, ?ytb1⟩) hHeld ?rtb1
                            case ytb1 => (intro w' hSw; (try dsimp only at hSw); go_simp; try (with_reducible rfl))
                            simp only [Act.put, List.setIfInBounds_toArray, List.set_cons_zero, List.set_cons_succ]
                            refine wpAnyH_take (i := 2) (oi := ⟨some 99, _, _, _, _, _⟩) (v := ?vtb2) rfl (by kernel_rfl) (by kernel_rfl) (by kernel_rfl) (fun _ _ _ h => h) (Or.inl ⟨by rfl, ?ytb2⟩) hHeld ?rtb2
                            case ytb2 => (intro w' hSw; (try dsimp only at hSw); go_simp; try (with_reducible rfl))
                            simp only [Act.put, List.setIfInBounds_toArray, List.set_cons_zero, List.set_cons_succ]
                            refine wpAnyH_take (i := 3) (oi := ⟨some 100, _, _, _, _, _⟩) (v := ?vtb3) rfl (by kernel_rfl) (by kernel_rfl) (by kernel_rfl) (fun _ _ _ h => h) (Or.inl ⟨by rfl, ?ytb3⟩) hHeld ?rtb3
                            case ytb3 => (intro w' hSw; (try dsimp only at hSw); go_simp; try (with_reducible rfl))
                            simp only [Act.put, List.setIfInBounds_toArray, List.set_cons_zero, List.set_cons_succ]
                            refine wpAnyH_take (i := 4) (oi := ⟨some 101, _, _, _, _, _⟩) (v := ?vtb4) rfl (by kernel_rfl) (by kernel_rfl) (by kernel_rfl) (fun _ _ _ h => h) (Or.inl ⟨by rfl, ?ytb4⟩) hHeld ?rtb4
                            case ytb4 => (intro w' hSw; (try dsimp only at hSw); go_simp; try (with_reducible rfl))
                            simp only [Act.put, List.setIfInBounds_toArray, List.set_cons_zero, List.set_cons_succ]
                            refine wpAnyH_take (i := 5) (oi := ⟨some 102, _, _, _, _, _⟩) (v := ?vtb5) rfl (by kernel_rfl) (by kernel_rfl) (by kernel_rfl) (fun _ _ _ h => h) (Or.inl ⟨by rfl, ?ytb5⟩) hHeld ?rtb5
                            case ytb5 => (intro w' hSw; (try dsimp only at hSw); go_simp; try (with_reducible rfl))
                            simp only [Act.put, List.setIfInBounds_toArray, List.set_cons_zero, List.set_cons_succ]
                            refine wpAnyH_take (i := 6) (oi := ⟨some 103, _, _, _, _, _⟩) (v := ?vtb6) rfl (by kernel_rfl) (by kernel_rfl) (by kernel_rfl) (fun _ _ _ h => h) (Or.inl ⟨by rfl, ?ytb6⟩) hHeld ?rtb6
                            case ytb6 => (intro w' hSw; (try dsimp only at hSw); go_simp; try (with_reducible rfl))
                            simp only [Act.put, List.setIfInBounds_toArray, List.set_cons_zero, List.set_cons_succ]
                            refine wpAnyH_take (i := 7) (oi := ⟨some 104, _, _, _, _, _⟩) (v := ?vtb7) rfl (by kernel_rfl) (by kernel_rfl) (by kernel_rfl) (fun _ _ _ h => h) (Or.inl ⟨by rfl, ?ytb7⟩) hHeld ?rtb7
                            case ytb7 => (intro w' hSw; (try dsimp only at hSw); go_simp; try (with_reducible rfl))
                            simp only [Act.put, List.setIfInBounds_toArray, List.set_cons_zero, List.set_cons_succ]
                            refine wpAnyH_take (i := 8) (oi := ⟨some 105, _, _, _, _, _⟩) (v := ?vtb8) rfl (by kernel_rfl) (by kernel_rfl) (by kernel_rfl) (fun _ _ _ h => h) (Or.inl ⟨by rfl, ?ytb8⟩) hHeld ?rtb8
                            case ytb8 => (intro w' hSw; (try dsimp only at hSw); go_simp; try (with_reducible rfl))
                            simp only [Act.put, List.setIfInBounds_toArray, List.set_cons_zero, List.set_cons_succ]
                            refine wpAnyH_take (i := 9) (oi := ⟨some 106, _, _, _, _, _⟩) (v := ?vtb9) rfl (by kernel_rfl) (by kernel_rfl) (by kernel_rfl) (fun _ _ _ h => h) (Or.inl ⟨by rfl, ?ytb9⟩) hHeld ?rtb9
                            case ytb9 => (intro w' hSw; (try dsimp only at hSw); go_simp; try (with_reducible rfl))
                            simp only [Act.put, List.setIfInBounds_toArray, List.set_cons_zero, List.set_cons_succ]
                            refine wpAnyH_ready (rs := [10]) (by kernel_rfl) (by simp) ?_
                            refine AllReadyH.cons (o := ⟨some 107, _, _, _, _, _⟩) rfl (fun K hK => ?_) AllReadyH.nil
                            go_simp
                            (with_reducible refine (rrules_c false _ _ a b _ (HR1.out.on (HBW.out.trans (hHeld.1.mono HBW.out.size))) (HR2.out.on (HBW.out.trans (hHeld.1.mono HBW.out.size))) ⟨fun h => (by cases h), fun h => absurd h HAB.out⟩).mono ?_)
                            rintro e w5 ⟨rfl, hb⟩
                            (try dsimp only)
                            refine hK.out _ _ (HKP.out _ (hHeld.1.trans (hb.mono hHeld.1.size))) (fun hNext => ?_)
                            clear hK K hHeld
                            have hHeld := hNext
                            clear hNext
                            try simp only [Act.put, List.setIfInBounds_toArray, List.set_cons_zero, List.set_cons_succ]
                            refine wpAnyH_take (i := 11) (oi := ⟨some 108, _, _, _, _, _⟩) (v := ?vtb11) rfl (by kernel_rfl) (by kernel_rfl) (by kernel_rfl) (fun _ _ _ h => h) (Or.inl ⟨by rfl, ?ytb11⟩) hHeld ?rtb11
                            case ytb11 => (intro w' hSw; (try dsimp only at hSw); go_simp; try (with_reducible rfl))
                            simp only [Act.put, List.setIfInBounds_toArray, List.set_cons_zero, List.set_cons_succ]
                            refine wpAnyH_done (by kernel_rfl) ?_ _
                            have HW2 := Lib.hid (HBW.out.trans (hHeld.1.mono HBW.out.size))
                            clear hHeld HKP
                            go_wp2
                            go_ret
                            exact ⟨by rw [HQ.out]; rfl, HW2.out⟩
                        · have hltz : ¬ (k : Int) < (BB.length : Int) := by omega
                          have HBE : Hid (BB = BB2) := List.ext_getElem? fun j => by
                            by_cases hj : j < k
                            · exact HE1.out j hj
                            · rw [List.getElem?_eq_none (by omega), List.getElem?_eq_none (by have := hq4.out; omega)]
                          have HE : Hid (x = true) := HX.out.2 ⟨hq0.out, hq1.out, HPE.out, HQE.out, HBE.out⟩
                          go_wp2
                          go_ret
                          exact ⟨by rw [HE.out]; rfl, HBW.out⟩
            · have ne4 : ((BB.length : Int) != (BB2.length : Int)) = true := by rw [bne_iff_ne]; omega
              have hn := Lib.hid h4
              have HE : Hid (x = false) := BAD.out fun h => hn.out (congrArg List.length h.2.2.2.2)
              clear h4
              go_wp2
              go_ret
              exact ⟨by rw [HE.out]; rfl, B3.out⟩
          · have ne3 : ((Q.length : Int) != (Q2.length : Int)) = true := by rw [bne_iff_ne]; omega
            have hn := Lib.hid h3
            have HE : Hid (x = false) := BAD.out fun h => hn.out (congrArg List.length h.2.2.2.1)
            clear h3
            go_wp2
            go_ret
            exact ⟨by rw [HE.out]; rfl, B3.out⟩
        · have ne2 : ((P.length : Int) != (P2.length : Int)) = true := by rw [bne_iff_ne]; omega
          have hn := Lib.hid h2
          have HE : Hid (x = false) := BAD.out fun h => hn.out (congrArg List.length h.2.2.1)
          clear h2
          go_wp2
          go_ret
          exact ⟨by rw [HE.out]; rfl, B3.out⟩
      · have hn := Lib.hid h1
        have tq : (ten != ten2) = true := by simp [h1]
        have HE : Hid (x = false) := BAD.out fun h => hn.out h.2.1
        clear h1
        go_wp2
        go_ret
        exact ⟨by rw [HE.out]; rfl, B3.out⟩
    · have hn := Lib.hid h0
      have HE : Hid (x = false) := BAD.out fun h => hn.out h.1
      clear h0
      go_wp2_with fail
      (with_reducible refine (rports_c false _ _ T T2 _ (HT.out.on B1.out) (HT2.out.on B1.out) ⟨fun h => (by cases h), fun h => absurd h hn.out⟩).mono ?_)
      rintro e w3 ⟨rfl, hb⟩
      have B3 := Lib.hid (B1.out.trans (hb.mono B1.out.size))
      have N3 := Lib.hid (N1.out.on hb)
      have M3 := Lib.hid (M1.out.on hb)
      have K3 := Lib.hid (K1.out.on hb)
      have L3 := Lib.hid (L1.out.on hb)
      clear d0 d4 e0 e4 f0 f1 f2 g0 g1 g2 hb B1 N1 M1 K1 L1
      obtain ⟨f0, f1, f2⟩ := K3.out.three
      obtain ⟨g0, g1, g2⟩ := L3.out.three
      obtain ⟨d0, d1, d2, d3, d4⟩ := N3.out.five
      obtain ⟨e0, e1, e2, e3, e4⟩ := M3.out.five
      clear d0 d1 d2 d3 e0 e1 e2 e3
      go_wp2
      go_ret
      exact ⟨by rw [HE.out]; rfl, B3.out⟩
end Go.Proofs

namespace Go.Proofs.Hd
open Go.RowKit
/-- Types of rows that the law writes to. -/
def rowT (t : TypeId) : Bool := t == 65 || (t == 62 || (t == 66 || t == 68))
theorem TB.same {w : World} {g : Nat} {t t' : TypeId} (h : TB w g t) (h' : TB w g t') : t = t' := by
  obtain ⟨cs, fr, e⟩ := h
  obtain ⟨cs', fr', e'⟩ := h'
  rw [e] at e'
  injection e' with e'
  injection e' with _ e'
theorem TB.put {w : World} {g g' i : Nat} {t : TypeId} {v : Value} (h : TB w g t) : TB (w.setCell ⟨g', i, none⟩ v) g t := by
  by_cases e : g = g'
  · subst e; exact h.set
  · obtain ⟨cs, fr, h⟩ := h
    exact ⟨cs, fr, (Below.heap_setCell w ⟨g', i, none⟩ v g e).trans h⟩
/-- w is u, but for numbers in rows. -/
structure Mut (u w : World) : Prop where
  typ : ∀ g t, TB u g t → TB w g t
  cell : ∀ g t o, TB u g t → rowT t = false → w.cell? ⟨g, o, none⟩ = u.cell? ⟨g, o, none⟩
  row : ∀ g t o x, TB u g t → rowT t = true → u.cell? ⟨g, o, none⟩ = some (.int .i64 x) → ∃ y, w.cell? ⟨g, o, none⟩ = some (.int .i64 y)
  frz : ∀ g t o, TB u g t → w.frozen? ⟨g, o, none⟩ = u.frozen? ⟨g, o, none⟩
theorem Mut.refl (u : World) : Mut u u := ⟨fun _ _ h => h, fun _ _ _ _ _ => rfl, fun _ _ _ x _ _ h => ⟨x, h⟩, fun _ _ _ _ => rfl⟩
theorem Mut.on {u w w' : World} (h : Mut u w) (hb : Below w.heap.size w w') : Mut u w' := by
  refine ⟨fun g t hg => (h.typ g t hg).on hb, fun g t o hg ht => ?_, fun g t o x hg ht hc => ?_, fun g t o hg => ?_⟩
  · exact (hb.cell (p := ⟨g, o, none⟩) (h.typ g t hg).lt).trans (h.cell g t o hg ht)
  · obtain ⟨y, e⟩ := h.row g t o x hg ht hc
    exact ⟨y, (hb.cell (p := ⟨g, o, none⟩) (h.typ g t hg).lt).trans e⟩
  · exact (hb.frozen (p := ⟨g, o, none⟩) (h.typ g t hg).lt).trans (h.frz g t o hg)
theorem Mut.set {u w : World} (h : Mut u w) {g o : Nat} {t : TypeId} (hg : TB u g t) (ht : rowT t = true) (v : Int) : Mut u (w.setCell ⟨g, o, none⟩ (.int .i64 v)) := by
  refine ⟨fun g' t' h' => (h.typ g' t' h').put, fun g' t' o' h' ht' => ?_, fun g' t' o' x' h' ht' hc' => ?_, fun g' t' o' h' => ?_⟩
  · have hne : g ≠ g' := by
      rintro rfl
      obtain rfl := TB.same hg h'
      rw [ht] at ht'
      cases ht'
    exact (World.cell?_setCell_far w ⟨g, o, none⟩ ⟨g', o', none⟩ _ hne).trans (h.cell g' t' o' h' ht')
  · obtain ⟨y', e'⟩ := h.row g' t' o' x' h' ht' hc'
    by_cases e : g = g'
    · subst e
      by_cases eo : o = o'
      · subst eo
        exact ⟨v, World.cell?_setCell_same w ⟨g, o, none⟩ (.int .i64 v) e'⟩
      · exact ⟨y', (World.cell?_setCell_other w ⟨g, o, none⟩ ⟨g, o', none⟩ (.int .i64 v) (by intro q; injection q with _ q; exact eo q)).trans e'⟩
    · exact ⟨y', (World.cell?_setCell_far w ⟨g, o, none⟩ ⟨g', o', none⟩ _ e).trans e'⟩
  · rw [World.frozen?_setCell]
    exact h.frz g' t' o' h'
theorem OwG.at {β : Type} {te : TypeId} {R : World → Value → β → Prop} {w : World} {B cap i : Nat} {A : Option Addr} {T : List β} {x : β} (h : OwG te R w B (.slice A T.length cap) T) (hx : T[i]? = some x) : ∃ g s, A = some ⟨g, 0, none⟩ ∧ TB w g te ∧ w.cell? ⟨g, i, none⟩ = some s ∧ R w s x := by
  obtain ⟨hs, h1, h2⟩ := h
  have hi := (List.getElem?_eq_some_iff.1 hx).1
  obtain ⟨A', cap', e, hA⟩ := own_sl h1
  injection e with e _ e3
  subst e e3
  obtain ⟨g, rfl⟩ := hA (by omega)
  obtain ⟨s, hs', hr⟩ := h2 i x hx
  exact ⟨g, s, rfl, (own_tb h1).1, by rw [h1.cellAt i (by omega)]; exact hs', hr⟩
/-- An element's number of a row of the call's own, as Mut tells it. -/
theorem row_at {α : Type} {enc : α → List Value} {k : Nat} (hk : ∀ x, (enc x).length = k) {te : TypeId} (ht : rowT te = true) {u w : World} (hm : Mut u w) {B cap i : Nat} {A : Option Addr} {L : List α} {x : α} (h : u.ownsRow B te k (.slice A L.length cap) L.length (L.flatMap enc)) (hx : L[i]? = some x) (j : Nat) (z : Int) (hj : j < k) (hz : (enc x)[j]? = some (.int .i64 z)) :
    ∃ g y, A = some ⟨g, 0, none⟩ ∧ B ≤ g ∧ w.cell? ⟨g, i * k + j, none⟩ = some (.int .i64 y) ∧ w.frozen? ⟨g, i * k + j, none⟩ = false ∧ ∀ v, Mut u (w.setCell ⟨g, i * k + j, none⟩ (.int .i64 v)) := by
  have hi := (List.getElem?_eq_some_iff.1 hx).1
  obtain ⟨A', cap', e, hA⟩ := own_sl h
  injection e with e _ e3
  subst e e3
  obtain ⟨g, rfl⟩ := hA (by omega)
  have hlt : i * k + j < L.length * k := by
    have : (i + 1) * k ≤ L.length * k := Nat.mul_le_mul_right k hi
    rw [Nat.add_mul] at this
    omega
  have hc : u.cell? ⟨g, i * k + j, none⟩ = some (.int .i64 z) := by rw [h.cellAt (i * k + j) hlt, fm_get hk hx hj]; exact hz
  have hg := own_tb h
  obtain ⟨y, hy⟩ := hm.row g te _ z hg.1 ht hc
  exact ⟨g, y, rfl, hg.2.1, hy, (hm.frz g te _ hg.1).trans (h.frozenAt _), fun v => hm.set hg.1 ht v⟩
theorem Blk.tb {w : World} {g : Nat} {t : TypeId} {cs : Array Value} (h : Blk w g t cs) : TB w g t := ⟨cs, (0, 0), h⟩
end Go.Proofs.Hd

namespace Go.Proofs
open Go.RowKit Go.Proofs.Hd Go.Lib
set_option maxRecDepth 100000 in
set_option maxHeartbeats 16000000 in
theorem cldl_c (tv pv wv bv : Value) (T : List (List Pt)) (ten : Int) (P : List (Int × Int)) (Q : List Wa) (BB : List (List (List Rl))) (tv2 pv2 wv2 bv2 : Value) (T2 : List (List Pt)) (ten2 : Int) (P2 : List (Int × Int)) (Q2 : List Wa) (BB2 : List (List (List Rl))) (w : World) (hT : PsT w tv T) (hP : Pe w pv P) (hQ : Wy w wv Q) (hB : RuQ w bv BB) (hz : Szd T P Q BB) (hT2 : PsT w tv2 T2) (hP2 : Pe w pv2 P2) (hQ2 : Wy w wv2 Q2) (hB2 : RuQ w bv2 BB2) : Calls Try.prog 6 #[.agg #[tv, .int .i64 ten, pv, wv, bv], .agg #[tv2, .int .i64 ten2, pv2, wv2, bv2]] w fun e w' => e = .returned (.bool true) ∧ Below w.heap.size w w' := by
  have HT := Lib.hid hT
  have HP := Lib.hid hP
  have HQ := Lib.hid hQ
  have HBQ := Lib.hid hB
  have HT2 := Lib.hid hT2
  have HP2 := Lib.hid hP2
  have HQ2 := Lib.hid hQ2
  have HBQ2 := Lib.hid hB2
  have HZ := Lib.hid hz
  have hTz : (T.length : Int) ≤ 9223372036854775807 := by have := hz.t; omega
  have hPz : (P.length : Int) ≤ 9223372036854775807 := by have := hz.p; omega
  have hQz : (Q.length : Int) ≤ 9223372036854775807 := by have := hz.q; omega
  have hBz : (BB.length : Int) ≤ 9223372036854775807 := by have := hz.b; omega
  obtain ⟨y, hy⟩ : ∃ y : Bool, (y = true ↔ T = T2 ∧ ten = ten2 ∧ P = P2 ∧ Q = Q2 ∧ BB = BB2) := ⟨@decide (T = T2 ∧ ten = ten2 ∧ P = P2 ∧ Q = Q2 ∧ BB = BB2) (Classical.propDecidable _), by simp⟩
  have HY := Lib.hid hy
  have hyy : (y != y) = false := by simp
  obtain ⟨A, cap, rfl, -, -⟩ := hT
  obtain ⟨pA, pc, rfl, -, -⟩ := hP
  obtain ⟨wA, wcp, rfl, -, -⟩ := hQ
  obtain ⟨bA, bc, rfl, -, -⟩ := hB
  obtain ⟨A2, cap2, rfl, -, -⟩ := hT2
  obtain ⟨pA2, pc2, rfl, -, -⟩ := hP2
  obtain ⟨wA2, wcp2, rfl, -, -⟩ := hQ2
  obtain ⟨bA2, bc2, rfl, -, -⟩ := hB2
  clear hy hz
  have HB1 : Hid (Below w.heap.size w ((w.alloc (.cells #[.slice A T.length cap, .int .i64 ten, .slice pA P.length pc, .slice wA Q.length wcp, .slice bA BB.length bc] 31)).alloc (.cells #[.slice A2 T2.length cap2, .int .i64 ten2, .slice pA2 P2.length pc2, .slice wA2 Q2.length wcp2, .slice bA2 BB2.length bc2] 31))) := below2 w _ _
  have N1 : Hid (Blk ((w.alloc (.cells #[.slice A T.length cap, .int .i64 ten, .slice pA P.length pc, .slice wA Q.length wcp, .slice bA BB.length bc] 31)).alloc (.cells #[.slice A2 T2.length cap2, .int .i64 ten2, .slice pA2 P2.length pc2, .slice wA2 Q2.length wcp2, .slice bA2 BB2.length bc2] 31)) w.heap.size 31 #[.slice A T.length cap, .int .i64 ten, .slice pA P.length pc, .slice wA Q.length wcp, .slice bA BB.length bc]) := (Blk.new w _ _).on (below1 _ _)
  have M1 : Hid (Blk ((w.alloc (.cells #[.slice A T.length cap, .int .i64 ten, .slice pA P.length pc, .slice wA Q.length wcp, .slice bA BB.length bc] 31)).alloc (.cells #[.slice A2 T2.length cap2, .int .i64 ten2, .slice pA2 P2.length pc2, .slice wA2 Q2.length wcp2, .slice bA2 BB2.length bc2] 31)) (w.heap.size + 1) 31 #[.slice A2 T2.length cap2, .int .i64 ten2, .slice pA2 P2.length pc2, .slice wA2 Q2.length wcp2, .slice bA2 BB2.length bc2]) := Blk.new2 w _ _ _
  go_enter Try.func6, Try.ntmps6
  go_upto_region 1 with (fail)
  generalize ((w.alloc (.cells #[.slice A T.length cap, .int .i64 ten, .slice pA P.length pc, .slice wA Q.length wcp, .slice bA BB.length bc] 31)).alloc (.cells #[.slice A2 T2.length cap2, .int .i64 ten2, .slice pA2 P2.length pc2, .slice wA2 Q2.length wcp2, .slice bA2 BB2.length bc2] 31)) = w1 at HB1 N1 M1 ⊢
  obtain ⟨d0, d1, d2, d3, d4⟩ := N1.out.five
  go_wp2_with fail
  (with_reducible refine (copy_c _ _ _ _ T ten P Q BB _ (HT.out.on HB1.out) (HP.out.on HB1.out) (HQ.out.on HB1.out) (HBQ.out.on HB1.out) HZ.out).mono ?_)
  rintro e w2 ⟨tvo, pvo, wvo, bvo, rfl, hcf, hb⟩
  obtain ⟨oA, oc, rfl, -⟩ := OwG.rd hcf.ports
  obtain ⟨opA, opc, rfl, -⟩ := own_sl hcf.peers
  obtain ⟨owA, owc, rfl, -⟩ := own_sl hcf.ways
  obtain ⟨obA, obc, rfl, -⟩ := OwG.rd hcf.tabs
  have bx := below1 w2 (.cells #[.slice oA T.length oc, .int .i64 ten, .slice opA P.length opc, .slice owA Q.length owc, .slice obA BB.length obc] 31)
  have O3 := Lib.hid (Blk.new w2 31 #[.slice oA T.length oc, .int .i64 ten, .slice opA P.length opc, .slice owA Q.length owc, .slice obA BB.length obc])
  have hw := hb.trans (bx.mono hb.size)
  have HO := Lib.hid (hcf.on bx)
  have HB3 := Lib.hid (HB1.out.trans (hw.mono HB1.out.size))
  have N3 := Lib.hid (N1.out.on hw)
  have M3 := Lib.hid (M1.out.on hw)
  clear hcf hb bx hw HB1 N1 M1 d0 d1 d2 d3 d4
  go_upto_region 2 with (fail)
  generalize w2.alloc (.cells #[.slice oA T.length oc, .int .i64 ten, .slice opA P.length opc, .slice owA Q.length owc, .slice obA BB.length obc] 31) = w3 at O3 HO HB3 N3 M3 ⊢
  obtain ⟨d0, d1, d2, d3, d4⟩ := N3.out.five
  go_wp2_with fail
  (with_reducible refine (clone_c _ _ _ _ T ten P Q BB _ (HT.out.on HB3.out) (HP.out.on HB3.out) (HQ.out.on HB3.out) (HBQ.out.on HB3.out) HZ.out).mono ?_)
  rintro e w4 ⟨tvo, pvo, wvo, bvo, rfl, hcf, hb⟩
  obtain ⟨xA, xc, rfl, -⟩ := OwG.rd hcf.ports
  obtain ⟨xpA, xpc, rfl, -⟩ := own_sl hcf.peers
  obtain ⟨xwA, xwc, rfl, -⟩ := own_sl hcf.ways
  obtain ⟨xbA, xbc, rfl, -⟩ := OwG.rd hcf.tabs
  have bx := below1 w4 (.cells #[.slice xA T.length xc, .int .i64 ten, .slice xpA P.length xpc, .slice xwA Q.length xwc, .slice xbA BB.length xbc] 31)
  have XB5 := Lib.hid (Blk.new w4 31 #[.slice xA T.length xc, .int .i64 ten, .slice xpA P.length xpc, .slice xwA Q.length xwc, .slice xbA BB.length xbc])
  have hw := hb.trans (bx.mono hb.size)
  have HX5 := Lib.hid (hcf.on bx)
  have HW5 := Lib.hid hw
  have HB5 := Lib.hid (HB3.out.trans (hw.mono HB3.out.size))
  have N5 := Lib.hid (N3.out.on hw)
  have M5 := Lib.hid (M3.out.on hw)
  clear hcf hb bx hw M3 d0 d1 d2 d3 d4
  go_upto_region 3 with (fail)
  generalize w4.alloc (.cells #[.slice xA T.length xc, .int .i64 ten, .slice xpA P.length xpc, .slice xwA Q.length xwc, .slice xbA BB.length xbc] 31) = w5 at XB5 HX5 HW5 HB5 N5 M5 ⊢
  have KP : ∀ W, Below w5.heap.size w5 W → (Below w5.heap.size w5 W ∧ (W.cell? ⟨w.heap.size, 0, none⟩ = some (.slice A T.length cap) ∧ W.cell? ⟨w.heap.size, 1, none⟩ = some (.int .i64 ten) ∧ W.cell? ⟨w.heap.size, 2, none⟩ = some (.slice pA P.length pc) ∧ W.cell? ⟨w.heap.size, 3, none⟩ = some (.slice wA Q.length wcp) ∧ W.cell? ⟨w.heap.size, 4, none⟩ = some (.slice bA BB.length bc)) ∧ (W.cell? ⟨w.heap.size + 1, 0, none⟩ = some (.slice A2 T2.length cap2) ∧ W.cell? ⟨w.heap.size + 1, 1, none⟩ = some (.int .i64 ten2) ∧ W.cell? ⟨w.heap.size + 1, 2, none⟩ = some (.slice pA2 P2.length pc2) ∧ W.cell? ⟨w.heap.size + 1, 3, none⟩ = some (.slice wA2 Q2.length wcp2) ∧ W.cell? ⟨w.heap.size + 1, 4, none⟩ = some (.slice bA2 BB2.length bc2)) ∧ (W.cell? ⟨w4.heap.size, 0, none⟩ = some (.slice xA T.length xc) ∧ W.cell? ⟨w4.heap.size, 1, none⟩ = some (.int .i64 ten) ∧ W.cell? ⟨w4.heap.size, 2, none⟩ = some (.slice xpA P.length xpc) ∧ W.cell? ⟨w4.heap.size, 3, none⟩ = some (.slice xwA Q.length xwc) ∧ W.cell? ⟨w4.heap.size, 4, none⟩ = some (.slice xbA BB.length xbc))) := fun W hb => ⟨hb, (N5.out.on hb).five, (M5.out.on hb).five, (XB5.out.on hb).five⟩
  have HKP := Lib.hid KP
  clear KP
  refine wp_region_held_drew (S := fun w' => Below w5.heap.size w5 w' ∧ (w'.cell? ⟨w.heap.size, 0, none⟩ = some (.slice A T.length cap) ∧ w'.cell? ⟨w.heap.size, 1, none⟩ = some (.int .i64 ten) ∧ w'.cell? ⟨w.heap.size, 2, none⟩ = some (.slice pA P.length pc) ∧ w'.cell? ⟨w.heap.size, 3, none⟩ = some (.slice wA Q.length wcp) ∧ w'.cell? ⟨w.heap.size, 4, none⟩ = some (.slice bA BB.length bc)) ∧ (w'.cell? ⟨w.heap.size + 1, 0, none⟩ = some (.slice A2 T2.length cap2) ∧ w'.cell? ⟨w.heap.size + 1, 1, none⟩ = some (.int .i64 ten2) ∧ w'.cell? ⟨w.heap.size + 1, 2, none⟩ = some (.slice pA2 P2.length pc2) ∧ w'.cell? ⟨w.heap.size + 1, 3, none⟩ = some (.slice wA2 Q2.length wcp2) ∧ w'.cell? ⟨w.heap.size + 1, 4, none⟩ = some (.slice bA2 BB2.length bc2)) ∧ (w'.cell? ⟨w4.heap.size, 0, none⟩ = some (.slice xA T.length xc) ∧ w'.cell? ⟨w4.heap.size, 1, none⟩ = some (.int .i64 ten) ∧ w'.cell? ⟨w4.heap.size, 2, none⟩ = some (.slice xpA P.length xpc) ∧ w'.cell? ⟨w4.heap.size, 3, none⟩ = some (.slice xwA Q.length xwc) ∧ w'.cell? ⟨w4.heap.size, 4, none⟩ = some (.slice xbA BB.length xbc))) (by kernel_rfl) (HKP.out _ (Below.refl _ w5).drew) (fun hHeld => ?_)
  refine wpAnyH_take (i := 0) (oi := ⟨some 18, _, _, _, _, _⟩) (v := ?vlc0) rfl (by kernel_rfl) (by kernel_rfl) (by kernel_rfl) (fun _ _ _ h => h) (Or.inl ⟨by rfl, ?ylc0⟩) hHeld ?rlc0
  case ylc0 => (intro w' hSw; (try dsimp only at hSw); go_simp; try (with_reducible rfl))
  simp only [Act.put, List.setIfInBounds_toArray, List.set_cons_zero, List.set_cons_succ]
  refine wpAnyH_take (i := 1) (oi := ⟨some 19, _, _, _, _, _⟩) (v := ?vlc1) rfl (by kernel_rfl) (by kernel_rfl) (by kernel_rfl) (fun _ _ _ h => h) (Or.inl ⟨by rfl, ?ylc1⟩) hHeld ?rlc1
  case ylc1 => (intro w' hSw; (try dsimp only at hSw); go_simp; try (with_reducible rfl))
  simp only [Act.put, List.setIfInBounds_toArray, List.set_cons_zero, List.set_cons_succ]
  refine wpAnyH_ready (rs := [2]) (by kernel_rfl) (by simp) ?_
  refine AllReadyH.cons (o := ⟨some 20, _, _, _, _, _⟩) rfl (fun K hK => ?_) AllReadyH.nil
  go_simp
  (with_reducible refine (rsame_c true _ _ _ _ T ten P Q BB _ _ _ _ T ten P Q BB _ ((HX5.out.on hHeld.1).rd.1) ((HX5.out.on hHeld.1).rd.2.1) ((HX5.out.on hHeld.1).rd.2.2.1) ((HX5.out.on hHeld.1).rd.2.2.2) (HT.out.on (HB5.out.trans (hHeld.1.mono HB5.out.size))) (HP.out.on (HB5.out.trans (hHeld.1.mono HB5.out.size))) (HQ.out.on (HB5.out.trans (hHeld.1.mono HB5.out.size))) (HBQ.out.on (HB5.out.trans (hHeld.1.mono HB5.out.size))) ⟨fun _ => ⟨rfl, rfl, rfl, rfl, rfl⟩, fun _ => rfl⟩).mono ?_)
  rintro e w6 ⟨rfl, hb⟩
  (try dsimp only)
  refine hK.out _ _ (HKP.out _ (hHeld.1.trans (hb.mono hHeld.1.size))) (fun hNext => ?_)
  clear hK K hHeld
  have hHeld := hNext
  clear hNext
  try simp only [Act.put, List.setIfInBounds_toArray, List.set_cons_zero, List.set_cons_succ]
  refine wpAnyH_take (i := 3) (oi := ⟨some 21, _, _, _, _, _⟩) (v := ?vlc3) rfl (by kernel_rfl) (by kernel_rfl) (by kernel_rfl) (fun _ _ _ h => h) (Or.inl ⟨by rfl, ?ylc3⟩) hHeld ?rlc3
  case ylc3 => (intro w' hSw; (try dsimp only at hSw); go_simp; try (with_reducible rfl))
  simp only [Act.put, List.setIfInBounds_toArray, List.set_cons_zero, List.set_cons_succ]
  refine wpAnyH_take (i := 4) (oi := ⟨some 22, _, _, _, _, _⟩) (v := ?vlc4) rfl (by kernel_rfl) (by kernel_rfl) (by kernel_rfl) (fun _ _ _ h => h) (Or.inl ⟨by rfl, ?ylc4⟩) hHeld ?rlc4
  case ylc4 => (intro w' hSw; (try dsimp only at hSw); go_simp; try (with_reducible rfl))
  simp only [Act.put, List.setIfInBounds_toArray, List.set_cons_zero, List.set_cons_succ]
  refine wpAnyH_take (i := 5) (oi := ⟨some 23, _, _, _, _, _⟩) (v := ?vlc5) rfl (by kernel_rfl) (by kernel_rfl) (by kernel_rfl) (fun _ _ _ h => h) (Or.inl ⟨by rfl, ?ylc5⟩) hHeld ?rlc5
  case ylc5 => (intro w' hSw; (try dsimp only at hSw); go_simp; try (with_reducible rfl))
  simp only [Act.put, List.setIfInBounds_toArray, List.set_cons_zero, List.set_cons_succ]
  refine wpAnyH_take (i := 6) (oi := ⟨some 24, _, _, _, _, _⟩) (v := ?vlc6) rfl (by kernel_rfl) (by kernel_rfl) (by kernel_rfl) (fun _ _ _ h => h) (Or.inl ⟨by rfl, ?ylc6⟩) hHeld ?rlc6
  case ylc6 => (intro w' hSw; (try dsimp only at hSw); go_simp; try (with_reducible rfl))
  simp only [Act.put, List.setIfInBounds_toArray, List.set_cons_zero, List.set_cons_succ]
  refine wpAnyH_take (i := 8) (oi := ⟨some 26, _, _, _, _, _⟩) (v := ?vlc8) rfl (by kernel_rfl) (by kernel_rfl) (by kernel_rfl) (fun _ _ _ h => h) (Or.inl ⟨by rfl, ?ylc8⟩) hHeld ?rlc8
  case ylc8 => (intro w' hSw; (try dsimp only at hSw); go_simp; try (with_reducible rfl))
  simp only [Act.put, List.setIfInBounds_toArray, List.set_cons_zero, List.set_cons_succ]
  refine wpAnyH_take (i := 9) (oi := ⟨some 27, _, _, _, _, _⟩) (v := ?vlc9) rfl (by kernel_rfl) (by kernel_rfl) (by kernel_rfl) (fun _ _ _ h => h) (Or.inl ⟨by rfl, ?ylc9⟩) hHeld ?rlc9
  case ylc9 => (intro w' hSw; (try dsimp only at hSw); go_simp; try (with_reducible rfl))
  simp only [Act.put, List.setIfInBounds_toArray, List.set_cons_zero, List.set_cons_succ]
  refine wpAnyH_ready (rs := [7]) (by kernel_rfl) (by simp) ?_
  refine AllReadyH.cons (o := ⟨some 25, _, _, _, _, _⟩) rfl (fun K hK => ?_) AllReadyH.nil
  go_simp
  (with_reducible refine (csame_c y _ _ _ _ T ten P Q BB _ _ _ _ T2 ten2 P2 Q2 BB2 _ (HT.out.on (HB5.out.trans (hHeld.1.mono HB5.out.size))) (HP.out.on (HB5.out.trans (hHeld.1.mono HB5.out.size))) (HQ.out.on (HB5.out.trans (hHeld.1.mono HB5.out.size))) (HBQ.out.on (HB5.out.trans (hHeld.1.mono HB5.out.size))) (HT2.out.on (HB5.out.trans (hHeld.1.mono HB5.out.size))) (HP2.out.on (HB5.out.trans (hHeld.1.mono HB5.out.size))) (HQ2.out.on (HB5.out.trans (hHeld.1.mono HB5.out.size))) (HBQ2.out.on (HB5.out.trans (hHeld.1.mono HB5.out.size))) HY.out).mono ?_)
  rintro e w7 ⟨rfl, hb⟩
  (try dsimp only)
  refine hK.out _ _ (HKP.out _ (hHeld.1.trans (hb.mono hHeld.1.size))) (fun hNext => ?_)
  clear hK K hHeld
  have hHeld := hNext
  clear hNext
  try simp only [Act.put, List.setIfInBounds_toArray, List.set_cons_zero, List.set_cons_succ]
  refine wpAnyH_ready (rs := [10]) (by kernel_rfl) (by simp) ?_
  refine AllReadyH.cons (o := ⟨some 28, _, _, _, _, _⟩) rfl (fun K hK => ?_) AllReadyH.nil
  go_simp
  (with_reducible refine (rsame_c y _ _ _ _ T ten P Q BB _ _ _ _ T2 ten2 P2 Q2 BB2 _ (HT.out.on (HB5.out.trans (hHeld.1.mono HB5.out.size))) (HP.out.on (HB5.out.trans (hHeld.1.mono HB5.out.size))) (HQ.out.on (HB5.out.trans (hHeld.1.mono HB5.out.size))) (HBQ.out.on (HB5.out.trans (hHeld.1.mono HB5.out.size))) (HT2.out.on (HB5.out.trans (hHeld.1.mono HB5.out.size))) (HP2.out.on (HB5.out.trans (hHeld.1.mono HB5.out.size))) (HQ2.out.on (HB5.out.trans (hHeld.1.mono HB5.out.size))) (HBQ2.out.on (HB5.out.trans (hHeld.1.mono HB5.out.size))) HY.out).mono ?_)
  rintro e w8 ⟨rfl, hb⟩
  (try dsimp only)
  refine hK.out _ _ (HKP.out _ (hHeld.1.trans (hb.mono hHeld.1.size))) (fun hNext => ?_)
  clear hK K hHeld
  have hHeld := hNext
  clear hNext
  try simp only [Act.put, List.setIfInBounds_toArray, List.set_cons_zero, List.set_cons_succ]
  refine wpAnyH_take (i := 11) (oi := ⟨some 29, _, _, _, _, _⟩) (v := ?vlc11) rfl (by kernel_rfl) (by kernel_rfl) (by kernel_rfl) (fun _ _ _ h => h) (Or.inl ⟨by rfl, ?ylc11⟩) hHeld ?rlc11
  case ylc11 => (intro w' hSw; (try dsimp only at hSw); go_simp; try (with_reducible rfl))
  simp only [Act.put, List.setIfInBounds_toArray, List.set_cons_zero, List.set_cons_succ]
  refine wpAnyH_take (i := 12) (oi := ⟨some 30, _, _, _, _, _⟩) (v := ?vlc12) rfl (by kernel_rfl) (by kernel_rfl) (by kernel_rfl) (fun _ _ _ h => h) (Or.inl ⟨by rfl, ?ylc12⟩) hHeld ?rlc12
  case ylc12 => (intro w' hSw; (try dsimp only at hSw); go_simp; try (with_reducible rfl))
  simp only [Act.put, List.setIfInBounds_toArray, List.set_cons_zero, List.set_cons_succ]
  refine wpAnyH_take (i := 13) (oi := ⟨some 31, _, _, _, _, _⟩) (v := ?vlc13) rfl (by kernel_rfl) (by kernel_rfl) (by kernel_rfl) (fun _ _ _ h => h) (Or.inl ⟨by rfl, ?ylc13⟩) hHeld ?rlc13
  case ylc13 => (intro w' hSw; (try dsimp only at hSw); go_simp; try (with_reducible rfl))
  simp only [Act.put, List.setIfInBounds_toArray, List.set_cons_zero, List.set_cons_succ]
  refine wpAnyH_take (i := 14) (oi := ⟨some 32, _, _, _, _, _⟩) (v := ?vlc14) rfl (by kernel_rfl) (by kernel_rfl) (by kernel_rfl) (fun _ _ _ h => h) (Or.inl ⟨by rfl, ?ylc14⟩) hHeld ?rlc14
  case ylc14 => (intro w' hSw; (try dsimp only at hSw); go_simp; try (with_reducible rfl))
  simp only [Act.put, List.setIfInBounds_toArray, List.set_cons_zero, List.set_cons_succ]
  refine wpAnyH_take (i := 15) (oi := ⟨some 33, _, _, _, _, _⟩) (v := ?vlc15) rfl (by kernel_rfl) (by kernel_rfl) (by kernel_rfl) (fun _ _ _ h => h) (Or.inl ⟨by rfl, ?ylc15⟩) hHeld ?rlc15
  case ylc15 => (intro w' hSw; (try dsimp only at hSw); go_simp; try (with_reducible rfl))
  simp only [Act.put, List.setIfInBounds_toArray, List.set_cons_zero, List.set_cons_succ]
  refine wpAnyH_ready (rs := [16]) (by kernel_rfl) (by simp) ?_
  refine AllReadyH.cons (o := ⟨some 34, _, _, _, _, _⟩) rfl (fun K hK => ?_) AllReadyH.nil
  go_simp
  (with_reducible refine (csame_c true _ _ _ _ T ten P Q BB _ _ _ _ T ten P Q BB _ (HT.out.on (HB5.out.trans (hHeld.1.mono HB5.out.size))) (HP.out.on (HB5.out.trans (hHeld.1.mono HB5.out.size))) (HQ.out.on (HB5.out.trans (hHeld.1.mono HB5.out.size))) (HBQ.out.on (HB5.out.trans (hHeld.1.mono HB5.out.size))) ((HX5.out.on hHeld.1).rd.1) ((HX5.out.on hHeld.1).rd.2.1) ((HX5.out.on hHeld.1).rd.2.2.1) ((HX5.out.on hHeld.1).rd.2.2.2) ⟨fun _ => ⟨rfl, rfl, rfl, rfl, rfl⟩, fun _ => rfl⟩).mono ?_)
  rintro e w9 ⟨rfl, hb⟩
  (try dsimp only)
  refine hK.out _ _ (HKP.out _ (hHeld.1.trans (hb.mono hHeld.1.size))) (fun hNext => ?_)
  clear hK K hHeld
  have hHeld := hNext
  clear hNext
  try simp only [Act.put, List.setIfInBounds_toArray, List.set_cons_zero, List.set_cons_succ]
  refine wpAnyH_take (i := 17) (oi := ⟨some 35, _, _, _, _, _⟩) (v := ?vlc17) rfl (by kernel_rfl) (by kernel_rfl) (by kernel_rfl) (fun _ _ _ h => h) (Or.inl ⟨by rfl, ?ylc17⟩) hHeld ?rlc17
  case ylc17 => (intro w' hSw; (try dsimp only at hSw); go_simp; try (with_reducible rfl))
  simp only [Act.put, List.setIfInBounds_toArray, List.set_cons_zero, List.set_cons_succ]
  refine wpAnyH_take (i := 18) (oi := ⟨some 36, _, _, _, _, _⟩) (v := ?vlc18) rfl (by kernel_rfl) (by kernel_rfl) (by kernel_rfl) (fun _ _ _ h => h) (Or.inl ⟨by rfl, ?ylc18⟩) hHeld ?rlc18
  case ylc18 => (intro w' hSw; (try dsimp only at hSw); go_simp; try (with_reducible rfl))
  simp only [Act.put, List.setIfInBounds_toArray, List.set_cons_zero, List.set_cons_succ]
  refine wpAnyH_done (by kernel_rfl) ?_ _
  have HX9 := Lib.hid (HX5.out.on hHeld.1)
  have HXB := Lib.hid (XB5.out.on hHeld.1)
  have HB := Lib.hid (HW5.out.trans (hHeld.1.mono HW5.out.size))
  have HM := Lib.hid (Mut.refl w9)
  clear HKP N5 M5 HB5 HX5 XB5 HW5 HY HT2 HP2 HQ2 HBQ2
  have x4 : w9.cell? ⟨w4.heap.size, 4, none⟩ = some (.slice xbA BB.length xbc) := HXB.out.cell 4
  clear hHeld
  go_wp2
  clear x4
  go_loopg [7, 8, 9] BB.length (fun gk s7 _ _ wr => ∃ k : Nat, k ≤ BB.length ∧ gk = BB.length - k ∧ s7 = .int .i64 k ∧ Hid (Mut w9 wr) ∧ Hid (Below w3.heap.size w3 wr))
  case atStart => exact ⟨0, Nat.zero_le _, rfl, rfl, HM, HB⟩
  case round =>
    clear HM HB
    obtain ⟨n, hn, rfl, rfl, HM, HB⟩ := hrel
    have x4 : wr.cell? ⟨w4.heap.size, 4, none⟩ = some (.slice xbA BB.length xbc) := (HM.out.cell _ _ 4 HXB.out.tb rfl).trans (HXB.out.cell 4)
    by_cases hlt : n < BB.length
    · have hltz : (n : Int) < (BB.length : Int) := by omega
      obtain ⟨X, hX⟩ : ∃ X, BB[n]? = some X := ⟨_, List.getElem?_eq_getElem hlt⟩
      obtain ⟨g1, s1, rfl, tb1, hc1, o1⟩ := OwG.at HX9.out.tabs hX
      obtain ⟨A6, c6, rfl, hXm, -⟩ := OwG.rd o1
      have hXz : (X.length : Int) ≤ 9223372036854775807 := by unfold maxLen at hXm; omega
      have HC1 := Lib.hid hc1
      have HTB1 := Lib.hid tb1
      have HO1 := Lib.hid o1
      have y1 := (HM.out.cell g1 _ n tb1 rfl).trans hc1
      clear hc1 tb1 o1 hX hXm
      go_wp2
      clear x4 y1
      go_loopg [8, 9] X.length (fun gk s8 _ wr => ∃ k : Nat, k ≤ X.length ∧ gk = X.length - k ∧ s8 = .int .i64 k ∧ Hid (Mut w9 wr) ∧ Hid (Below w3.heap.size w3 wr))
      case atStart => exact ⟨0, Nat.zero_le _, rfl, rfl, HM, HB⟩
      case round =>
        clear HM HB
        rename_i wr0
        obtain ⟨i, hi, rfl, rfl, HM, HB⟩ := hrel
        have x4 : wr.cell? ⟨w4.heap.size, 4, none⟩ = some (.slice (some ⟨g1, 0, none⟩) BB.length xbc) := (HM.out.cell _ _ 4 HXB.out.tb rfl).trans (HXB.out.cell 4)
        have y1 := (HM.out.cell g1 _ n HTB1.out rfl).trans HC1.out
        by_cases hlt2 : i < X.length
        · have hlt2z : (i : Int) < (X.length : Int) := by omega
          obtain ⟨R, hR⟩ : ∃ R, X[i]? = some R := ⟨_, List.getElem?_eq_getElem hlt2⟩
          obtain ⟨g2, s2, rfl, tb2, hc2, o2⟩ := OwG.at HO1.out hR
          have hRm := own_len o2
          obtain ⟨A7, c7, rfl, -⟩ := own_sl o2
          have hRz : (R.length : Int) ≤ 9223372036854775807 := by unfold maxLen at hRm; omega
          have HC2 := Lib.hid hc2
          have HTB2 := Lib.hid tb2
          have HO2 := Lib.hid o2
          have y2 := (HM.out.cell g2 _ i tb2 rfl).trans hc2
          clear hc2 tb2 o2 hR hRm
          go_wp2
          clear x4 y1 y2
          go_loopg [9] R.length (fun gk s9 wr => ∃ k : Nat, k ≤ R.length ∧ gk = R.length - k ∧ s9 = .int .i64 k ∧ Hid (Mut w9 wr) ∧ Hid (Below w3.heap.size w3 wr))
          case atStart => exact ⟨0, Nat.zero_le _, rfl, rfl, HM, HB⟩
          case round =>
            clear HM HB
            rename_i wr1
            obtain ⟨k, hk, rfl, rfl, HM, HB⟩ := hrel
            have x4 : wr.cell? ⟨w4.heap.size, 4, none⟩ = some (.slice (some ⟨g1, 0, none⟩) BB.length xbc) := (HM.out.cell _ _ 4 HXB.out.tb rfl).trans (HXB.out.cell 4)
            have y1 := (HM.out.cell g1 _ n HTB1.out rfl).trans HC1.out
            have y2 := (HM.out.cell g2 _ i HTB2.out rfl).trans HC2.out
            by_cases hlt3 : k < R.length
            · have hlt3z : (k : Int) < (R.length : Int) := by omega
              obtain ⟨r, hr⟩ : ∃ r, R[k]? = some r := ⟨_, List.getElem?_eq_getElem hlt3⟩
              obtain ⟨g3, y, rfl, hg3, hy3, hf3, hm3⟩ := row_at len_rl rfl HM.out HO2.out hr 0 r.pri (by decide) rfl
              have HM2 := Lib.hid hm3
              have HG3 := Lib.hid hg3
              simp only [Nat.add_zero] at hy3 hf3
              clear hm3 hg3 hr
              go_wp2
              go_roundg (R.length - (k + 1))
              case measure => omega
              case rel => exact ⟨k + 1, by omega, rfl, by go_num, HM2.out _, HB.out.setCell (p := ⟨g3, _, none⟩) HG3.out _⟩
            · have hlt3z : ¬ (k : Int) < (R.length : Int) := by omega
              go_wp2
              clear x4 y1 y2
              go_roundg (X.length - (i + 1))
              case measure => omega
              case rel => exact ⟨i + 1, by omega, rfl, by go_num, HM, HB⟩
        · have hlt2z : ¬ (i : Int) < (X.length : Int) := by omega
          go_wp2
          clear x4 y1
          go_roundg (BB.length - (n + 1))
          case measure => omega
          case rel => exact ⟨n + 1, by omega, rfl, by go_num, HM, HB⟩
    · have hltz : ¬ (n : Int) < (BB.length : Int) := by omega
      have x0 : wr.cell? ⟨w4.heap.size, 0, none⟩ = some (.slice xA T.length xc) := (HM.out.cell _ _ 0 HXB.out.tb rfl).trans (HXB.out.cell 0)
      go_wp2
      clear x4 x0
      clear hlt hltz hn
      go_loopg [10, 11] T.length (fun gk s10 _ wr => ∃ k : Nat, k ≤ T.length ∧ gk = T.length - k ∧ s10 = .int .i64 k ∧ Hid (Mut w9 wr) ∧ Hid (Below w3.heap.size w3 wr))
      case atStart => exact ⟨0, Nat.zero_le _, rfl, rfl, HM, HB⟩
      case round =>
        clear HM HB
        rename_i wr0
        obtain ⟨n, hn, rfl, rfl, HM, HB⟩ := hrel
        have x0 : wr.cell? ⟨w4.heap.size, 0, none⟩ = some (.slice xA T.length xc) := (HM.out.cell _ _ 0 HXB.out.tb rfl).trans (HXB.out.cell 0)
        by_cases hlt : n < T.length
        · have hltz : (n : Int) < (T.length : Int) := by omega
          obtain ⟨R, hR⟩ : ∃ R, T[n]? = some R := ⟨_, List.getElem?_eq_getElem hlt⟩
          obtain ⟨g1, s1, rfl, tb1, hc1, o1⟩ := OwG.at HX9.out.ports hR
          have hRm := own_len o1
          obtain ⟨A7, c7, rfl, -⟩ := own_sl o1
          have hRz : (R.length : Int) ≤ 9223372036854775807 := by unfold maxLen at hRm; omega
          have HC1 := Lib.hid hc1
          have HTB1 := Lib.hid tb1
          have HO1 := Lib.hid o1
          have y1 := (HM.out.cell g1 _ n tb1 rfl).trans hc1
          clear hc1 tb1 o1 hR hRm
          go_wp2
          clear x0 y1
          go_loopg [11] R.length (fun gk s11 wr => ∃ k : Nat, k ≤ R.length ∧ gk = R.length - k ∧ s11 = .int .i64 k ∧ Hid (Mut w9 wr) ∧ Hid (Below w3.heap.size w3 wr))
          case atStart => exact ⟨0, Nat.zero_le _, rfl, rfl, HM, HB⟩
          case round =>
            clear HM HB
            rename_i wr1
            obtain ⟨k, hk, rfl, rfl, HM, HB⟩ := hrel
            have x0 : wr.cell? ⟨w4.heap.size, 0, none⟩ = some (.slice (some ⟨g1, 0, none⟩) T.length xc) := (HM.out.cell _ _ 0 HXB.out.tb rfl).trans (HXB.out.cell 0)
            have y1 := (HM.out.cell g1 _ n HTB1.out rfl).trans HC1.out
            by_cases hlt3 : k < R.length
            · have hlt3z : (k : Int) < (R.length : Int) := by omega
              obtain ⟨r, hr⟩ : ∃ r, R[k]? = some r := ⟨_, List.getElem?_eq_getElem hlt3⟩
              obtain ⟨g3, y, rfl, hg3, hy3, hf3, hm3⟩ := row_at len_pt rfl HM.out HO1.out hr 4 r.cost (by decide) rfl
              have HM2 := Lib.hid hm3
              have HG3 := Lib.hid hg3
              clear hm3 hg3 hr
              go_wp2
              go_roundg (R.length - (k + 1))
              case measure => omega
              case rel => exact ⟨k + 1, by omega, rfl, by go_num, HM2.out _, HB.out.setCell (p := ⟨g3, _, none⟩) HG3.out _⟩
            · have hlt3z : ¬ (k : Int) < (R.length : Int) := by omega
              go_wp2
              clear x0 y1
              go_roundg (T.length - (n + 1))
              case measure => omega
              case rel => exact ⟨n + 1, by omega, rfl, by go_num, HM, HB⟩
        · have hltz : ¬ (n : Int) < (T.length : Int) := by omega
          have x2 : wr.cell? ⟨w4.heap.size, 2, none⟩ = some (.slice xpA P.length xpc) := (HM.out.cell _ _ 2 HXB.out.tb rfl).trans (HXB.out.cell 2)
          go_wp2
          clear x0 x2
          clear hlt hltz hn
          go_loopg [12] P.length (fun gk s12 wr => ∃ k : Nat, k ≤ P.length ∧ gk = P.length - k ∧ s12 = .int .i64 k ∧ Hid (Mut w9 wr) ∧ Hid (Below w3.heap.size w3 wr))
          case atStart => exact ⟨0, Nat.zero_le _, rfl, rfl, HM, HB⟩
          case round =>
            clear HM HB
            rename_i wr1
            obtain ⟨k, hk, rfl, rfl, HM, HB⟩ := hrel
            have x2 : wr.cell? ⟨w4.heap.size, 2, none⟩ = some (.slice xpA P.length xpc) := (HM.out.cell _ _ 2 HXB.out.tb rfl).trans (HXB.out.cell 2)
            by_cases hlt3 : k < P.length
            · have hlt3z : (k : Int) < (P.length : Int) := by omega
              obtain ⟨r, hr⟩ : ∃ r, P[k]? = some r := ⟨_, List.getElem?_eq_getElem hlt3⟩
              obtain ⟨g3, y, rfl, hg3, hy3, hf3, hm3⟩ := row_at len_a rfl HM.out HX9.out.peers hr 0 r.1 (by decide) rfl
              have HM2 := Lib.hid hm3
              have HG3 := Lib.hid hg3
              simp only [Nat.add_zero] at hy3 hf3
              clear hm3 hg3 hr
              go_wp2
              go_region
              go_wp2
              go_roundg (P.length - (k + 1))
              case measure => omega
              case rel => exact ⟨k + 1, by omega, rfl, by go_num, (HM2.out _).on ((Below.refl _ _).drew), (HB.out.setCell (p := ⟨g3, _, none⟩) HG3.out _).drew⟩
            · have hlt3z : ¬ (k : Int) < (P.length : Int) := by omega
              have x3 : wr.cell? ⟨w4.heap.size, 3, none⟩ = some (.slice xwA Q.length xwc) := (HM.out.cell _ _ 3 HXB.out.tb rfl).trans (HXB.out.cell 3)
              go_wp2
              clear x2 x3
              clear hlt3 hlt3z hk
              go_loopg [13] Q.length (fun gk s13 wr => ∃ k : Nat, k ≤ Q.length ∧ gk = Q.length - k ∧ s13 = .int .i64 k ∧ Hid (Mut w9 wr) ∧ Hid (Below w3.heap.size w3 wr))
              case atStart => exact ⟨0, Nat.zero_le _, rfl, rfl, HM, HB⟩
              case round =>
                clear HM HB
                rename_i wr2
                obtain ⟨k, hk, rfl, rfl, HM, HB⟩ := hrel
                have x3 : wr.cell? ⟨w4.heap.size, 3, none⟩ = some (.slice xwA Q.length xwc) := (HM.out.cell _ _ 3 HXB.out.tb rfl).trans (HXB.out.cell 3)
                by_cases hlt3 : k < Q.length
                · have hlt3z : (k : Int) < (Q.length : Int) := by omega
                  obtain ⟨r, hr⟩ : ∃ r, Q[k]? = some r := ⟨_, List.getElem?_eq_getElem hlt3⟩
                  obtain ⟨g3, y, rfl, hg3, hy3, hf3, hm3⟩ := row_at len_w rfl HM.out HX9.out.ways hr 2 r.via (by decide) rfl
                  have HM2 := Lib.hid hm3
                  have HG3 := Lib.hid hg3
                  clear hm3 hg3 hr
                  go_wp2
                  go_roundg (Q.length - (k + 1))
                  case measure => omega
                  case rel => exact ⟨k + 1, by omega, rfl, by go_num, HM2.out _, HB.out.setCell (p := ⟨g3, _, none⟩) HG3.out _⟩
                · have hlt3z : ¬ (k : Int) < (Q.length : Int) := by omega
                  go_wp2_with fail
                  clear x3
                  (with_reducible refine (awake8_c _).mono ?_)
                  rintro e w10 ⟨rfl, hb⟩
                  have HB10 := Lib.hid (HB.out.trans (hb.mono HB.out.size))
                  clear hb HM HB
                  have HBW := Lib.hid (HB3.out.trans (HB10.out.mono HB3.out.size))
                  obtain ⟨d0, d1, d2, d3, d4⟩ := (N3.out.on HB10.out).five
                  obtain ⟨e0, e1, e2, e3, e4⟩ := (O3.out.on HB10.out).five
                  go_wp2_with fail
                  (with_reducible refine (rsame_c true _ _ _ _ T ten P Q BB _ _ _ _ T ten P Q BB _ (HT.out.on HBW.out) (HP.out.on HBW.out) (HQ.out.on HBW.out) (HBQ.out.on HBW.out) ((HO.out.on HB10.out).rd.1) ((HO.out.on HB10.out).rd.2.1) ((HO.out.on HB10.out).rd.2.2.1) ((HO.out.on HB10.out).rd.2.2.2) ⟨fun _ => ⟨rfl, rfl, rfl, rfl, rfl⟩, fun _ => rfl⟩).mono ?_)
                  rintro e w11 ⟨rfl, hb⟩
                  have HBE := Lib.hid (HBW.out.trans (hb.mono HBW.out.size))
                  clear hb d0 d1 d2 d3 d4 e0 e1 e2 e3 e4
                  go_wp2
                  go_ret
                  exact ⟨rfl, HBE.out⟩
end Go.Proofs

namespace Go.Proofs.Ytfmfbkfppfohbaa
open Go.ChangeShapes Go.WideShapes Go.ChangeAt Go.RowKit Go.Joins Go.Proofs.Hd

theorem laidOut_ccln : laidOutB Try.prog = true := by kernel_rfl
set_option maxRecDepth 100000 in
theorem ccln_lifted (os : Os) (started : os.Started) (H : Type) (enc : TypeId × Value → H) :
    ReturnsInHanded {} Try.checked os 6 .any (Rows.configClonesSpec.pre6 enc Try.prog Try.f6 Rows.configClonesRow.domain false) (Rows.configClonesSpec.post enc Try.prog Try.f6 false true false false) := by
  refine returnsInHanded_of_change_sized (C := Try.checked) own started (by kernel_rfl) Try.func6
    (ChangeSpec.witness6 (enc := enc) (C := Try.checked) false ⟨#[], #[.agg #[.slice none 0 0, .int .i64 0, .slice none 0 0, .slice none 0 0, .slice none 0 0], .agg #[.slice none 0 0, .int .i64 0, .slice none 0 0, .slice none 0 0, .slice none 0 0]], []⟩ 8 (by kernel_rfl) (by kernel_rfl) (by kernel_rfl) (by kernel_rfl)) ?_
  intro W base args ds gs before hval0 hW hcnd hsz _
  have hval : ∀ (j : Nat) t v, Try.f6.params[j]? = some t → args[j]? = some v → Value.okWide Try.prog W .any base t v := hval0
  have hW' := hW
  obtain ⟨p, q, hA0, hV, rfl, hfz, hnd⟩ := hW
  have hA : DataW.TrodAll enc Try.prog W 0 (fun _ => true) true Try.f6.params.toList args.toList ds p := hA0
  rw [Try.params6] at hA hval
  obtain ⟨v0, vs0, d0, ds0, p0, q0, hargs, rfl, rfl, h0, r0⟩ := trodAll_cons hA
  obtain ⟨v1, vs1, d1, ds1, p1, q1, rfl, rfl, rfl, h1, r1⟩ := trodAll_cons r0
  obtain ⟨rfl, rfl, rfl⟩ := trodAll_nil r1
  obtain rfl : args = #[v0, v1] := by cases args; simp_all
  obtain ⟨rfl, rfl⟩ := trodVars_none hV
  have k0 := h0
  have lt0 : ∀ x ∈ p0, x.block < W.heap.size := by obtain ⟨m, hm⟩ := k0; exact DataW.trod_lt m _ _ _ hm
  obtain ⟨ctv, cT, cn, cpv, cP, cwv, cQ, cbv, cB, rfl, chT, chP, chQ, chB, cz⟩ := open_cfg (hval 0 31 v0 rfl rfl) h0
  have cs := cz fun m hm => by simpa using List.all_eq_true.1 hsz m (DataW.weights_mem_each (j := 0) (t := 31) (by rw [Try.params6]; rfl) rfl m hm)
  have k1 := h1
  have lt1 : ∀ x ∈ p1, x.block < W.heap.size := by obtain ⟨m, hm⟩ := k1; exact DataW.trod_lt m _ _ _ hm
  obtain ⟨dtv, dT, dn, dpv, dP, dwv, dQ, dbv, dB, rfl, dhT, dhP, dhQ, dhB, dz⟩ := open_cfg (hval 1 31 v1 rfl rfl) h1
  have ds := dz fun m hm => by simpa using List.all_eq_true.1 hsz m (DataW.weights_mem_each (j := 1) (t := 31) (by rw [Try.params6]; rfl) rfl m hm)
  clear hA0 hval0
  refine (cldl_c ctv cpv cwv cbv cT cn cP cQ cB dtv dpv dwv dbv dT dn dP dQ dB W chT chP chQ chB cs dhT dhP dhQ dhB).mono fun e W' ⟨he, hg⟩ => ?_
  subst he
  exact ⟨_, rfl, _, _, _, [], _, [], hW', trodAll_mk1 (shut_bool Try.underlying4 _), (trodAll_cons_mk (Below.trod laidOut_ccln (by kernel_rfl) (of_decide_eq_true (by kernel_rfl)) k0 hg lt0) (trodAll_cons_mk (Below.trod laidOut_ccln (by kernel_rfl) (of_decide_eq_true (by kernel_rfl)) k1 hg lt1) trodAll_mk0)), rfl, hg.frame _, (fun h => by cases h)⟩

theorem ccln_holds : Rows.ConfigClonesSaid :=
  OpenClaim.holds_of_wide 6 Try.f6 rfl rfl rfl rfl rfl rfl rfl ⟨rfl, rfl, rfl, rfl, rfl⟩ rfl rfl rfl rfl rfl (by kernel_rfl) Try.func6 (by kernel_rfl)
    (of_decide_eq_true (by kernel_rfl)) (by unfold Func.isWrapper; first | (rw [if_pos (by decide +kernel)]; kernel_rfl) | (rw [if_neg (by decide +kernel)]; exact ⟨rfl, rfl⟩))
    (fun os started H enc _ => ccln_lifted os started H enc)
#print axioms ccln_holds
end Go.Proofs.Ytfmfbkfppfohbaa
