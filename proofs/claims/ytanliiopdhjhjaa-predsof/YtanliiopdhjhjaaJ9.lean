/-
  Contract of package config: formed. Conditions as the theorem lists them.
  Contract of package config: Sound. Conditions as the theorem lists them.
  Stamps as bits; contract of package config: stamped. Conditions as each theorem lists them.
  Contracts of slices.Equal at pairs, ways, ports. Conditions as each theorem lists them.
  Contracts of slices.Index and slices.Contains at spots. Conditions as each theorem lists them.
  Contract of package config: Stamp. Conditions as the theorem lists them.
  What a sound configuration says of each of its rules, and what becomes of a packet as a function of lists. No program in sight. Conditions as each theorem lists them.
  A range over a function by a method value, whose body may write whatever it makes: it keeps the loop's own two blocks and what lay below a bound. No program in sight. Conditions as each theorem lists them.
  All rules of a configuration, one after the other; contract of (network).rules, as a range over it uses it. Conditions as each theorem lists them.
-/
import Derived.Test.YtanliiopdhjhjaaJ8
import Derived.Deep.LoopGhost
import Derived.Deep.RegionHeld3
import Derived.Deep.DeepCutAuto
import Derived.Lib.Hide
import Derived.RangeFuncNested
import Derived.RangeFuncLeaves
import Derived.RangeFuncCalls
import Derived.Shelf.Abstract
import Derived.Shelf.RegionOpen
import Derived.WalkKit
import Derived.OwnWalkIn
import Derived.TacticsInMore
namespace Go.Proofs
open Go.RowKit Go.Proofs.Hd Go.Lib
set_option maxRecDepth 100000 in
set_option maxHeartbeats 2000000 in
theorem cformed_c (x : Bool) (pv wv : Value) (N : Nat) (ten : Int) (P : List (Int × Int)) (Q : List Wa) (w : World) (hP : Pe w pv P) (hQ : Wy w wv Q) (hx : x = true ↔ okPe P ten P.length ∧ okWy Q ten N Q.length) : Calls Try.prog 40 #[.agg #[.int .i64 ten, pv, wv], .int .i64 (N : Int)] w fun e w' => e = .returned (.bool x) ∧ Below w.heap.size w w' := by
  obtain ⟨pA, pc, rfl, hpm, hPA⟩ := hP
  obtain ⟨wA, wc, rfl, hwm, hWA⟩ := hQ
  have HPA := Lib.hid hPA
  have HWA := Lib.hid hWA
  have hpz : (P.length : Int) ≤ 9223372036854775807 := by unfold maxLen at hpm; omega
  have hwz : (Q.length : Int) ≤ 9223372036854775807 := by unfold maxLen at hwm; omega
  have B0 : Hid (Below w.heap.size w (w.alloc (.cells #[.int .i64 ten, .slice pA P.length pc, .slice wA Q.length wc] 28))) := below1 w _
  have M0 : Hid (Blk (w.alloc (.cells #[.int .i64 ten, .slice pA P.length pc, .slice wA Q.length wc] 28)) w.heap.size 28 #[.int .i64 ten, .slice pA P.length pc, .slice wA Q.length wc]) := Blk.new w _ _
  have bad : ¬ (okPe P ten P.length ∧ okWy Q ten N Q.length) → x = false := fun h => by
    cases hxx : x with
    | false => rfl
    | true => exact absurd (hx.1 hxx) h
  have BAD := Lib.hid bad
  have GOOD := Lib.hid hx.2
  clear hx bad hPA hWA hpm hwm
  obtain ⟨d0, d1, d2⟩ := M0.out.three
  go_enter Try.func40, Try.ntmps40
  go_wp2
  clear d0 d1 d2
  generalize w.alloc (.cells #[.int .i64 ten, .slice pA P.length pc, .slice wA Q.length wc] 28) = w1 at B0 M0
  go_loopg [6, 12] P.length (fun gk _ s12 wr => ∃ k : Nat, k ≤ P.length ∧ gk = P.length - k ∧ s12 = .int .i64 k ∧ Hid (okPe P ten k) ∧ Hid (Below w1.heap.size w1 wr))
  case atStart => exact ⟨0, Nat.zero_le _, rfl, rfl, fun j x hj => absurd hj (Nat.not_lt_zero _), Below.refl _ _⟩
  case round =>
    obtain ⟨k, hk, rfl, rfl, HO, HW⟩ := hrel
    by_cases hlt : k < P.length
    · have hltz : (k : Int) < (P.length : Int) := by omega
      obtain ⟨y, hy⟩ : ∃ y, P[k]? = some y := ⟨_, List.getElem?_eq_getElem hlt⟩
      obtain ⟨pb, po, rfl, _, hc⟩ := HPA.out (by rintro rfl; simp at hlt)
      have HBW := Lib.hid (B0.out.trans (HW.out.mono B0.out.size))
      have x0 := on_some HBW.out (hc k y hy).1
      have x1 := on_some HBW.out (hc k y hy).2
      have HXX := Lib.hid hy
      obtain ⟨ya, yb⟩ := y
      simp only at x0 x1
      obtain ⟨d0, d1, d2⟩ := (M0.out.on HW.out).three
      have bS := below1 wr (.cells #[.int .i64 ya, .int .i64 yb] 121)
      have nS := Blk.new wr 121 #[.int .i64 ya, .int .i64 yb]
      clear hc hy
      go_upto_region 4 with (fail)
      generalize wr.alloc (.cells #[.int .i64 ya, .int .i64 yb] 121) = w5 at bS nS ⊢
      obtain ⟨s0, s1⟩ := nS.duo
      have HB5 := Lib.hid (HW.out.trans (bS.mono HW.out.size))
      have d0 := on_some bS d0
      clear bS nS x0 x1 d1 d2
      cases h1 : Hd.inB ya ten with
      | false =>
        have HE : Hid (x = false) := BAD.out fun h => by
          have := (h.1 k _ hlt HXX.out).1
          simp only at this
          rw [h1] at this
          cases this
        go_wp2_with fail
        (with_reducible refine (cwin_c false ya ten _ h1).mono ?_)
        rintro e w6 ⟨rfl, rfl⟩
        go_wp2
        go_ret
        exact ⟨by rw [HE.out]; rfl, B0.out.trans (HB5.out.mono B0.out.size)⟩
      | true =>
        cases h2 : Hd.inB yb ten with
        | false =>
          have HE : Hid (x = false) := BAD.out fun h => by
            have := (h.1 k _ hlt HXX.out).2
            simp only at this
            rw [h2] at this
            cases this
          go_wp2_with fail
          (with_reducible refine (cwin_c true ya ten _ h1).mono ?_)
          rintro e w6 ⟨rfl, rfl⟩
          go_wp2_with fail
          (with_reducible refine (cwin_c false yb ten _ h2).mono ?_)
          rintro e w7 ⟨rfl, rfl⟩
          go_wp2
          go_ret
          exact ⟨by rw [HE.out]; rfl, B0.out.trans (HB5.out.mono B0.out.size)⟩
        | true =>
          have HO2 : Hid (okPe P ten (k + 1)) := fun j z hj hz => by
            by_cases e : j = k
            · subst e
              rw [HXX.out] at hz
              injection hz with hz
              subst hz
              exact ⟨h1, h2⟩
            · exact HO.out j z (by omega) hz
          go_wp2_with fail
          (with_reducible refine (cwin_c true ya ten _ h1).mono ?_)
          rintro e w6 ⟨rfl, rfl⟩
          go_wp2_with fail
          (with_reducible refine (cwin_c true yb ten _ h2).mono ?_)
          rintro e w7 ⟨rfl, rfl⟩
          go_wp2
          go_roundg (P.length - (k + 1))
          case measure => omega
          case rel => exact ⟨k + 1, by omega, rfl, by go_num, HO2, HB5⟩
    · have hltz : ¬ (k : Int) < (P.length : Int) := by omega
      obtain rfl : k = P.length := by omega
      obtain ⟨d0, d1, d2⟩ := (M0.out.on HW.out).three
      have HOP := HO
      go_wp2
      clear d0 d1 d2
      go_loopg [8, 34] Q.length (fun gk _ s34 wq => ∃ k : Nat, k ≤ Q.length ∧ gk = Q.length - k ∧ s34 = .int .i64 k ∧ Hid (okWy Q ten N k) ∧ Hid (Below w1.heap.size w1 wq))
      case atStart => exact ⟨0, Nat.zero_le _, rfl, rfl, fun j x hj => absurd hj (Nat.not_lt_zero _), HW⟩
      case round =>
        clear HW
        rename_i wr0
        obtain ⟨k, hk, rfl, rfl, HO, HW⟩ := hrel
        by_cases hlt : k < Q.length
        · have hltz : (k : Int) < (Q.length : Int) := by omega
          obtain ⟨y, hy⟩ : ∃ y, Q[k]? = some y := ⟨_, List.getElem?_eq_getElem hlt⟩
          obtain ⟨qb, qo, rfl, _, hc⟩ := HWA.out (by rintro rfl; simp at hlt)
          have HBW := Lib.hid (B0.out.trans (HW.out.mono B0.out.size))
          have x0 := on_some HBW.out (hc k y hy).1
          have x1 := on_some HBW.out (hc k y hy).2.1
          have x2 := on_some HBW.out (hc k y hy).2.2
          have HXX := Lib.hid hy
          obtain ⟨ya, yb, yc⟩ := y
          simp only at x0 x1 x2
          obtain ⟨d0, d1, d2⟩ := (M0.out.on HW.out).three
          have bS := below1 wr (.cells #[.int .i64 ya, .int .i64 yb, .int .i64 yc] 123)
          have nS := Blk.new wr 123 #[.int .i64 ya, .int .i64 yb, .int .i64 yc]
          clear hc hy
          go_upto_region 10 with (fail)
          generalize wr.alloc (.cells #[.int .i64 ya, .int .i64 yb, .int .i64 yc] 123) = w5 at bS nS ⊢
          obtain ⟨s0, s1, s2⟩ := nS.three
          have HB5 := Lib.hid (HW.out.trans (bS.mono HW.out.size))
          have d0 := on_some bS d0
          clear bS nS x0 x1 x2 d1 d2
          cases h1 : Hd.inB ya ten with
          | false =>
            have HE : Hid (x = false) := BAD.out fun h => by
              have := (h.2 k _ hlt HXX.out).1
              simp only at this
              rw [h1] at this
              cases this
            go_wp2_with fail
            (with_reducible refine (cwin_c false ya ten _ h1).mono ?_)
            rintro e w6 ⟨rfl, rfl⟩
            go_wp2
            go_ret
            exact ⟨by rw [HE.out]; rfl, B0.out.trans (HB5.out.mono B0.out.size)⟩
          | true =>
            cases h2 : Hd.inB yb ten with
            | false =>
              have HE : Hid (x = false) := BAD.out fun h => by
                have := (h.2 k _ hlt HXX.out).2.1
                simp only at this
                rw [h2] at this
                cases this
              go_wp2_with fail
              (with_reducible refine (cwin_c true ya ten _ h1).mono ?_)
              rintro e w6 ⟨rfl, rfl⟩
              go_wp2_with fail
              (with_reducible refine (cwin_c false yb ten _ h2).mono ?_)
              rintro e w7 ⟨rfl, rfl⟩
              go_wp2
              go_ret
              exact ⟨by rw [HE.out]; rfl, B0.out.trans (HB5.out.mono B0.out.size)⟩
            | true =>
              cases h3 : Hd.inB yc N with
              | false =>
                have HE : Hid (x = false) := BAD.out fun h => by
                  have := (h.2 k _ hlt HXX.out).2.2
                  simp only at this
                  rw [h3] at this
                  cases this
                go_wp2_with fail
                (with_reducible refine (cwin_c true ya ten _ h1).mono ?_)
                rintro e w6 ⟨rfl, rfl⟩
                go_wp2_with fail
                (with_reducible refine (cwin_c true yb ten _ h2).mono ?_)
                rintro e w7 ⟨rfl, rfl⟩
                go_wp2_with fail
                (with_reducible refine (cwin_c false yc N _ h3).mono ?_)
                rintro e w8 ⟨rfl, rfl⟩
                go_wp2
                go_ret
                exact ⟨by rw [HE.out]; rfl, B0.out.trans (HB5.out.mono B0.out.size)⟩
              | true =>
                have HO2 : Hid (okWy Q ten N (k + 1)) := fun j z hj hz => by
                  by_cases e : j = k
                  · subst e
                    rw [HXX.out] at hz
                    injection hz with hz
                    subst hz
                    exact ⟨h1, h2, h3⟩
                  · exact HO.out j z (by omega) hz
                go_wp2_with fail
                (with_reducible refine (cwin_c true ya ten _ h1).mono ?_)
                rintro e w6 ⟨rfl, rfl⟩
                go_wp2_with fail
                (with_reducible refine (cwin_c true yb ten _ h2).mono ?_)
                rintro e w7 ⟨rfl, rfl⟩
                go_wp2_with fail
                (with_reducible refine (cwin_c true yc N _ h3).mono ?_)
                rintro e w8 ⟨rfl, rfl⟩
                go_wp2
                go_roundg (Q.length - (k + 1))
                case measure => omega
                case rel => exact ⟨k + 1, by omega, rfl, by go_num, HO2, HB5⟩
        · have hltz : ¬ (k : Int) < (Q.length : Int) := by omega
          obtain rfl : k = Q.length := by omega
          have HE : Hid (x = true) := GOOD.out ⟨HOP.out, HO.out⟩
          go_wp2
          go_ret
          exact ⟨by rw [HE.out]; rfl, B0.out.trans (HW.out.mono B0.out.size)⟩
end Go.Proofs

namespace Go.Proofs.Hd
open Go.RowKit
theorem polT_size {T : List (List Pt)} {ten : Int} {P : List (Int × Int)} {Q : List Wa} (h : ¬ szP T ten P Q) : polT T ten P Q = 4 := by
  unfold polT
  rw [if_pos (Classical.not_not.1 h)]
theorem polT_form {T : List (List Pt)} {ten : Int} {P : List (Int × Int)} {Q : List Wa} (h : szP T ten P Q) (h2 : ¬ (okPe P ten P.length ∧ okWy Q ten T.length Q.length)) : polT T ten P Q = 2 := by
  unfold polT
  rw [if_neg h, if_pos]
  by_cases h3 : okPe P ten P.length
  · exact .inr fun h4 => h2 ⟨h3, h4⟩
  · exact .inl h3
theorem polT_ok {T : List (List Pt)} {ten : Int} {P : List (Int × Int)} {Q : List Wa} (h : szP T ten P Q) (h2 : okPe P ten P.length ∧ okWy Q ten T.length Q.length) : polT T ten P Q = 0 := by
  unfold polT
  rw [if_neg h, if_neg]
  rintro (h3 | h3)
  · exact h3 h2.1
  · exact h3 h2.2
theorem yes_no (p : Prop) : ∃ x : Bool, x = true ↔ p := by
  by_cases h : p
  · exact ⟨true, fun _ => h, fun _ => rfl⟩
  · exact ⟨false, fun h2 => (by cases h2), fun h2 => absurd h2 h⟩
end Go.Proofs.Hd
namespace Go.Proofs
open Go.RowKit Go.Proofs.Hd Go.Lib
set_option maxRecDepth 100000 in
set_option maxHeartbeats 4000000 in
theorem csound_c (tv pv wv bv : Value) (T : List (List Pt)) (ten : Int) (P : List (Int × Int)) (Q : List Wa) (BB : List (List (List Rl))) (w : World) (hT : PsT w tv T) (hP : Pe w pv P) (hQ : Wy w wv Q) (hB : RuQ w bv BB) : Calls Try.prog 20 #[.agg #[tv, .int .i64 ten, pv, wv, bv]] w fun e w' => e = .returned (.int .i64 (cfgT T ten P Q BB)) ∧ Below w.heap.size w w' := by
  have HT := Lib.hid hT
  have HP := Lib.hid hP
  have HQ := Lib.hid hQ
  obtain ⟨A, cap, rfl, htm, hA⟩ := hT
  obtain ⟨pA, pc, rfl, -, -⟩ := hP
  obtain ⟨wA, wc, rfl, -, -⟩ := hQ
  obtain ⟨bA, bc, rfl, hbm, hBA⟩ := hB
  have hbz : (BB.length : Int) ≤ 9223372036854775807 := by unfold maxLen at hbm; omega
  have B0 : Below w.heap.size w (w.alloc (.cells #[.slice A T.length cap, .int .i64 ten, .slice pA P.length pc, .slice wA Q.length wc, .slice bA BB.length bc] 31)) := below1 w _
  have N0 : Hid (Blk (w.alloc (.cells #[.slice A T.length cap, .int .i64 ten, .slice pA P.length pc, .slice wA Q.length wc, .slice bA BB.length bc] 31)) w.heap.size 31 #[.slice A T.length cap, .int .i64 ten, .slice pA P.length pc, .slice wA Q.length wc, .slice bA BB.length bc]) := Blk.new w _ _
  have HA := Lib.hid hA
  have HBA := Lib.hid hBA
  clear hA hBA
  go_enter Try.func20, Try.ntmps20
  go_wp2_with fail
  (with_reducible refine (tpsound_c _ T _ (HT.out.on B0)).mono ?_)
  rintro e w1 ⟨rfl, hb1⟩
  have HB1 := Lib.hid (B0.trans (hb1.mono B0.size))
  have N1 := Lib.hid (N0.out.on hb1)
  clear hb1 B0 N0
  by_cases hs : sTp T = 0
  · obtain ⟨d0, d1, d2, d3, d4⟩ := N1.out.five
    have hn := ports_sound hs
    have h6 := (szT_iff.1 (sTp_zero hs).1).2.1
    have HC : Hid (cfgT T ten P Q BB = if polT T ten P Q = 0 then (if BB.length = T.length then firT BB T else 4) else polT T ten P Q) := by show _ = _; unfold cfgT; rw [if_pos hs]
    rw [hs]
    clear hs
    obtain ⟨x, hx⟩ := yes_no (szP T ten P Q)
    go_wp2_with fail
    (with_reducible refine (csized_c x _ _ _ T ten P Q _ (HT.out.on HB1.out) (HP.out.on HB1.out) (HQ.out.on HB1.out) hn hx).mono ?_)
    rintro e w2 ⟨rfl, hb2⟩
    have HB2 := Lib.hid (HB1.out.trans (hb2.mono HB1.out.size))
    have N2 := Lib.hid (N1.out.on hb2)
    clear hb2 HB1 N1 d0 d1 d2 d3 d4
    have HXZ := Lib.hid hx
    clear hx
    cases x with
    | false =>
      have HE : Hid (cfgT T ten P Q BB = 4) := by
        show _ = _
        rw [HC.out, polT_size fun h => by have := HXZ.out.2 h; cases this]
        rfl
      go_wp2
      go_ret
      exact ⟨by rw [HE.out]; rfl, HB2.out⟩
    | true =>
      have HS1 : Hid (szP T ten P Q) := HXZ.out.1 rfl
      clear HXZ
      obtain ⟨d0, d1, d2, d3, d4⟩ := N2.out.five
      obtain ⟨y, hy⟩ := yes_no (okPe P ten P.length ∧ okWy Q ten T.length Q.length)
      go_wp2_with fail
      (with_reducible refine (cformed_c y _ _ T.length ten P Q _ (HP.out.on HB2.out) (HQ.out.on HB2.out) hy).mono ?_)
      rintro e w3 ⟨rfl, hb3⟩
      have HB3 := Lib.hid (HB2.out.trans (hb3.mono HB2.out.size))
      have N3 := Lib.hid (N2.out.on hb3)
      clear hb3 HB2 N2 d0 d1 d2 d3 d4
      have HYZ := Lib.hid hy
      clear hy
      cases y with
      | false =>
        have HE : Hid (cfgT T ten P Q BB = 2) := by
          show _ = _
          rw [HC.out, polT_form HS1.out fun h => by have := HYZ.out.2 h; cases this]
          rfl
        go_wp2
        go_ret
        exact ⟨by rw [HE.out]; rfl, HB3.out⟩
      | true =>
        have HC2 : Hid (cfgT T ten P Q BB = if BB.length = T.length then firT BB T else 4) := by
          show _ = _
          rw [HC.out, polT_ok HS1.out (HYZ.out.1 rfl), if_pos rfl]
        clear HC HYZ
        obtain ⟨d0, d1, d2, d3, d4⟩ := N3.out.five
        by_cases hl : BB.length = T.length
        · have HC : Hid (cfgT T ten P Q BB = firT BB T) := by show _ = _; rw [HC2.out, if_pos hl]
          have hbl : (BB.length : Int) ≤ 6 := by omega
          have HL := Lib.hid hl
          have hne1 : ((BB.length : Int) != (T.length : Int)) = false := by simp [hl]
          clear hl HC2
          go_wp2
          clear d0 d1 d2 d3 d4
          go_loopg [4, 5, 6, 38] BB.length (fun gk _ _ _ s38 wr => ∃ k : Nat, k ≤ BB.length ∧ gk = BB.length - k ∧ s38 = .int .i64 k ∧ Hid (firT BB T = firT (BB.drop k) (T.drop k)) ∧ Hid (Below w3.heap.size w3 wr))
          case atStart => exact ⟨0, Nat.zero_le _, rfl, rfl, rfl, Below.refl _ _⟩
          case round =>
            obtain ⟨k, hk, rfl, rfl, HF, HW⟩ := hrel
            have HB4 := Lib.hid (HB3.out.trans (HW.out.mono HB3.out.size))
            obtain ⟨d0, d1, d2, d3, d4⟩ := (N3.out.on HW.out).five
            by_cases hlt : k < BB.length
            · have hltz : (k : Int) < (BB.length : Int) := by omega
              have hkT : k < T.length := by have := HL.out; omega
              have hkTz : (k : Int) < (T.length : Int) := by omega
              obtain ⟨B, hBk⟩ : ∃ B, BB[k]? = some B := ⟨_, List.getElem?_eq_getElem hlt⟩
              obtain ⟨L, hLk⟩ : ∃ L, T[k]? = some L := ⟨_, List.getElem?_eq_getElem hkT⟩
              obtain ⟨bb, bo, rfl, _, hbc⟩ := HBA.out (by rintro rfl; simp at hlt)
              obtain ⟨tb, tof, rfl, _, htc⟩ := HA.out (by rintro rfl; simp at hkT)
              obtain ⟨s1, hs1, hR⟩ := hbc k B hBk
              obtain ⟨s2, hs2, hPs⟩ := htc k L hLk
              have hPo := hPs.po
              obtain ⟨A1, c1, rfl, -⟩ := id hR
              obtain ⟨A2, c2, rfl, -⟩ := id hPs
              have x1 := on_some HB4.out hs1
              have x2 := on_some HB4.out hs2
              have HR := Lib.hid hR
              have HPo := Lib.hid hPo
              have HN := Lib.hid (firT_at hBk hLk)
              obtain ⟨z, hz⟩ : ∃ z, sT B (L.map Pt.kind) = z := ⟨_, rfl⟩
              rw [hz] at HN
              have HZ := Lib.hid hz
              clear hbc htc hs1 hs2 hR hPs hPo hBk hLk hz
              go_wp2_with fail
              (with_reducible refine (tabs_c _ _ B (L.map Pt.kind) _ (HR.out.on HB4.out) (HPo.out.on HB4.out)).mono ?_)
              rintro e w5 ⟨rfl, hb⟩
              rw [HZ.out]
              have HBE := Lib.hid (HB4.out.trans (hb.mono HB4.out.size))
              have HWE := Lib.hid (HW.out.trans (hb.mono HW.out.size))
              clear HB4 HW d0 d1 d2 d3 d4 hb x1 x2
              by_cases hz0 : z = 0
              · subst hz0
                rw [if_pos rfl] at HN
                have HF2 : Hid (firT BB T = firT (BB.drop (k + 1)) (T.drop (k + 1))) := HF.out.trans HN.out
                go_wp2
                go_roundg (BB.length - (k + 1))
                case measure => omega
                case rel => exact ⟨k + 1, by omega, rfl, by go_num, HF2, HWE⟩
              · rw [if_neg hz0] at HN
                have HE : Hid (cfgT T ten P Q BB = z) := HC.out.trans (HF.out.trans HN.out)
                go_wp2
                go_ret
                exact ⟨by rw [HE.out]; rfl, HBE.out⟩
            · have hltz : ¬ (k : Int) < (BB.length : Int) := by omega
              have HE : Hid (cfgT T ten P Q BB = 0) := HC.out.trans (HF.out.trans (firT_end T (by omega)))
              go_wp2
              go_ret
              exact ⟨by rw [HE.out]; rfl, HB4.out⟩
        · have HE : Hid (cfgT T ten P Q BB = 4) := by show _ = _; rw [HC2.out, if_neg hl]
          have hlz : ¬ (BB.length : Int) = (T.length : Int) := by omega
          have hne1 : ((BB.length : Int) != (T.length : Int)) = true := bne_iff_ne.2 hlz
          clear HC2
          go_wp2
          go_ret
          exact ⟨by rw [HE.out]; rfl, HB3.out⟩
  · have HE : Hid (cfgT T ten P Q BB = sTp T) := by show _ = _; unfold cfgT; rw [if_neg hs]
    obtain ⟨q, hq⟩ : ∃ q, sTp T = q := ⟨_, rfl⟩
    rw [hq] at hs HE ⊢
    clear hq
    go_wp2
    go_ret
    exact ⟨by rw [HE.out]; rfl, HB1.out⟩
end Go.Proofs

namespace Go.Proofs
open Go.RowKit Go.Proofs.Hd
/-- Where the fields of a stamp end. -/
def stE (k : Nat) : Nat := if k = 0 then 88 else if k = 1 then 112 else if k = 2 then 120 else 128
/-- The bits of a stamp. -/
def stF (n m : Nat) (j : Nat) : Bool := if j < 112 then (n + 1).testBit (j - 88) else if j < 120 then m.testBit (j - 112) else false
/-- What is known behind k fields of a stamp. -/
def StB (n m k : Nat) (vh vl ch cl : BitVec 64) : Prop := ∀ j, j < 128 → hbit ch cl j = (decide (88 ≤ j) && decide (j < stE k)) ∧ hbit vh vl j = ((decide (88 ≤ j) && decide (j < stE k)) && stF n m j)
/-- The cube of a field. -/
def FldB (a n q : Nat) (vh vl ch cl : BitVec 64) : Prop := ∀ j, j < 128 → hbit ch cl j = (decide (a ≤ j) && decide (j < a + n)) ∧ hbit vh vl j = ((decide (a ≤ j) && decide (j < a + n)) && q.testBit (j - a))
theorem fld_bits (a n q : Nat) (hn : a + n ≤ 128) (h64 : n ≤ 64) : FldB a n q (putH 0#64 a n (BitVec.ofNat 64 q) &&& maskH a n) (putL 0#64 a n (BitVec.ofNat 64 q) &&& maskL a n) (maskH a n) (maskL a n) := fun j hj => by
  refine ⟨mask_bit a n j hn hj, ?_⟩
  rw [hbit_and, put_bit _ _ _ _ _ _ h64 hj, mask_bit a n j hn hj]
  have hz : hbit 0#64 0#64 j = false := by unfold hbit; split <;> simp
  rw [hz, BitVec.getLsbD_ofNat]
  by_cases h1 : a ≤ j
  · by_cases h2 : j < a + n
    · have h3 : j - a < 64 := by omega
      simp [h1, h2, h3]
    · simp [h1, h2]
  · simp [h1]
theorem st_step {n m k q len : Nat} {avh avl ach acl bvh bvl bch bcl : BitVec 64} (hs : StB n m k avh avl ach acl) (hf : FldB (stE k) len q bvh bvl bch bcl) (he : stE k + len = stE (k + 1)) (h88 : 88 ≤ stE k) (hq : ∀ i, i < len → q.testBit i = stF n m (stE k + i)) :
    metB avh avl ach acl bvh bvl bch bcl = true ∧ StB n m (k + 1) (avh ||| bvh) (avl ||| bvl) (ach ||| bch) (acl ||| bcl) := by
  refine ⟨?_, fun j hj => ?_⟩
  · unfold metB
    rw [Bool.and_eq_true, Bool.and_eq_true]
    refine ⟨(snd_bits _ _ _ _).2 fun j hj h => ?_, (snd_bits _ _ _ _).2 fun j hj h => ?_, (agr_bits _ _ _ _ _ _ _ _).2 fun j hj h1 h2 => ?_⟩
    · rw [(hs j hj).2] at h
      rw [(hs j hj).1]
      exact (Bool.and_eq_true _ _ ▸ h : _ ∧ _).1
    · rw [(hf j hj).2] at h
      rw [(hf j hj).1]
      exact (Bool.and_eq_true _ _ ▸ h : _ ∧ _).1
    · rw [(hs j hj).1] at h1
      rw [(hf j hj).1] at h2
      simp at h1 h2
      omega
  · rw [hbit_or, hbit_or, (hs j hj).1, (hs j hj).2, (hf j hj).1, (hf j hj).2]
    by_cases h1 : 88 ≤ j
    · by_cases h2 : j < stE k
      · have h3 : j < stE (k + 1) := by omega
        have h4 : ¬ stE k ≤ j := by omega
        simp [h1, h2, h3, h4]
      · have h4 : stE k ≤ j := by omega
        by_cases h3 : j < stE (k + 1)
        · have h5 : j < stE k + len := by omega
          have h6 := hq (j - stE k) (by omega)
          rw [show stE k + (j - stE k) = j by omega] at h6
          simp [h1, h2, h3, h4, h5, h6]
        · have h5 : ¬ j < stE k + len := by omega
          simp [h2, h3, h5]
    · have h2 : ¬ stE k ≤ j := by omega
      simp [h1, h2]
theorem st_zero (n m : Nat) : StB n m 0 0#64 0#64 0#64 0#64 := fun j _ => by
  have hz : hbit 0#64 0#64 j = false := by unfold hbit; split <;> simp
  rw [hz]
  have h : (decide (88 ≤ j) && decide (j < stE 0)) = false := by
    have e : stE 0 = 88 := rfl
    rw [e]
    by_cases h1 : 88 ≤ j
    · have h2 : ¬ j < 88 := by omega
      simp [h2]
    · simp [h1]
  rw [h]
  exact ⟨rfl, rfl⟩
theorem quad {w : World} {g : Nat} {t : TypeId} {x0 x1 x2 x3 : Value} (h : Blk w g t #[x0, x1, x2, x3]) : w.cell? ⟨g, 0, none⟩ = some x0 ∧ w.cell? ⟨g, 1, none⟩ = some x1 ∧ w.cell? ⟨g, 2, none⟩ = some x2 ∧ w.cell? ⟨g, 3, none⟩ = some x3 :=
  ⟨(h.cell 0).trans rfl, (h.cell 1).trans rfl, (h.cell 2).trans rfl, (h.cell 3).trans rfl⟩
theorem trio {w : World} {g : Nat} {t : TypeId} {x0 x1 x2 : Value} (h : Blk w g t #[x0, x1, x2]) : w.cell? ⟨g, 0, none⟩ = some x0 ∧ w.cell? ⟨g, 1, none⟩ = some x1 ∧ w.cell? ⟨g, 2, none⟩ = some x2 :=
  ⟨(h.cell 0).trans rfl, (h.cell 1).trans rfl, (h.cell 2).trans rfl⟩
theorem put4 {w : World} {g : Nat} {t : TypeId} {x0 x1 x2 x3 : Value} (h : Blk w g t #[x0, x1, x2, x3]) (a0 a1 a2 a3 : Value) : Blk ((((w.setCell ⟨g, 0, none⟩ a0).setCell ⟨g, 1, none⟩ a1).setCell ⟨g, 2, none⟩ a2).setCell ⟨g, 3, none⟩ a3) g t #[a0, a1, a2, a3] := by
  have h1 := (((h.set 0 a0).set 1 a1).set 2 a2).set 3 a3
  simpa using h1
theorem free4 {w : World} {g : Nat} {t : TypeId} {cs : Array Value} (h : Blk w g t cs) : w.frozen? ⟨g, 0, none⟩ = false ∧ w.frozen? ⟨g, 1, none⟩ = false ∧ w.frozen? ⟨g, 2, none⟩ = false ∧ w.frozen? ⟨g, 3, none⟩ = false := ⟨h.free 0, h.free 1, h.free 2, h.free 3⟩
attribute [local go_sem] uv_nonneg
theorem field_f (a n q : Nat) (w : World) (hn : a + n ≤ 128) (h64 : n ≤ 63) (hq : q < 2 ^ n) : Calls Try.prog 61 #[.int .i64 a, .int .i64 n, .int .u64 (q : Int), .int .i64 n] w fun e w' => ∃ vh vl ch cl : BitVec 64, e = .returned (.tuple #[.agg #[.int .u64 (uv vh), .int .u64 (uv vl), .int .u64 (uv ch), .int .u64 (uv cl)], .int .i64 0]) ∧ FldB a n q vh vl ch cl ∧ Below w.heap.size w w' := by
  have h2 : 2 ^ n < 2 ^ 64 := Nat.pow_lt_pow_right (by decide) (by omega)
  have e : uv (BitVec.ofNat 64 q) = (q : Int) := by unfold uv; rw [BitVec.toNat_ofNat, Nat.mod_eq_of_lt (by omega)]
  have hv : ¬ uv (low n) < uv (BitVec.ofNat 64 q) := by rw [e]; unfold uv; rw [low_nat n (by omega)]; omega
  have h := cfield_yes a n n (BitVec.ofNat 64 q) w hn (by omega) hv (Nat.le_refl _)
  rw [e, Nat.add_sub_cancel] at h
  exact h.mono fun _ _ h => ⟨_, _, _, _, h.1, fld_bits a n q hn (by omega), h.2⟩
theorem meet_f {n m k q len : Nat} {avh avl ach acl bvh bvl bch bcl : BitVec 64} (hs : StB n m k avh avl ach acl) (hf : FldB (stE k) len q bvh bvl bch bcl) (he : stE k + len = stE (k + 1)) (h88 : 88 ≤ stE k) (hq : ∀ i, i < len → q.testBit i = stF n m (stE k + i)) (w : World) :
    Calls Try.prog 62 #[.agg #[.int .u64 (uv avh), .int .u64 (uv avl), .int .u64 (uv ach), .int .u64 (uv acl)], .agg #[.int .u64 (uv bvh), .int .u64 (uv bvl), .int .u64 (uv bch), .int .u64 (uv bcl)]] w fun e w' => ∃ cvh cvl cch ccl : BitVec 64, e = .returned (.tuple #[.agg #[.int .u64 (uv cvh), .int .u64 (uv cvl), .int .u64 (uv cch), .int .u64 (uv ccl)], .bool true]) ∧ StB n m (k + 1) cvh cvl cch ccl ∧ Below w.heap.size w w' := by
  obtain ⟨h1, h2⟩ := st_step hs hf he h88 hq
  have h := meet_c avh avl ach acl bvh bvl bch bcl w
  rw [h1] at h
  simp only [sel_t] at h
  exact h.mono fun _ _ h => ⟨_, _, _, _, h.1, h2, h.2⟩
theorem fld0 (n : Nat) (hn : n ≤ 3) (w : World) : Calls Try.prog 61 #[.int .i64 88, .int .i64 24, .int .u64 ((n : Int) + 1), .int .i64 24] w fun e w' => ∃ vh vl ch cl : BitVec 64, e = .returned (.tuple #[.agg #[.int .u64 (uv vh), .int .u64 (uv vl), .int .u64 (uv ch), .int .u64 (uv cl)], .int .i64 0]) ∧ FldB (stE 0) 24 (n + 1) vh vl ch cl ∧ Below w.heap.size w w' := field_f 88 24 (n + 1) w (by omega) (by omega) (by omega)
theorem st0q (n m : Nat) : ∀ i, i < 24 → Nat.testBit (n + 1) i = stF n m (stE 0 + i) := fun i hi => by
  unfold stF
  have e : stE 0 = 88 := rfl
  rw [e]
  rw [if_pos (by omega), show 88 + i - 88 = i by omega]
theorem fld1 (m : Nat) (hm : m ≤ 255) (w : World) : Calls Try.prog 61 #[.int .i64 112, .int .i64 8, .int .u64 (m : Int), .int .i64 8] w fun e w' => ∃ vh vl ch cl : BitVec 64, e = .returned (.tuple #[.agg #[.int .u64 (uv vh), .int .u64 (uv vl), .int .u64 (uv ch), .int .u64 (uv cl)], .int .i64 0]) ∧ FldB (stE 1) 8 m vh vl ch cl ∧ Below w.heap.size w w' := field_f 112 8 m w (by omega) (by omega) (by omega)
theorem st1q (n m : Nat) : ∀ i, i < 8 → Nat.testBit m i = stF n m (stE 1 + i) := fun i hi => by
  unfold stF
  have e : stE 1 = 112 := rfl
  rw [e]
  rw [if_neg (by omega), if_pos (by omega), show 112 + i - 112 = i by omega]
theorem fld2 (w : World) : Calls Try.prog 61 #[.int .i64 120, .int .i64 8, .int .u64 0, .int .i64 8] w fun e w' => ∃ vh vl ch cl : BitVec 64, e = .returned (.tuple #[.agg #[.int .u64 (uv vh), .int .u64 (uv vl), .int .u64 (uv ch), .int .u64 (uv cl)], .int .i64 0]) ∧ FldB (stE 2) 8 0 vh vl ch cl ∧ Below w.heap.size w w' := field_f 120 8 0 w (by omega) (by omega) (by omega)
theorem st2q (n m : Nat) : ∀ i, i < 8 → Nat.testBit 0 i = stF n m (stE 2 + i) := fun i hi => by
  unfold stF
  have e : stE 2 = 120 := rfl
  rw [e]
  rw [if_neg (by omega), if_neg (by omega), Nat.zero_testBit]
set_option maxRecDepth 100000 in
set_option maxHeartbeats 4000000 in
theorem stamped_c (n m : Nat) (hn : n ≤ 3) (hm : m ≤ 255) (w : World) : Calls Try.prog 43 #[.int .i64 (n : Int), .int .i64 (m : Int)] w fun e w' => ∃ cvh cvl cch ccl : BitVec 64, e = .returned (.tuple #[.agg #[.int .u64 (uv cvh), .int .u64 (uv cvl), .int .u64 (uv cch), .int .u64 (uv ccl)], .int .i64 0]) ∧ StB n m 3 cvh cvl cch ccl ∧ Below w.heap.size w w' := by
  have hnz : (n : Int) ≤ 3 := by omega
  have hmz : (m : Int) ≤ 255 := by omega
  have b0 := below1 w (.cells #[.int .u64 0, .int .u64 0, .int .u64 0, .int .u64 0] 43)
  have Z0 := Blk.new w 43 #[.int .u64 0, .int .u64 0, .int .u64 0, .int .u64 0]
  go_enter Try.func43, Try.ntmps43
  go_wp2_with fail
  (with_reducible refine (all_c _).mono ?_)
  rintro e w1 ⟨rfl, hb1⟩
  have B1 := Lib.hid (b0.trans (hb1.mono b0.size))
  have Z1 := Lib.hid (Z0.on hb1)
  clear hb1 Z0 b0
  go_wp2
  have N6 : Hid (Blk ((w1.alloc (.cells #[.int .u64 0, .int .u64 0, .int .u64 0, .int .u64 0] 43)).alloc (.cells #[.int .i64 88, .int .i64 24, .int .i64 ((n : Int) + 1), .int .i64 112, .int .i64 8, .int .i64 (m : Int), .int .i64 120, .int .i64 8, .int .i64 0] 127)) w1.heap.size 43 #[.int .u64 (uv 0#64), .int .u64 (uv 0#64), .int .u64 (uv 0#64), .int .u64 (uv 0#64)]) := (Blk.new w1 _ _).on (below1 _ _)
  have N9 : Hid (Blk ((w1.alloc (.cells #[.int .u64 0, .int .u64 0, .int .u64 0, .int .u64 0] 43)).alloc (.cells #[.int .i64 88, .int .i64 24, .int .i64 ((n : Int) + 1), .int .i64 112, .int .i64 8, .int .i64 (m : Int), .int .i64 120, .int .i64 8, .int .i64 0] 127)) (w1.heap.size + 1) 127 #[.int .i64 88, .int .i64 24, .int .i64 ((n : Int) + 1), .int .i64 112, .int .i64 8, .int .i64 (m : Int), .int .i64 120, .int .i64 8, .int .i64 0]) := by
    have h := Blk.new (w1.alloc (.cells #[.int .u64 0, .int .u64 0, .int .u64 0, .int .u64 0] 43)) 127 #[.int .i64 88, .int .i64 24, .int .i64 ((n : Int) + 1), .int .i64 112, .int .i64 8, .int .i64 (m : Int), .int .i64 120, .int .i64 8, .int .i64 0]
    have e : (w1.alloc (.cells #[.int .u64 0, .int .u64 0, .int .u64 0, .int .u64 0] 43)).heap.size = w1.heap.size + 1 := by simp
    rw [e] at h
    exact h
  have B2 : Hid (Below w1.heap.size w1 ((w1.alloc (.cells #[.int .u64 0, .int .u64 0, .int .u64 0, .int .u64 0] 43)).alloc (.cells #[.int .i64 88, .int .i64 24, .int .i64 ((n : Int) + 1), .int .i64 112, .int .i64 8, .int .i64 (m : Int), .int .i64 120, .int .i64 8, .int .i64 0] 127))) := below2 w1 _ _
  generalize ((w1.alloc (.cells #[.int .u64 0, .int .u64 0, .int .u64 0, .int .u64 0] 43)).alloc (.cells #[.int .i64 88, .int .i64 24, .int .i64 ((n : Int) + 1), .int .i64 112, .int .i64 8, .int .i64 (m : Int), .int .i64 120, .int .i64 8, .int .i64 0] 127)) = w2 at N6 N9 B2 ⊢
  go_loopg [8, 9, 10, 20] 3 (fun gk _ _ _ s20 wr => ∃ (k : Nat) (kz : Int) (avh avl ach acl : BitVec 64), k ≤ 3 ∧ gk = 3 - k ∧ s20 = .int .i64 kz ∧ Hid (kz = (k : Int)) ∧ Hid (StB n m k avh avl ach acl) ∧ Hid (Blk wr w1.heap.size 43 #[.int .u64 (uv avh), .int .u64 (uv avl), .int .u64 (uv ach), .int .u64 (uv acl)]) ∧ Hid (Blk wr (w1.heap.size + 1) 127 #[.int .i64 88, .int .i64 24, .int .i64 ((n : Int) + 1), .int .i64 112, .int .i64 8, .int .i64 (m : Int), .int .i64 120, .int .i64 8, .int .i64 0]) ∧ Hid (Below w1.heap.size w1 wr))
  case atStart => exact ⟨0, 0, _, _, _, _, Nat.zero_le _, rfl, rfl, rfl, st_zero n m, N6, N9, B2⟩
  case round =>
    clear N6 N9 B2
    obtain ⟨k, kz, avh, avl, ach, acl, hk, rfl, rfl, HKZ, HS, N6, N9, HB⟩ := hrel
    have hl9 : w1.heap.size < wr.heap.size := N6.out.lt
    have hk4 : k = 0 ∨ k = 1 ∨ k = 2 ∨ k = 3 := by omega
    rcases hk4 with rfl | rfl | rfl | rfl
    · obtain rfl : kz = 0 := HKZ.out
      have c0 := (N9.out.cell 0).trans rfl
      have c1 := (N9.out.cell 1).trans rfl
      have c2 := (N9.out.cell 2).trans rfl
      have bS := below1 wr (.cells #[.int .i64 88, .int .i64 24, .int .i64 ((n : Int) + 1)] 127)
      have nS := Blk.new wr 127 #[.int .i64 88, .int .i64 24, .int .i64 ((n : Int) + 1)]
      have hlt : wr.heap.size < (wr.alloc (.cells #[.int .i64 88, .int .i64 24, .int .i64 ((n : Int) + 1)] 127)).heap.size := by simp
      go_upto_region 5 with (fail)
      generalize wr.alloc (.cells #[.int .i64 88, .int .i64 24, .int .i64 ((n : Int) + 1)] 127) = w5 at bS nS hlt ⊢
      obtain ⟨s0, s1, s2⟩ := trio nS
      have HBS := Lib.hid bS
      clear bS nS c0 c1 c2
      go_wp2_with fail
      (with_reducible refine (fld0 n hn _).mono ?_)
      rintro e w6 ⟨bvh, bvl, bch, bcl, rfl, hF, hb6⟩
      have HF := Lib.hid hF
      have HB6 := Lib.hid (HBS.out.trans (hb6.mono HBS.out.size))
      clear hF hb6 HBS s0 s1 s2
      have bO := below1 w6 (.cells #[.int .u64 (uv bvh), .int .u64 (uv bvl), .int .u64 (uv bch), .int .u64 (uv bcl)] 43)
      have nO := Blk.new w6 43 #[.int .u64 (uv bvh), .int .u64 (uv bvl), .int .u64 (uv bch), .int .u64 (uv bcl)]
      have HB7 := Lib.hid (HB6.out.trans (bO.mono HB6.out.size))
      have M6 := N6.out.on HB7.out
      have M9 := N9.out.on HB7.out
      have HBB := Lib.hid (HB.out.trans (HB7.out.mono HB.out.size))
      go_upto_region 6 with (fail)
      generalize w6.alloc (.cells #[.int .u64 (uv bvh), .int .u64 (uv bvl), .int .u64 (uv bch), .int .u64 (uv bcl)] 43) = w7 at bO nO M6 M9 HBB ⊢
      obtain ⟨t0, t1, t2, t3⟩ := quad nO
      obtain ⟨u0, u1, u2, u3⟩ := quad M6
      have HM6 := Lib.hid M6
      have HM9 := Lib.hid M9
      clear bO nO M6 M9 HB6 HB7
      go_wp2_with fail
      (with_reducible refine (meet_f HS.out HF.out rfl (by decide) (st0q n m) _).mono ?_)
      rintro e w8 ⟨cvh, cvl, cch, ccl, rfl, hS, hb8⟩
      have HS2 := Lib.hid hS
      have M6 := HM6.out.on hb8
      have M9 := Lib.hid (HM9.out.on hb8)
      have HB8 := Lib.hid (HBB.out.trans (hb8.mono HBB.out.size))
      obtain ⟨f0, f1, f2, f3⟩ := free4 M6
      obtain ⟨z0, z1, z2, z3⟩ := quad M6
      have N62 := Lib.hid (put4 M6 (.int .u64 (uv cvh)) (.int .u64 (uv cvl)) (.int .u64 (uv cch)) (.int .u64 (uv ccl)))
      have B9 := Lib.hid (HB8.out.trans (sets4 w8 w1.heap.size (.int .u64 (uv cvh)) (.int .u64 (uv cvl)) (.int .u64 (uv cch)) (.int .u64 (uv ccl))))
      have N92 : Hid (Blk ((((w8.setCell ⟨w1.heap.size, 0, none⟩ (.int .u64 (uv cvh))).setCell ⟨w1.heap.size, 1, none⟩ (.int .u64 (uv cvl))).setCell ⟨w1.heap.size, 2, none⟩ (.int .u64 (uv cch))).setCell ⟨w1.heap.size, 3, none⟩ (.int .u64 (uv ccl))) (w1.heap.size + 1) 127 #[.int .i64 88, .int .i64 24, .int .i64 ((n : Int) + 1), .int .i64 112, .int .i64 8, .int .i64 (m : Int), .int .i64 120, .int .i64 8, .int .i64 0]) := (((M9.out.far (Nat.succ_ne_self _) _).far (Nat.succ_ne_self _) _).far (Nat.succ_ne_self _) _).far (Nat.succ_ne_self _) _
      clear hS hb8 M6 t0 t1 t2 t3 u0 u1 u2 u3 HF HS
      go_wp2
      go_roundg (3 - (0 + 1))
      case measure => omega
      case rel => exact ⟨0 + 1, 0 + 1, cvh, cvl, cch, ccl, by omega, rfl, by go_num, (by show (0 : Int) + 1 = ((0 + 1 : Nat) : Int); rfl), HS2, N62, N92, B9⟩
    · obtain rfl : kz = 1 := HKZ.out
      have c0 := (N9.out.cell 3).trans rfl
      have c1 := (N9.out.cell 4).trans rfl
      have c2 := (N9.out.cell 5).trans rfl
      have bS := below1 wr (.cells #[.int .i64 112, .int .i64 8, .int .i64 (m : Int)] 127)
      have nS := Blk.new wr 127 #[.int .i64 112, .int .i64 8, .int .i64 (m : Int)]
      have hlt : wr.heap.size < (wr.alloc (.cells #[.int .i64 112, .int .i64 8, .int .i64 (m : Int)] 127)).heap.size := by simp
      go_upto_region 5 with (fail)
      generalize wr.alloc (.cells #[.int .i64 112, .int .i64 8, .int .i64 (m : Int)] 127) = w5 at bS nS hlt ⊢
      obtain ⟨s0, s1, s2⟩ := trio nS
      have HBS := Lib.hid bS
      clear bS nS c0 c1 c2
      go_wp2_with fail
      (with_reducible refine (fld1 m hm _).mono ?_)
      rintro e w6 ⟨bvh, bvl, bch, bcl, rfl, hF, hb6⟩
      have HF := Lib.hid hF
      have HB6 := Lib.hid (HBS.out.trans (hb6.mono HBS.out.size))
      clear hF hb6 HBS s0 s1 s2
      have bO := below1 w6 (.cells #[.int .u64 (uv bvh), .int .u64 (uv bvl), .int .u64 (uv bch), .int .u64 (uv bcl)] 43)
      have nO := Blk.new w6 43 #[.int .u64 (uv bvh), .int .u64 (uv bvl), .int .u64 (uv bch), .int .u64 (uv bcl)]
      have HB7 := Lib.hid (HB6.out.trans (bO.mono HB6.out.size))
      have M6 := N6.out.on HB7.out
      have M9 := N9.out.on HB7.out
      have HBB := Lib.hid (HB.out.trans (HB7.out.mono HB.out.size))
      go_upto_region 6 with (fail)
      generalize w6.alloc (.cells #[.int .u64 (uv bvh), .int .u64 (uv bvl), .int .u64 (uv bch), .int .u64 (uv bcl)] 43) = w7 at bO nO M6 M9 HBB ⊢
      obtain ⟨t0, t1, t2, t3⟩ := quad nO
      obtain ⟨u0, u1, u2, u3⟩ := quad M6
      have HM6 := Lib.hid M6
      have HM9 := Lib.hid M9
      clear bO nO M6 M9 HB6 HB7
      go_wp2_with fail
      (with_reducible refine (meet_f HS.out HF.out rfl (by decide) (st1q n m) _).mono ?_)
      rintro e w8 ⟨cvh, cvl, cch, ccl, rfl, hS, hb8⟩
      have HS2 := Lib.hid hS
      have M6 := HM6.out.on hb8
      have M9 := Lib.hid (HM9.out.on hb8)
      have HB8 := Lib.hid (HBB.out.trans (hb8.mono HBB.out.size))
      obtain ⟨f0, f1, f2, f3⟩ := free4 M6
      obtain ⟨z0, z1, z2, z3⟩ := quad M6
      have N62 := Lib.hid (put4 M6 (.int .u64 (uv cvh)) (.int .u64 (uv cvl)) (.int .u64 (uv cch)) (.int .u64 (uv ccl)))
      have B9 := Lib.hid (HB8.out.trans (sets4 w8 w1.heap.size (.int .u64 (uv cvh)) (.int .u64 (uv cvl)) (.int .u64 (uv cch)) (.int .u64 (uv ccl))))
      have N92 : Hid (Blk ((((w8.setCell ⟨w1.heap.size, 0, none⟩ (.int .u64 (uv cvh))).setCell ⟨w1.heap.size, 1, none⟩ (.int .u64 (uv cvl))).setCell ⟨w1.heap.size, 2, none⟩ (.int .u64 (uv cch))).setCell ⟨w1.heap.size, 3, none⟩ (.int .u64 (uv ccl))) (w1.heap.size + 1) 127 #[.int .i64 88, .int .i64 24, .int .i64 ((n : Int) + 1), .int .i64 112, .int .i64 8, .int .i64 (m : Int), .int .i64 120, .int .i64 8, .int .i64 0]) := (((M9.out.far (Nat.succ_ne_self _) _).far (Nat.succ_ne_self _) _).far (Nat.succ_ne_self _) _).far (Nat.succ_ne_self _) _
      clear hS hb8 M6 t0 t1 t2 t3 u0 u1 u2 u3 HF HS
      go_wp2
      go_roundg (3 - (1 + 1))
      case measure => omega
      case rel => exact ⟨1 + 1, 1 + 1, cvh, cvl, cch, ccl, by omega, rfl, by go_num, (by show (1 : Int) + 1 = ((1 + 1 : Nat) : Int); rfl), HS2, N62, N92, B9⟩
    · obtain rfl : kz = 2 := HKZ.out
      have c0 := (N9.out.cell 6).trans rfl
      have c1 := (N9.out.cell 7).trans rfl
      have c2 := (N9.out.cell 8).trans rfl
      have bS := below1 wr (.cells #[.int .i64 120, .int .i64 8, .int .i64 0] 127)
      have nS := Blk.new wr 127 #[.int .i64 120, .int .i64 8, .int .i64 0]
      have hlt : wr.heap.size < (wr.alloc (.cells #[.int .i64 120, .int .i64 8, .int .i64 0] 127)).heap.size := by simp
      go_upto_region 5 with (fail)
      generalize wr.alloc (.cells #[.int .i64 120, .int .i64 8, .int .i64 0] 127) = w5 at bS nS hlt ⊢
      obtain ⟨s0, s1, s2⟩ := trio nS
      have HBS := Lib.hid bS
      clear bS nS c0 c1 c2
      go_wp2_with fail
      (with_reducible refine (fld2 _).mono ?_)
      rintro e w6 ⟨bvh, bvl, bch, bcl, rfl, hF, hb6⟩
      have HF := Lib.hid hF
      have HB6 := Lib.hid (HBS.out.trans (hb6.mono HBS.out.size))
      clear hF hb6 HBS s0 s1 s2
      have bO := below1 w6 (.cells #[.int .u64 (uv bvh), .int .u64 (uv bvl), .int .u64 (uv bch), .int .u64 (uv bcl)] 43)
      have nO := Blk.new w6 43 #[.int .u64 (uv bvh), .int .u64 (uv bvl), .int .u64 (uv bch), .int .u64 (uv bcl)]
      have HB7 := Lib.hid (HB6.out.trans (bO.mono HB6.out.size))
      have M6 := N6.out.on HB7.out
      have M9 := N9.out.on HB7.out
      have HBB := Lib.hid (HB.out.trans (HB7.out.mono HB.out.size))
      go_upto_region 6 with (fail)
      generalize w6.alloc (.cells #[.int .u64 (uv bvh), .int .u64 (uv bvl), .int .u64 (uv bch), .int .u64 (uv bcl)] 43) = w7 at bO nO M6 M9 HBB ⊢
      obtain ⟨t0, t1, t2, t3⟩ := quad nO
      obtain ⟨u0, u1, u2, u3⟩ := quad M6
      have HM6 := Lib.hid M6
      have HM9 := Lib.hid M9
      clear bO nO M6 M9 HB6 HB7
      go_wp2_with fail
      (with_reducible refine (meet_f HS.out HF.out rfl (by decide) (st2q n m) _).mono ?_)
      rintro e w8 ⟨cvh, cvl, cch, ccl, rfl, hS, hb8⟩
      have HS2 := Lib.hid hS
      have M6 := HM6.out.on hb8
      have M9 := Lib.hid (HM9.out.on hb8)
      have HB8 := Lib.hid (HBB.out.trans (hb8.mono HBB.out.size))
      obtain ⟨f0, f1, f2, f3⟩ := free4 M6
      obtain ⟨z0, z1, z2, z3⟩ := quad M6
      have N62 := Lib.hid (put4 M6 (.int .u64 (uv cvh)) (.int .u64 (uv cvl)) (.int .u64 (uv cch)) (.int .u64 (uv ccl)))
      have B9 := Lib.hid (HB8.out.trans (sets4 w8 w1.heap.size (.int .u64 (uv cvh)) (.int .u64 (uv cvl)) (.int .u64 (uv cch)) (.int .u64 (uv ccl))))
      have N92 : Hid (Blk ((((w8.setCell ⟨w1.heap.size, 0, none⟩ (.int .u64 (uv cvh))).setCell ⟨w1.heap.size, 1, none⟩ (.int .u64 (uv cvl))).setCell ⟨w1.heap.size, 2, none⟩ (.int .u64 (uv cch))).setCell ⟨w1.heap.size, 3, none⟩ (.int .u64 (uv ccl))) (w1.heap.size + 1) 127 #[.int .i64 88, .int .i64 24, .int .i64 ((n : Int) + 1), .int .i64 112, .int .i64 8, .int .i64 (m : Int), .int .i64 120, .int .i64 8, .int .i64 0]) := (((M9.out.far (Nat.succ_ne_self _) _).far (Nat.succ_ne_self _) _).far (Nat.succ_ne_self _) _).far (Nat.succ_ne_self _) _
      clear hS hb8 M6 t0 t1 t2 t3 u0 u1 u2 u3 HF HS
      go_wp2
      go_roundg (3 - (2 + 1))
      case measure => omega
      case rel => exact ⟨2 + 1, 2 + 1, cvh, cvl, cch, ccl, by omega, rfl, by go_num, (by show (2 : Int) + 1 = ((2 + 1 : Nat) : Int); rfl), HS2, N62, N92, B9⟩
    · obtain rfl : kz = 3 := HKZ.out
      obtain ⟨y0, y1, y2, y3⟩ := quad N6.out
      have Z4 := Z1.out.on HB.out
      obtain ⟨f0, f1, f2, f3⟩ := free4 Z4
      obtain ⟨z0, z1, z2, z3⟩ := quad Z4
      obtain ⟨q0, q1, q2, q3⟩ := quad (put4 Z4 (.int .u64 (uv avh)) (.int .u64 (uv avl)) (.int .u64 (uv ach)) (.int .u64 (uv acl)))
      have B5 := Lib.hid (B1.out.trans (HB.out.mono B1.out.size))
      have B6 := Lib.hid (B5.out.trans (sets4 wr w.heap.size (.int .u64 (uv avh)) (.int .u64 (uv avl)) (.int .u64 (uv ach)) (.int .u64 (uv acl))))
      clear Z4
      go_wp2
      exact bodyPost_ret (v := .tuple #[.agg #[.int .u64 (uv avh), .int .u64 (uv avl), .int .u64 (uv ach), .int .u64 (uv acl)], .int .i64 0]) (by simp [results, Try.results43, go_sem, q0, q1, q2, q3]) rfl ⟨avh, avl, ach, acl, rfl, HS.out, B6.out⟩
end Go.Proofs

namespace Go.Proofs.Hd
open Go.RowKit
/-- Are two pairs the same? -/
def eqA (a b : Int × Int) : Bool := (a.1 == b.1) && (a.2 == b.2)
theorem eqA_iff {a b : Int × Int} : eqA a b = true ↔ a = b := by
  cases a; cases b
  simp [eqA]
/-- Are two ways the same? -/
def eqW (a b : Wa) : Bool := (a.frm == b.frm) && ((a.too == b.too) && (a.via == b.via))
end Go.Proofs.Hd
namespace Go.Proofs
open Go.RowKit Go.Proofs.Hd Go.Lib
set_option maxRecDepth 100000 in
theorem run_eqA (w : World) (a0 a1 b0 b1 : Int) : (Op.equalIn 10000 121 (.agg #[.int .i64 a0, .int .i64 a1]) (.agg #[.int .i64 b0, .int .i64 b1])).run Try.prog w = .ok (eqA (a0, a1) (b0, b1)) w := by
  have e0 : ∀ u, (Op.equalIn 9999 3 (.int .i64 a0) (.int .i64 b0)).run Try.prog u = .ok (a0 == b0) u := fun u => run_equalIn_int u 9998 _ .i64 .i64 _ _ Try.underlying3
  have e1 : ∀ u, (Op.equalIn 9999 3 (.int .i64 a1) (.int .i64 b1)).run Try.prog u = .ok (a1 == b1) u := fun u => run_equalIn_int u 9998 _ .i64 .i64 _ _ Try.underlying3
  have hu := Try.underlying121
  unfold eqA
  show Sem.run Try.prog (Op.equalIn (9999 + 1) _ _ _) _ = _
  generalize 9999 = d at e0 e1 ⊢
  cases h0 : a0 == b0 <;> cases h1 : a1 == b1 <;> rw [h0] at e0 <;> rw [h1] at e1 <;>
  simp [Op.equalIn, run_underlying hu, Std.Legacy.Range.forIn_eq_forIn_range', List.range', part, e0, e1, Try.sizeOf3, go_sem]
set_option maxRecDepth 100000 in
theorem run_eqW (w : World) (a0 a1 a2 b0 b1 b2 : Int) : (Op.equalIn 10000 123 (.agg #[.int .i64 a0, .int .i64 a1, .int .i64 a2]) (.agg #[.int .i64 b0, .int .i64 b1, .int .i64 b2])).run Try.prog w = .ok (eqW ⟨a0, a1, a2⟩ ⟨b0, b1, b2⟩) w := by
  unfold eqW
  cases h1 : a0 == b0
  · go_simp
  cases h2 : a1 == b1
  · go_simp
  cases h3 : a2 == b2 <;> go_simp
attribute [irreducible] eqA eqW
attribute [local go_sem high] run_eqA run_eqW run_eqP
end Go.Proofs

namespace Go.Proofs.Hd
open Go.RowKit
/-- Is (a, b) among the spots E? -/
def isSp (E : List Rc) (a b : Int) : Prop := ∃ y ∈ E, (y.1 : Int) = a ∧ (y.2 : Int) = b
end Go.Proofs.Hd
namespace Go.Proofs
open Go.RowKit Go.Proofs.Hd Go.Lib
set_option maxRecDepth 100000 in
theorem run_eqSp (w : World) (a b c d : Int) : (Op.equalIn 10000 56 (.agg #[.int .i64 a, .int .i64 b]) (.agg #[.int .i64 c, .int .i64 d])).run Try.prog w = .ok (eqA (a, b) (c, d)) w := by
  unfold eqA
  cases h1 : a == c
  · go_simp
  cases h2 : b == d <;> go_simp
attribute [local go_sem high] run_eqSp
set_option maxRecDepth 100000 in
set_option maxHeartbeats 2000000 in
theorem idx_spot (v : Value) (E : List Rc) (a b : Int) (w : World) (hv : Spt w v E) (hE : E.length ≤ 2000000) : Calls Try.prog 59 #[v, .agg #[.int .i64 a, .int .i64 b]] w fun e w' => ∃ r : Int, e = .returned (.int .i64 r) ∧ (0 ≤ r ↔ isSp E a b) ∧ Below w.heap.size w w' := by
  obtain ⟨A, cap, rfl, hA⟩ := hv
  have HA := Lib.hid hA
  have hEz : (E.length : Int) ≤ 2000000 := by omega
  have B0 : Hid (Below w.heap.size w (w.alloc (.cells #[.int .i64 a, .int .i64 b] 56))) := below1 w _
  have N0 : Hid (Blk (w.alloc (.cells #[.int .i64 a, .int .i64 b] 56)) w.heap.size 56 #[.int .i64 a, .int .i64 b]) := Blk.new w _ _
  clear hA
  go_enter Try.func59, Try.ntmps59
  go_wp2
  generalize w.alloc (.cells #[.int .i64 a, .int .i64 b] 56) = w1 at B0 N0 ⊢
  go_loopg [5, 8] E.length (fun gk _ s8 wr => ∃ k : Nat, k ≤ E.length ∧ gk = E.length - k ∧ s8 = .int .i64 k ∧ Hid (∀ (j : Nat) (y : Rc), j < k → E[j]? = some y → ¬ ((y.1 : Int) = a ∧ (y.2 : Int) = b)) ∧ Hid (Below w1.heap.size w1 wr))
  case atStart => exact ⟨0, Nat.zero_le _, rfl, rfl, fun j y hj => absurd hj (Nat.not_lt_zero _), Below.refl _ _⟩
  case round =>
    obtain ⟨k, hk, rfl, rfl, HO, HW⟩ := hrel
    by_cases hlt : k < E.length
    · have hltz : (k : Int) < (E.length : Int) := by omega
      obtain ⟨y, hy⟩ : ∃ y, E[k]? = some y := ⟨_, List.getElem?_eq_getElem hlt⟩
      obtain ⟨eb, rfl, hec⟩ := HA.out (by rintro rfl; simp at hlt)
      have HBW := Lib.hid (B0.out.trans (HW.out.mono B0.out.size))
      have x0 := on_some HBW.out (hec k y hy).1
      have x1 := on_some HBW.out (hec k y hy).2
      obtain ⟨s0, s1⟩ := (N0.out.on HW.out).both
      have HXX := Lib.hid hy
      obtain ⟨ya, yb⟩ := y
      simp only at x0 x1
      clear hec hy
      cases hq : eqA (a, b) ((ya : Int), (yb : Int)) with
      | true =>
        have HQ : Hid (0 ≤ (k : Int) ↔ isSp E a b) := by
          have e := eqA_iff.1 hq
          injection e with e1 e2
          exact ⟨fun _ => ⟨(ya, yb), List.mem_of_getElem? HXX.out, e1.symm, e2.symm⟩, fun _ => by omega⟩
        go_wp2_with fail
        go_quiet (fail)
        have HW2 := Lib.hid (bldrewN HBW.out nq)
        go_wp2
        go_ret
        exact ⟨_, rfl, HQ.out, HW2.out⟩
      | false =>
        have HO2 : Hid (∀ (j : Nat) (y : Rc), j < k + 1 → E[j]? = some y → ¬ ((y.1 : Int) = a ∧ (y.2 : Int) = b)) := fun j z hj hz => by
          by_cases e : j = k
          · subst e
            rw [HXX.out] at hz
            injection hz with hz
            subst hz
            rintro ⟨h1, h2⟩
            rw [eqA_iff.2 (by rw [← h1, ← h2])] at hq
            cases hq
          · exact HO.out j z (by omega) hz
        go_wp2_with fail
        go_quiet (fail)
        have HW2 := Lib.hid (bldrewN HW.out nq)
        go_wp2
        go_roundg (E.length - (k + 1))
        case measure => omega
        case rel => exact ⟨k + 1, by omega, rfl, by go_num, HO2, HW2⟩
    · have hltz : ¬ (k : Int) < (E.length : Int) := by omega
      have HQ : Hid ((0 : Int) ≤ -1 ↔ isSp E a b) := by
        refine ⟨fun h => by omega, ?_⟩
        rintro ⟨y, hy, h⟩
        obtain ⟨j, hj⟩ := List.getElem?_of_mem hy
        exact absurd h (HO.out j y (by have := (List.getElem?_eq_some_iff.1 hj).1; omega) hj)
      go_wp2
      go_ret
      exact ⟨_, rfl, HQ.out, B0.out.trans (HW.out.mono B0.out.size)⟩
set_option maxRecDepth 100000 in
theorem has_spot (x : Bool) (v : Value) (E : List Rc) (a b : Int) (w : World) (hv : Spt w v E) (hE : E.length ≤ 2000000) (hx : x = true ↔ isSp E a b) : Calls Try.prog 42 #[v, .agg #[.int .i64 a, .int .i64 b]] w fun e w' => e = .returned (.bool x) ∧ Below w.heap.size w w' := by
  have B0 : Hid (Below w.heap.size w (w.alloc (.cells #[.int .i64 a, .int .i64 b] 56))) := below1 w _
  have N0 := (Blk.new w 56 #[.int .i64 a, .int .i64 b]).both
  have hv1 : Spt (w.alloc (.cells #[.int .i64 a, .int .i64 b] 56)) v E := by
    obtain ⟨A, cap, e, h⟩ := hv
    refine ⟨A, cap, e, fun hne => ?_⟩
    obtain ⟨b, e2, hc⟩ := h hne
    exact ⟨b, e2, fun k x hk => ⟨on_some B0.out (hc k x hk).1, on_some B0.out (hc k x hk).2⟩⟩
  have hcon := idx_spot v E a b _ hv1 hE
  have HX := Lib.hid hx
  clear hx hv hv1
  obtain ⟨n0, n1⟩ := N0
  go_enter Try.func42, Try.ntmps42
  go_wp2_with fail
  (with_reducible refine hcon.mono ?_)
  rintro e w1 ⟨r, rfl, hr, hb⟩
  have HB := Lib.hid (B0.out.trans (hb.mono B0.out.size))
  have HR := Lib.hid hr
  clear hr hb hcon n0 n1
  by_cases h0 : 0 ≤ r
  · have HE : Hid (x = true) := HX.out.2 (HR.out.1 h0)
    go_wp2
    go_ret
    exact ⟨by rw [HE.out]; rfl, HB.out⟩
  · have HE : Hid (x = false) := by
      show _ = _
      cases hxx : x with
      | false => rfl
      | true => exact absurd (HR.out.2 (HX.out.1 hxx)) h0
    have hd : decide (0 ≤ r) = false := decide_eq_false h0
    clear h0
    go_wp2
    go_ret
    exact ⟨by rw [HE.out]; rfl, HB.out⟩
end Go.Proofs

namespace Go.Proofs.Hd
open Go.RowKit
theorem there4 {w : World} {g : Nat} {t : TypeId} {cs : Array Value} (h : Blk w g t cs) : w.there g 0 cs.size := fun j hj => by
  rw [Nat.zero_add, h.cell j, h.free j]
  simp [hj]
theorem cellS {b : Nat} {p : Addr} (hp : b ≠ p.block) : ∀ (vs : List Value) (o : Nat) (w : World), (w.setCells b o vs).cell? p = w.cell? p
  | [], _, _ => rfl
  | v :: vs, o, w => (cellS hp vs (o + 1) _).trans (World.cell?_of_block (Below.heap_setCell w ⟨b, o, none⟩ v p.block (fun e => hp e.symm)))
theorem edge_sound {T : List (List Pt)} {L : List Pt} {n i : Nat} {p : Pt} (h : sTp T = 0) (hL : T[n]? = some L) (hp : L[i]? = some p) (hk : p.kind = 1) : ∃ t : Nat, t ≤ 3 ∧ p.ten = (t : Int) := by
  have h1 := (sTp_zero h).2 n i L p (List.getElem?_eq_some_iff.1 hL).1 hL hp
  unfold okP at h1
  rw [if_pos hk, Bool.and_eq_true] at h1
  have h2 := h1.1
  unfold inB at h2
  simp at h2
  exact ⟨p.ten.toNat, by omega, by omega⟩
theorem not_edge {T : List (List Pt)} {a b : Int} (h : ¬ isSp (eTo T T.length) a b) : edgT T a b = -1 := by
  unfold edgT
  cases hp : ptAt T a b with
  | none => rfl
  | some p =>
    simp only
    obtain ⟨n, i, L, rfl, rfl, hL, hi⟩ := ptAt_some hp
    rw [if_neg]
    intro hk
    exact h ⟨(n, i), eTo_mem.2 ⟨L, p, hL, hi, hk⟩, rfl, rfl⟩
/-- What Stamp answers. -/
def stmR (T : List (List Pt)) (z : Int) (a b ver : Int) (e : Ending) : Prop :=
  (z ≠ 0 → e = .returned (.tuple #[.agg #[.int .u64 0, .int .u64 0, .int .u64 0, .int .u64 0], .int .i64 z])) ∧
  (z = 0 → ¬ (0 ≤ ver ∧ ver ≤ 255) → e = .returned (.tuple #[.agg #[.int .u64 0, .int .u64 0, .int .u64 0, .int .u64 0], .int .i64 4])) ∧
  (z = 0 → 0 ≤ ver ∧ ver ≤ 255 → edgT T a b < 0 → e = .returned (.tuple #[.agg #[.int .u64 0, .int .u64 0, .int .u64 0, .int .u64 0], .int .i64 7])) ∧
  (z = 0 → 0 ≤ ver ∧ ver ≤ 255 → ¬ edgT T a b < 0 → ∃ (n m : Nat) (cvh cvl cch ccl : BitVec 64), n ≤ 3 ∧ m ≤ 255 ∧ edgT T a b = (n : Int) ∧ ver = (m : Int) ∧ e = .returned (.tuple #[.agg #[.int .u64 (uv cvh), .int .u64 (uv cvl), .int .u64 (uv cch), .int .u64 (uv ccl)], .int .i64 0]) ∧ StB n m 3 cvh cvl cch ccl)
theorem stmR_bad {T : List (List Pt)} {z a b ver : Int} (h : z ≠ 0) : stmR T z a b ver (.returned (.tuple #[.agg #[.int .u64 0, .int .u64 0, .int .u64 0, .int .u64 0], .int .i64 z])) := ⟨fun _ => rfl, fun e => absurd e h, fun e => absurd e h, fun e => absurd e h⟩
theorem stmR_ver {T : List (List Pt)} {a b ver : Int} (h : ¬ (0 ≤ ver ∧ ver ≤ 255)) : stmR T 0 a b ver (.returned (.tuple #[.agg #[.int .u64 0, .int .u64 0, .int .u64 0, .int .u64 0], .int .i64 4])) := ⟨fun e => absurd rfl e, fun _ _ => rfl, fun _ e => absurd e h, fun _ e => absurd e h⟩
theorem stmR_none {T : List (List Pt)} {a b ver : Int} (h : 0 ≤ ver ∧ ver ≤ 255) (h2 : edgT T a b < 0) : stmR T 0 a b ver (.returned (.tuple #[.agg #[.int .u64 0, .int .u64 0, .int .u64 0, .int .u64 0], .int .i64 7])) := ⟨fun e => absurd rfl e, fun _ e => absurd h e, fun _ _ _ => rfl, fun _ _ e => absurd h2 e⟩
theorem stmR_yes {T : List (List Pt)} {a b : Int} {n m : Nat} {cvh cvl cch ccl : BitVec 64} (hn : n ≤ 3) (hm : m ≤ 255) (h2 : edgT T a b = (n : Int)) (h : StB n m 3 cvh cvl cch ccl) : stmR T 0 a b m (.returned (.tuple #[.agg #[.int .u64 (uv cvh), .int .u64 (uv cvl), .int .u64 (uv cch), .int .u64 (uv ccl)], .int .i64 0])) := ⟨fun e => absurd rfl e, fun _ e => absurd (⟨by omega, by omega⟩ : 0 ≤ (m : Int) ∧ (m : Int) ≤ 255) e, fun _ _ e => by omega, fun _ _ _ => ⟨n, m, cvh, cvl, cch, ccl, hn, hm, h2, rfl, rfl, h⟩⟩
end Go.Proofs.Hd
namespace Go.Proofs
open Go.RowKit Go.Proofs.Hd Go.Lib
theorem infoCubeS : (Try.prog.info? 43).map (·.size) = some 4 := by kernel_rfl
set_option maxRecDepth 100000 in
set_option maxHeartbeats 4000000 in
theorem stamp_c (tv pv wv bv : Value) (T : List (List Pt)) (ten : Int) (P : List (Int × Int)) (Q : List Wa) (BB : List (List (List Rl))) (a b ver : Int) (w : World) (hT : PsT w tv T) (hP : Pe w pv P) (hQ : Wy w wv Q) (hB : RuQ w bv BB) : Calls Try.prog 22 #[.agg #[tv, .int .i64 ten, pv, wv, bv], .agg #[.int .i64 a, .int .i64 b], .int .i64 ver] w fun e w' => stmR T (cfgT T ten P Q BB) a b ver e ∧ Below w.heap.size w w' := by
  have HT := Lib.hid hT
  have HP := Lib.hid hP
  have HQ := Lib.hid hQ
  have HBQ := Lib.hid hB
  obtain ⟨A, cap, rfl, htm, hA⟩ := hT
  obtain ⟨pA, pc, rfl, -, -⟩ := hP
  obtain ⟨wA, wc, rfl, -, -⟩ := hQ
  obtain ⟨bA, bc, rfl, -, -⟩ := hB
  have HA := Lib.hid hA
  clear hA
  have B1 : Hid (Below w.heap.size w (((w.alloc (.cells #[.slice A T.length cap, .int .i64 ten, .slice pA P.length pc, .slice wA Q.length wc, .slice bA BB.length bc] 31)).alloc (.cells #[.int .i64 a, .int .i64 b] 56)).alloc (.cells #[.int .u64 0, .int .u64 0, .int .u64 0, .int .u64 0] 43))) := below3 w _ _ _
  have N1 : Hid (Blk (((w.alloc (.cells #[.slice A T.length cap, .int .i64 ten, .slice pA P.length pc, .slice wA Q.length wc, .slice bA BB.length bc] 31)).alloc (.cells #[.int .i64 a, .int .i64 b] 56)).alloc (.cells #[.int .u64 0, .int .u64 0, .int .u64 0, .int .u64 0] 43)) w.heap.size 31 #[.slice A T.length cap, .int .i64 ten, .slice pA P.length pc, .slice wA Q.length wc, .slice bA BB.length bc]) := ((Blk.new w _ _).on (below1 _ _)).on (below1 _ _)
  have S1 : Hid (Blk (((w.alloc (.cells #[.slice A T.length cap, .int .i64 ten, .slice pA P.length pc, .slice wA Q.length wc, .slice bA BB.length bc] 31)).alloc (.cells #[.int .i64 a, .int .i64 b] 56)).alloc (.cells #[.int .u64 0, .int .u64 0, .int .u64 0, .int .u64 0] 43)) (w.heap.size + 1) 56 #[.int .i64 a, .int .i64 b]) := (Blk.new2 w _ _ _).on (below1 _ _)
  have R1 : Hid (Blk (((w.alloc (.cells #[.slice A T.length cap, .int .i64 ten, .slice pA P.length pc, .slice wA Q.length wc, .slice bA BB.length bc] 31)).alloc (.cells #[.int .i64 a, .int .i64 b] 56)).alloc (.cells #[.int .u64 0, .int .u64 0, .int .u64 0, .int .u64 0] 43)) (w.heap.size + 1 + 1) 43 #[.int .u64 0, .int .u64 0, .int .u64 0, .int .u64 0]) := Blk.new3 w _ _ _ _
  go_enter Try.func22, Try.ntmps22
  obtain ⟨d0, d1, d2, d3, d4⟩ := N1.out.five
  go_upto_region 1 with (fail)
  clear d0 d1 d2 d3 d4
  generalize (((w.alloc (.cells #[.slice A T.length cap, .int .i64 ten, .slice pA P.length pc, .slice wA Q.length wc, .slice bA BB.length bc] 31)).alloc (.cells #[.int .i64 a, .int .i64 b] 56)).alloc (.cells #[.int .u64 0, .int .u64 0, .int .u64 0, .int .u64 0] 43)) = w1 at B1 N1 S1 R1 ⊢
  obtain ⟨d0, d1, d2, d3, d4⟩ := N1.out.five
  go_wp2_with fail
  (with_reducible refine (csound_c _ _ _ _ T ten P Q BB _ (HT.out.on B1.out) (HP.out.on B1.out) (HQ.out.on B1.out) (HBQ.out.on B1.out)).mono ?_)
  rintro e w2 ⟨rfl, hb2⟩
  have HB2 := Lib.hid (B1.out.trans (hb2.mono B1.out.size))
  have N2 := Lib.hid (N1.out.on hb2)
  have S2 := Lib.hid (S1.out.on hb2)
  have R2 := Lib.hid (R1.out.on hb2)
  clear hb2 B1 N1 S1 R1 d0 d1 d2 d3 d4
  obtain ⟨z, hz⟩ : ∃ z, cfgT T ten P Q BB = z := ⟨_, rfl⟩
  rw [hz]
  have HZ := Lib.hid hz
  clear hz
  obtain ⟨f0, f1, f2, f3⟩ := free4 R2.out
  obtain ⟨z0, z1, z2, z3⟩ := quad R2.out
  obtain ⟨q0, q1, q2, q3⟩ := quad (put4 R2.out (.int .u64 0) (.int .u64 0) (.int .u64 0) (.int .u64 0))
  have B6 := Lib.hid (HB2.out.trans ((sets4 w2 (w.heap.size + 1 + 1) (.int .u64 0) (.int .u64 0) (.int .u64 0) (.int .u64 0)).mono (by omega)))
  by_cases hz0 : z = 0
  · subst hz0
    have HTS : Hid (sTp T = 0) := by
      show _ = _
      have h := HZ.out
      unfold cfgT at h
      by_cases hs : sTp T = 0
      · exact hs
      · rw [if_neg hs] at h; exact h
    by_cases hv1 : ver < 0
    · have HR : Hid (¬ (0 ≤ ver ∧ ver ≤ 255)) := fun h => by omega
      go_wp2
      exact bodyPost_ret (v := .tuple #[.agg #[.int .u64 0, .int .u64 0, .int .u64 0, .int .u64 0], .int .i64 4]) (by simp [results, Try.results22, go_sem, q0, q1, q2, q3]) rfl ⟨by rw [HZ.out]; exact stmR_ver HR.out, B6.out⟩
    · by_cases hv2 : 255 < ver
      · have HR : Hid (¬ (0 ≤ ver ∧ ver ≤ 255)) := fun h => by omega
        go_wp2
        exact bodyPost_ret (v := .tuple #[.agg #[.int .u64 0, .int .u64 0, .int .u64 0, .int .u64 0], .int .i64 4]) (by simp [results, Try.results22, go_sem, q0, q1, q2, q3]) rfl ⟨by rw [HZ.out]; exact stmR_ver HR.out, B6.out⟩
      · obtain ⟨m, rfl⟩ : ∃ m : Nat, ver = (m : Int) := ⟨ver.toNat, by omega⟩
        have hm5 : m ≤ 255 := by omega
        have HR : Hid (0 ≤ (m : Int) ∧ (m : Int) ≤ 255) := ⟨by omega, by omega⟩
        have hb1 : decide ((m : Int) < 0) = false := decide_eq_false hv1
        have hb2 : decide ((255 : Int) < (m : Int)) = false := decide_eq_false hv2
        have hn := ports_sound HTS.out
        have hEl : (eTo T T.length).length ≤ 2000000 := Nat.le_trans (eTo_len T T.length (Nat.le_refl _)) (Nat.le_trans (take_le T _) hn)
        obtain ⟨d0, d1, d2, d3, d4⟩ := N2.out.five
        obtain ⟨e0, e1⟩ := S2.out.both
        by_cases his : isSp (eTo T T.length) a b
        · obtain ⟨⟨ya, yb⟩, hmem, rfl, rfl⟩ := id his
          obtain ⟨L, p, hL, hp, hkd⟩ := eTo_mem.1 hmem
          simp only at hL hp
          obtain ⟨n, hn3, hpt⟩ := edge_sound HTS.out hL hp hkd
          have HED : Hid (edgT T ya yb = (n : Int)) := (edgT_edge hL hp hkd).trans hpt
          have hxa := (List.getElem?_eq_some_iff.1 hL).1
          have hxb := (List.getElem?_eq_some_iff.1 hp).1
          have KP : ∀ W, Below w2.heap.size w2 W → (Below w2.heap.size w2 W ∧ W.cell? ⟨w.heap.size, 0, none⟩ = some (.slice A T.length cap) ∧ W.cell? ⟨w.heap.size + 1, 0, none⟩ = some (.int .i64 (ya : Int)) ∧ W.cell? ⟨w.heap.size + 1, 1, none⟩ = some (.int .i64 (yb : Int))) := fun W hb => ⟨hb, on_some hb d0, on_some hb e0, on_some hb e1⟩
          have HKP := Lib.hid KP
          have HIS : Hid (isSp (eTo T T.length) ya yb) := his
          have HL := Lib.hid hL
          have HPP := Lib.hid hp
          have HPT := Lib.hid hpt
          have HEL := Lib.hid hEl
          have HN := Lib.hid hn
          clear KP d0 d1 d2 d3 d4 e0 e1 hmem his hL hp hpt hkd hEl hn
          go_upto_region 6 with (fail)
          refine wp_region_held_drew (S := fun w' => Below w2.heap.size w2 w' ∧ w'.cell? ⟨w.heap.size, 0, none⟩ = some (.slice A T.length cap) ∧ w'.cell? ⟨w.heap.size + 1, 0, none⟩ = some (.int .i64 (ya : Int)) ∧ w'.cell? ⟨w.heap.size + 1, 1, none⟩ = some (.int .i64 (yb : Int))) (by kernel_rfl) (HKP.out _ (Below.refl _ w2).drew) (fun hHeld => ?_)
          refine wpAnyH_take (i := 0) (oi := ⟨some 22, _, _, _, _, _⟩) (v := ?va0) rfl (by kernel_rfl) (by kernel_rfl) (by kernel_rfl) (fun _ _ _ h => h) (Or.inl ⟨by rfl, ?ya0⟩) hHeld ?ra0
          case ya0 => (intro w' hSw; (try dsimp only at hSw); go_simp; try (with_reducible rfl))
          simp only [Act.put, List.setIfInBounds_toArray, List.set_cons_zero, List.set_cons_succ]
          refine wpAnyH_take (i := 1) (oi := ⟨some 23, _, _, _, _, _⟩) (v := ?va1) rfl (by kernel_rfl) (by kernel_rfl) (by kernel_rfl) (fun _ _ _ h => h) (Or.inl ⟨by rfl, ?ya1⟩) hHeld ?ra1
          case ya1 => (intro w' hSw; (try dsimp only at hSw); go_simp; try (with_reducible rfl))
          simp only [Act.put, List.setIfInBounds_toArray, List.set_cons_zero, List.set_cons_succ]
          refine wpAnyH_take (i := 3) (oi := ⟨some 25, _, _, _, _, _⟩) (v := ?va3) rfl (by kernel_rfl) (by kernel_rfl) (by kernel_rfl) (fun _ _ _ h => h) (Or.inl ⟨by rfl, ?ya3⟩) hHeld ?ra3
          case ya3 => (intro w' hSw; (try dsimp only at hSw); go_simp; try (with_reducible rfl))
          simp only [Act.put, List.setIfInBounds_toArray, List.set_cons_zero, List.set_cons_succ]
          refine wpAnyH_ready (rs := [2]) (by kernel_rfl) (by simp) ?_
          refine AllReadyH.cons (o := ⟨some 24, _, _, _, _, _⟩) rfl (fun K hK => ?_) AllReadyH.nil
          go_simp
          (with_reducible refine (edges_c _ T _ (HT.out.on (HB2.out.trans (hHeld.1.mono HB2.out.size))) HN.out).mono ?_)
          rintro e w5 ⟨ev, rfl, OE, hb⟩
          obtain ⟨eA, ec, rfl, hE⟩ := Spt.of OE
          have hE2 : Spt w5 (.slice eA (eTo T T.length).length ec) (eTo T T.length) := ⟨_, _, rfl, hE⟩
          (try dsimp only)
          refine hK.out _ _ (HKP.out _ (hHeld.1.trans (hb.mono hHeld.1.size))) (fun hNext => ?_)
          clear hK K hHeld
          have hHeld := hNext
          clear hNext
          try simp only [Act.put, List.setIfInBounds_toArray, List.set_cons_zero, List.set_cons_succ]
          refine wpAnyH_ready (rs := [4]) (by kernel_rfl) (by simp) ?_
          refine AllReadyH.cons (o := ⟨some 26, _, _, _, _, _⟩) rfl (fun K hK => ?_) AllReadyH.nil
          go_simp
          (with_reducible refine (has_spot true _ (eTo T T.length) ya yb _ hE2 HEL.out ⟨fun _ => HIS.out, fun _ => rfl⟩).mono ?_)
          rintro e w6 ⟨rfl, hb⟩
          (try dsimp only)
          refine hK.out _ _ (HKP.out _ (hHeld.1.trans (hb.mono hHeld.1.size))) (fun hNext => ?_)
          clear hK K hHeld
          have hHeld := hNext
          clear hNext
          try simp only [Act.put, List.setIfInBounds_toArray, List.set_cons_zero, List.set_cons_succ]
          refine wpAnyH_take (i := 5) (oi := ⟨some 27, _, _, _, _, _⟩) (v := ?va5) rfl (by kernel_rfl) (by kernel_rfl) (by kernel_rfl) (fun _ _ _ h => h) (Or.inl ⟨by rfl, ?ya5⟩) hHeld ?ra5
          case ya5 => (intro w' hSw; (try dsimp only at hSw); go_simp; try (with_reducible rfl))
          simp only [Act.put, List.setIfInBounds_toArray, List.set_cons_zero, List.set_cons_succ]
          refine wpAnyH_done (by kernel_rfl) ?_ _
          have HB4 := Lib.hid (HB2.out.trans (hHeld.1.mono HB2.out.size))
          have N4 := N2.out.on hHeld.1
          have S4 := S2.out.on hHeld.1
          have R4 := R2.out.on hHeld.1
          clear hHeld HKP HIS f0 f1 f2 f3 z0 z1 z2 z3 q0 q1 q2 q3 B6 hE hE2 hb OE
          obtain ⟨tb, tof, rfl, htb, htc⟩ := HA.out (by rintro rfl; simp at hxa)
          obtain ⟨s, hs, A3, c3, rfl, hLm, hA3⟩ := htc ya L HL.out
          obtain ⟨b3, o3, rfl, hb3, hpc⟩ := hA3 (by rintro rfl; simp at hxb)
          have hap := (hpc yb p HPP.out).2.1
          rw [HPT.out] at hap
          have cs := on_some HB4.out hs
          have cp := on_some HB4.out hap
          obtain ⟨d0, d1, d2, d3, d4⟩ := N4.five
          obtain ⟨e0, e1⟩ := S4.both
          have KP : ∀ W W', (Below w.heap.size w W ∧ W.cell? ⟨w.heap.size, 0, none⟩ = some (.slice (some ⟨tb, tof, none⟩) T.length cap) ∧ W.cell? ⟨w.heap.size + 1, 0, none⟩ = some (.int .i64 (ya : Int)) ∧ W.cell? ⟨w.heap.size + 1, 1, none⟩ = some (.int .i64 (yb : Int)) ∧ W.cell? ⟨tb, tof + ya, none⟩ = some (.slice (some ⟨b3, o3, none⟩) L.length c3) ∧ W.cell? ⟨b3, o3 + yb * 5 + 1, none⟩ = some (.int .i64 (n : Int)) ∧ ∃ x0 x1 x2 x3, Blk W (w.heap.size + 1 + 1) 43 #[x0, x1, x2, x3]) → Below W.heap.size W W' → (Below w.heap.size w W' ∧ W'.cell? ⟨w.heap.size, 0, none⟩ = some (.slice (some ⟨tb, tof, none⟩) T.length cap) ∧ W'.cell? ⟨w.heap.size + 1, 0, none⟩ = some (.int .i64 (ya : Int)) ∧ W'.cell? ⟨w.heap.size + 1, 1, none⟩ = some (.int .i64 (yb : Int)) ∧ W'.cell? ⟨tb, tof + ya, none⟩ = some (.slice (some ⟨b3, o3, none⟩) L.length c3) ∧ W'.cell? ⟨b3, o3 + yb * 5 + 1, none⟩ = some (.int .i64 (n : Int)) ∧ ∃ x0 x1 x2 x3, Blk W' (w.heap.size + 1 + 1) 43 #[x0, x1, x2, x3]) := fun W W' h hb => ⟨h.1.trans (hb.mono h.1.size), on_some hb h.2.1, on_some hb h.2.2.1, on_some hb h.2.2.2.1, on_some hb h.2.2.2.2.1, on_some hb h.2.2.2.2.2.1, (by obtain ⟨x0, x1, x2, x3, hx⟩ := h.2.2.2.2.2.2; exact ⟨x0, x1, x2, x3, hx.on hb⟩)⟩
          have HKP := Lib.hid KP
          have KS : ∀ W (v0 v1 v2 v3 : Value), (Below w.heap.size w W ∧ W.cell? ⟨w.heap.size, 0, none⟩ = some (.slice (some ⟨tb, tof, none⟩) T.length cap) ∧ W.cell? ⟨w.heap.size + 1, 0, none⟩ = some (.int .i64 (ya : Int)) ∧ W.cell? ⟨w.heap.size + 1, 1, none⟩ = some (.int .i64 (yb : Int)) ∧ W.cell? ⟨tb, tof + ya, none⟩ = some (.slice (some ⟨b3, o3, none⟩) L.length c3) ∧ W.cell? ⟨b3, o3 + yb * 5 + 1, none⟩ = some (.int .i64 (n : Int)) ∧ ∃ x0 x1 x2 x3, Blk W (w.heap.size + 1 + 1) 43 #[x0, x1, x2, x3]) → (Below w.heap.size w (W.setCells (w.heap.size + 1 + 1) 0 [v0, v1, v2, v3]) ∧ (W.setCells (w.heap.size + 1 + 1) 0 [v0, v1, v2, v3]).cell? ⟨w.heap.size, 0, none⟩ = some (.slice (some ⟨tb, tof, none⟩) T.length cap) ∧ (W.setCells (w.heap.size + 1 + 1) 0 [v0, v1, v2, v3]).cell? ⟨w.heap.size + 1, 0, none⟩ = some (.int .i64 (ya : Int)) ∧ (W.setCells (w.heap.size + 1 + 1) 0 [v0, v1, v2, v3]).cell? ⟨w.heap.size + 1, 1, none⟩ = some (.int .i64 (yb : Int)) ∧ (W.setCells (w.heap.size + 1 + 1) 0 [v0, v1, v2, v3]).cell? ⟨tb, tof + ya, none⟩ = some (.slice (some ⟨b3, o3, none⟩) L.length c3) ∧ (W.setCells (w.heap.size + 1 + 1) 0 [v0, v1, v2, v3]).cell? ⟨b3, o3 + yb * 5 + 1, none⟩ = some (.int .i64 (n : Int)) ∧ ∃ x0 x1 x2 x3, Blk (W.setCells (w.heap.size + 1 + 1) 0 [v0, v1, v2, v3]) (w.heap.size + 1 + 1) 43 #[x0, x1, x2, x3]) := fun W v0 v1 v2 v3 h => ⟨Below.setCells _ _ _ h.1 (by omega), (cellS (by simp only; omega) _ _ _).trans h.2.1, (cellS (by simp only; omega) _ _ _).trans h.2.2.1, (cellS (by simp only; omega) _ _ _).trans h.2.2.2.1, (cellS (by simp only; omega) _ _ _).trans h.2.2.2.2.1, (cellS (by simp only; omega) _ _ _).trans h.2.2.2.2.2.1, (by obtain ⟨x0, x1, x2, x3, hx⟩ := h.2.2.2.2.2.2; exact ⟨v0, v1, v2, v3, Blk.putC [v0, v1, v2, v3] 0 _ _ hx⟩)⟩
          have HKS := Lib.hid KS
          have HS0 : Hid (Below w.heap.size w w6 ∧ w6.cell? ⟨w.heap.size, 0, none⟩ = some (.slice (some ⟨tb, tof, none⟩) T.length cap) ∧ w6.cell? ⟨w.heap.size + 1, 0, none⟩ = some (.int .i64 (ya : Int)) ∧ w6.cell? ⟨w.heap.size + 1, 1, none⟩ = some (.int .i64 (yb : Int)) ∧ w6.cell? ⟨tb, tof + ya, none⟩ = some (.slice (some ⟨b3, o3, none⟩) L.length c3) ∧ w6.cell? ⟨b3, o3 + yb * 5 + 1, none⟩ = some (.int .i64 (n : Int)) ∧ ∃ x0 x1 x2 x3, Blk w6 (w.heap.size + 1 + 1) 43 #[x0, x1, x2, x3]) := ⟨HB4.out, d0, e0, e1, cs, cp, _, _, _, _, R4⟩
          have hxaz : (ya : Int) < (T.length : Int) := by omega
          have hxbz : (yb : Int) < (L.length : Int) := by omega
          have hn3z : (n : Int) ≤ 3 := by omega
          clear KP KS d0 d1 d2 d3 d4 e0 e1 cs cp N4 S4 R4 hs hap htc hA3 hpc
          go_upto_region 8 with (fail)
          refine wp_region_held_drew (S := fun w' => Below w.heap.size w w' ∧ w'.cell? ⟨w.heap.size, 0, none⟩ = some (.slice (some ⟨tb, tof, none⟩) T.length cap) ∧ w'.cell? ⟨w.heap.size + 1, 0, none⟩ = some (.int .i64 (ya : Int)) ∧ w'.cell? ⟨w.heap.size + 1, 1, none⟩ = some (.int .i64 (yb : Int)) ∧ w'.cell? ⟨tb, tof + ya, none⟩ = some (.slice (some ⟨b3, o3, none⟩) L.length c3) ∧ w'.cell? ⟨b3, o3 + yb * 5 + 1, none⟩ = some (.int .i64 (n : Int)) ∧ ∃ x0 x1 x2 x3, Blk w' (w.heap.size + 1 + 1) 43 #[x0, x1, x2, x3]) (by kernel_rfl) (HKP.out _ _ HS0.out (Below.refl _ w6).drew) (fun hHeld => ?_)
          refine wpAnyH_take (i := 0) (oi := ⟨some 29, _, _, _, _, _⟩) (v := ?vs0) rfl (by kernel_rfl) (by kernel_rfl) (by kernel_rfl) (fun _ _ _ h => h) (Or.inl ⟨by rfl, ?ys0⟩) hHeld ?rs0
          case ys0 => (intro w' hSw; (try dsimp only at hSw); go_simp; try (with_reducible rfl))
          simp only [Act.put, List.setIfInBounds_toArray, List.set_cons_zero, List.set_cons_succ]
          refine wpAnyH_take (i := 1) (oi := ⟨some 30, _, _, _, _, _⟩) (v := ?vs1) rfl (by kernel_rfl) (by kernel_rfl) (by kernel_rfl) (fun _ _ _ h => h) (Or.inl ⟨by rfl, ?ys1⟩) hHeld ?rs1
          case ys1 => (intro w' hSw; (try dsimp only at hSw); go_simp; try (with_reducible rfl))
          simp only [Act.put, List.setIfInBounds_toArray, List.set_cons_zero, List.set_cons_succ]
          refine wpAnyH_take (i := 2) (oi := ⟨some 31, _, _, _, _, _⟩) (v := ?vs2) rfl (by kernel_rfl) (by kernel_rfl) (by kernel_rfl) (fun _ _ _ h => h) (Or.inl ⟨by rfl, ?ys2⟩) hHeld ?rs2
          case ys2 => (intro w' hSw; (try dsimp only at hSw); go_simp; try (with_reducible rfl))
          simp only [Act.put, List.setIfInBounds_toArray, List.set_cons_zero, List.set_cons_succ]
          refine wpAnyH_take (i := 3) (oi := ⟨some 32, _, _, _, _, _⟩) (v := ?vs3) rfl (by kernel_rfl) (by kernel_rfl) (by kernel_rfl) (fun _ _ _ h => h) (Or.inl ⟨by rfl, ?ys3⟩) hHeld ?rs3
          case ys3 => (intro w' hSw; (try dsimp only at hSw); go_simp; try (with_reducible rfl))
          simp only [Act.put, List.setIfInBounds_toArray, List.set_cons_zero, List.set_cons_succ]
          refine wpAnyH_take (i := 4) (oi := ⟨some 33, _, _, _, _, _⟩) (v := ?vs4) rfl (by kernel_rfl) (by kernel_rfl) (by kernel_rfl) (fun _ _ _ h => h) (Or.inl ⟨by rfl, ?ys4⟩) hHeld ?rs4
          case ys4 => (intro w' hSw; (try dsimp only at hSw); go_simp; try (with_reducible rfl))
          simp only [Act.put, List.setIfInBounds_toArray, List.set_cons_zero, List.set_cons_succ]
          refine wpAnyH_take (i := 5) (oi := ⟨some 34, _, _, _, _, _⟩) (v := ?vs5) rfl (by kernel_rfl) (by kernel_rfl) (by kernel_rfl) (fun _ _ _ h => h) (Or.inl ⟨by rfl, ?ys5⟩) hHeld ?rs5
          case ys5 => (intro w' hSw; (try dsimp only at hSw); go_simp; try (with_reducible rfl))
          simp only [Act.put, List.setIfInBounds_toArray, List.set_cons_zero, List.set_cons_succ]
          refine wpAnyH_take (i := 6) (oi := ⟨some 35, _, _, _, _, _⟩) (v := ?vs6) rfl (by kernel_rfl) (by kernel_rfl) (by kernel_rfl) (fun _ _ _ h => h) (Or.inl ⟨by rfl, ?ys6⟩) hHeld ?rs6
          case ys6 => (intro w' hSw; (try dsimp only at hSw); go_simp; try (with_reducible rfl))
          simp only [Act.put, List.setIfInBounds_toArray, List.set_cons_zero, List.set_cons_succ]
          refine wpAnyH_take (i := 7) (oi := ⟨some 36, _, _, _, _, _⟩) (v := ?vs7) rfl (by kernel_rfl) (by kernel_rfl) (by kernel_rfl) (fun _ _ _ h => h) (Or.inl ⟨by rfl, ?ys7⟩) hHeld ?rs7
          case ys7 => (intro w' hSw; (try dsimp only at hSw); go_simp; try (with_reducible rfl))
          simp only [Act.put, List.setIfInBounds_toArray, List.set_cons_zero, List.set_cons_succ]
          refine wpAnyH_take (i := 8) (oi := ⟨some 37, _, _, _, _, _⟩) (v := ?vs8) rfl (by kernel_rfl) (by kernel_rfl) (by kernel_rfl) (fun _ _ _ h => h) (Or.inl ⟨by rfl, ?ys8⟩) hHeld ?rs8
          case ys8 => (intro w' hSw; (try dsimp only at hSw); go_simp; try (with_reducible rfl))
          simp only [Act.put, List.setIfInBounds_toArray, List.set_cons_zero, List.set_cons_succ]
          refine wpAnyH_take (i := 9) (oi := ⟨some 38, _, _, _, _, _⟩) (v := ?vs9) rfl (by kernel_rfl) (by kernel_rfl) (by kernel_rfl) (fun _ _ _ h => h) (Or.inl ⟨by rfl, ?ys9⟩) hHeld ?rs9
          case ys9 => (intro w' hSw; (try dsimp only at hSw); go_simp; try (with_reducible rfl))
          simp only [Act.put, List.setIfInBounds_toArray, List.set_cons_zero, List.set_cons_succ]
          refine wpAnyH_take (i := 10) (oi := ⟨some 39, _, _, _, _, _⟩) (v := ?vs10) rfl (by kernel_rfl) (by kernel_rfl) (by kernel_rfl) (fun _ _ _ h => h) (Or.inl ⟨by rfl, ?ys10⟩) hHeld ?rs10
          case ys10 => (intro w' hSw; (try dsimp only at hSw); go_simp; try (with_reducible rfl))
          simp only [Act.put, List.setIfInBounds_toArray, List.set_cons_zero, List.set_cons_succ]
          refine wpAnyH_take (i := 11) (oi := ⟨some 40, _, _, _, _, _⟩) (v := ?vs11) rfl (by kernel_rfl) (by kernel_rfl) (by kernel_rfl) (fun _ _ _ h => h) (Or.inl ⟨by rfl, ?ys11⟩) hHeld ?rs11
          case ys11 => (intro w' hSw; (try dsimp only at hSw); go_simp; try (with_reducible rfl))
          simp only [Act.put, List.setIfInBounds_toArray, List.set_cons_zero, List.set_cons_succ]
          refine wpAnyH_take (i := 12) (oi := ⟨some 41, _, _, _, _, _⟩) (v := ?vs12) rfl (by kernel_rfl) (by kernel_rfl) (by kernel_rfl) (fun _ _ _ h => h) (Or.inl ⟨by rfl, ?ys12⟩) hHeld ?rs12
          case ys12 => (intro w' hSw; (try dsimp only at hSw); go_simp; try (with_reducible rfl))
          simp only [Act.put, List.setIfInBounds_toArray, List.set_cons_zero, List.set_cons_succ]
          refine wpAnyH_ready (rs := [13]) (by kernel_rfl) (by simp) ?_
          refine AllReadyH.cons (o := ⟨some 42, _, _, _, _, _⟩) rfl (fun K hK => ?_) AllReadyH.nil
          go_simp
          (with_reducible refine (stamped_c n m hn3 hm5 _).mono ?_)
          rintro e w8 ⟨cvh, cvl, cch, ccl, rfl, hS, hb⟩
          have HSB := Lib.hid hS
          (try dsimp only)
          refine hK.out _ _ (HKP.out _ _ hHeld hb) (fun hNext => ?_)
          clear hK K hHeld
          have hHeld := hNext
          clear hNext
          try simp only [Act.put, List.setIfInBounds_toArray, List.set_cons_zero, List.set_cons_succ]
          refine wpAnyH_take (i := 14) (oi := ⟨some 43, _, _, _, _, _⟩) (v := ?vs14) rfl (by kernel_rfl) (by kernel_rfl) (by kernel_rfl) (fun _ _ _ h => h) (Or.inl ⟨by rfl, ?ys14⟩) hHeld ?rs14
          case ys14 => (intro w' hSw; (try dsimp only at hSw); go_simp; try (with_reducible rfl))
          simp only [Act.put, List.setIfInBounds_toArray, List.set_cons_zero, List.set_cons_succ]
          refine wpAnyH_take (i := 15) (oi := ⟨some 44, _, _, _, _, _⟩) (v := ?vs15) rfl (by kernel_rfl) (by kernel_rfl) (by kernel_rfl) (fun _ _ _ h => h) (Or.inl ⟨by rfl, ?ys15⟩) hHeld ?rs15
          case ys15 => (intro w' hSw; (try dsimp only at hSw); go_simp; try (with_reducible rfl))
          simp only [Act.put, List.setIfInBounds_toArray, List.set_cons_zero, List.set_cons_succ]
          refine wpAnyH_ready (rs := [16]) (by kernel_rfl) (by simp) ?_
          refine AllReadyH.cons (o := ⟨none, _, _, _, _, _⟩) rfl (fun K hK => ?_) AllReadyH.nil
          obtain ⟨x0, x1, x2, x3, KR⟩ := hHeld.2.2.2.2.2.2
          rw [if_pos (by rfl)]
          refine wp_store_mid 43 _ _ rfl (w.heap.size + 1 + 1) 0 #[.int .u64 (uv cvh), .int .u64 (uv cvl), .int .u64 (uv cch), .int .u64 (uv ccl)] rfl rfl (show World.there _ _ _ 4 from there4 KR) infoCubeS (by simp [Value.oneCell']) ?_
          (try dsimp only)
          refine hK.out _ _ (HKS.out _ _ _ _ _ hHeld) (fun hNext => ?_)
          clear hK K hHeld
          have hHeld := hNext
          clear hNext
          try simp only [Act.put]
          refine wpAnyH_take (i := 17) (oi := ⟨some 7, _, _, _, _, _⟩) (v := ?vs17) rfl (by kernel_rfl) (by kernel_rfl) (by kernel_rfl) (fun _ _ _ h => h) (Or.inl ⟨by rfl, ?ys17⟩) hHeld ?rs17
          case ys17 => (intro w' hSw; (try dsimp only at hSw); go_simp; try (with_reducible rfl))
          simp only [Act.put, List.setIfInBounds_toArray, List.set_cons_zero, List.set_cons_succ]
          refine wpAnyH_done (by kernel_rfl) ?_ _
          have HBE := Lib.hid hHeld.1
          have KE := Blk.putC [.int .u64 (uv cvh), .int .u64 (uv cvl), .int .u64 (uv cch), .int .u64 (uv ccl)] 0 _ _ KR
          obtain ⟨q0, q1, q2, q3⟩ := quad KE
          clear hHeld HKP HKS HS0 KE KR
          go_wp2
          exact bodyPost_ret (v := .tuple #[.agg #[.int .u64 (uv cvh), .int .u64 (uv cvl), .int .u64 (uv cch), .int .u64 (uv ccl)], .int .i64 0]) (by simp [results, Try.results22, go_sem, q0, q1, q2, q3]) rfl ⟨by rw [HZ.out]; exact stmR_yes hn3 hm5 HED.out HSB.out, HBE.out⟩
        · have HED : Hid (edgT T a b < 0) := by show _ < _; rw [not_edge his]; decide
          have KP : ∀ W, Below w2.heap.size w2 W → (Below w2.heap.size w2 W ∧ W.cell? ⟨w.heap.size, 0, none⟩ = some (.slice A T.length cap) ∧ W.cell? ⟨w.heap.size + 1, 0, none⟩ = some (.int .i64 a) ∧ W.cell? ⟨w.heap.size + 1, 1, none⟩ = some (.int .i64 b)) := fun W hb => ⟨hb, on_some hb d0, on_some hb e0, on_some hb e1⟩
          have HKP := Lib.hid KP
          have HIS : Hid (¬ isSp (eTo T T.length) a b) := his
          have HEL := Lib.hid hEl
          have HN := Lib.hid hn
          clear KP d0 d1 d2 d3 d4 e0 e1 his hEl hn
          go_upto_region 6 with (fail)
          refine wp_region_held_drew (S := fun w' => Below w2.heap.size w2 w' ∧ w'.cell? ⟨w.heap.size, 0, none⟩ = some (.slice A T.length cap) ∧ w'.cell? ⟨w.heap.size + 1, 0, none⟩ = some (.int .i64 a) ∧ w'.cell? ⟨w.heap.size + 1, 1, none⟩ = some (.int .i64 b)) (by kernel_rfl) (HKP.out _ (Below.refl _ w2).drew) (fun hHeld => ?_)
          refine wpAnyH_take (i := 0) (oi := ⟨some 22, _, _, _, _, _⟩) (v := ?vb0) rfl (by kernel_rfl) (by kernel_rfl) (by kernel_rfl) (fun _ _ _ h => h) (Or.inl ⟨by rfl, ?yb0⟩) hHeld ?rb0
          case yb0 => (intro w' hSw; (try dsimp only at hSw); go_simp; try (with_reducible rfl))
          simp only [Act.put, List.setIfInBounds_toArray, List.set_cons_zero, List.set_cons_succ]
          refine wpAnyH_take (i := 1) (oi := ⟨some 23, _, _, _, _, _⟩) (v := ?vb1) rfl (by kernel_rfl) (by kernel_rfl) (by kernel_rfl) (fun _ _ _ h => h) (Or.inl ⟨by rfl, ?yb1⟩) hHeld ?rb1
          case yb1 => (intro w' hSw; (try dsimp only at hSw); go_simp; try (with_reducible rfl))
          simp only [Act.put, List.setIfInBounds_toArray, List.set_cons_zero, List.set_cons_succ]
          refine wpAnyH_take (i := 3) (oi := ⟨some 25, _, _, _, _, _⟩) (v := ?vb3) rfl (by kernel_rfl) (by kernel_rfl) (by kernel_rfl) (fun _ _ _ h => h) (Or.inl ⟨by rfl, ?yb3⟩) hHeld ?rb3
          case yb3 => (intro w' hSw; (try dsimp only at hSw); go_simp; try (with_reducible rfl))
          simp only [Act.put, List.setIfInBounds_toArray, List.set_cons_zero, List.set_cons_succ]
          refine wpAnyH_ready (rs := [2]) (by kernel_rfl) (by simp) ?_
          refine AllReadyH.cons (o := ⟨some 24, _, _, _, _, _⟩) rfl (fun K hK => ?_) AllReadyH.nil
          go_simp
          (with_reducible refine (edges_c _ T _ (HT.out.on (HB2.out.trans (hHeld.1.mono HB2.out.size))) HN.out).mono ?_)
          rintro e w5 ⟨ev, rfl, OE, hb⟩
          obtain ⟨eA, ec, rfl, hE⟩ := Spt.of OE
          have hE2 : Spt w5 (.slice eA (eTo T T.length).length ec) (eTo T T.length) := ⟨_, _, rfl, hE⟩
          (try dsimp only)
          refine hK.out _ _ (HKP.out _ (hHeld.1.trans (hb.mono hHeld.1.size))) (fun hNext => ?_)
          clear hK K hHeld
          have hHeld := hNext
          clear hNext
          try simp only [Act.put, List.setIfInBounds_toArray, List.set_cons_zero, List.set_cons_succ]
          refine wpAnyH_ready (rs := [4]) (by kernel_rfl) (by simp) ?_
          refine AllReadyH.cons (o := ⟨some 26, _, _, _, _, _⟩) rfl (fun K hK => ?_) AllReadyH.nil
          go_simp
          (with_reducible refine (has_spot false _ (eTo T T.length) a b _ hE2 HEL.out ⟨fun h => (by cases h), fun h => absurd h HIS.out⟩).mono ?_)
          rintro e w6 ⟨rfl, hb⟩
          (try dsimp only)
          refine hK.out _ _ (HKP.out _ (hHeld.1.trans (hb.mono hHeld.1.size))) (fun hNext => ?_)
          clear hK K hHeld
          have hHeld := hNext
          clear hNext
          try simp only [Act.put, List.setIfInBounds_toArray, List.set_cons_zero, List.set_cons_succ]
          refine wpAnyH_take (i := 5) (oi := ⟨some 27, _, _, _, _, _⟩) (v := ?vb5) rfl (by kernel_rfl) (by kernel_rfl) (by kernel_rfl) (fun _ _ _ h => h) (Or.inl ⟨by rfl, ?yb5⟩) hHeld ?rb5
          case yb5 => (intro w' hSw; (try dsimp only at hSw); go_simp; try (with_reducible rfl))
          simp only [Act.put, List.setIfInBounds_toArray, List.set_cons_zero, List.set_cons_succ]
          refine wpAnyH_done (by kernel_rfl) ?_ _
          have HB4 := Lib.hid (HB2.out.trans (hHeld.1.mono HB2.out.size))
          have R4 := R2.out.on hHeld.1
          clear hHeld HKP HIS f0 f1 f2 f3 z0 z1 z2 z3 q0 q1 q2 q3 B6 hE hE2 hb OE
          obtain ⟨f0, f1, f2, f3⟩ := free4 R4
          obtain ⟨z0, z1, z2, z3⟩ := quad R4
          obtain ⟨q0, q1, q2, q3⟩ := quad (put4 R4 (.int .u64 0) (.int .u64 0) (.int .u64 0) (.int .u64 0))
          have B6 := Lib.hid (HB4.out.trans ((sets4 w6 (w.heap.size + 1 + 1) (.int .u64 0) (.int .u64 0) (.int .u64 0) (.int .u64 0)).mono (by omega)))
          clear R4
          go_wp2
          exact bodyPost_ret (v := .tuple #[.agg #[.int .u64 0, .int .u64 0, .int .u64 0, .int .u64 0], .int .i64 7]) (by simp [results, Try.results22, go_sem, q0, q1, q2, q3]) rfl ⟨by rw [HZ.out]; exact stmR_none HR.out HED.out, B6.out⟩
  · have HNZ := Lib.hid hz0
    go_wp2
    exact bodyPost_ret (v := .tuple #[.agg #[.int .u64 0, .int .u64 0, .int .u64 0, .int .u64 0], .int .i64 z]) (by simp [results, Try.results22, go_sem, q0, q1, q2, q3]) rfl ⟨by rw [HZ.out]; exact stmR_bad HNZ.out, B6.out⟩
end Go.Proofs

namespace Go.Proofs.Hd
open Go.RowKit
theorem firT_zero : ∀ {BB : List (List (List Rl))} {T : List (List Pt)}, firT BB T = 0 → ∀ {n : Nat} {B : List (List Rl)} {L : List Pt}, BB[n]? = some B → T[n]? = some L → sT B (L.map Pt.kind) = 0
  | [], _, _, n, B, L, hB, _ => by simp at hB
  | _ :: _, [], _, n, B, L, _, hL => by simp at hL
  | B' :: BB, L' :: T, h, n, B, L, hB, hL => by
    unfold firT at h
    by_cases e : sT B' (L'.map Pt.kind) = 0
    · rw [if_pos e] at h
      cases n with
      | zero =>
        simp only [List.getElem?_cons_zero, Option.some.injEq] at hB hL
        rw [← hB, ← hL]
        exact e
      | succ n =>
        rw [List.getElem?_cons_succ] at hB hL
        exact firT_zero h hB hL
    · rw [if_neg e] at h
      exact absurd h e
theorem cfg_parts {T : List (List Pt)} {ten : Int} {P : List (Int × Int)} {Q : List Wa} {BB : List (List (List Rl))} (h : cfgT T ten P Q BB = 0) : sTp T = 0 ∧ polT T ten P Q = 0 ∧ BB.length = T.length ∧ firT BB T = 0 := by
  unfold cfgT at h
  by_cases h1 : sTp T = 0
  · rw [if_pos h1] at h
    by_cases h2 : polT T ten P Q = 0
    · rw [if_pos h2] at h
      by_cases h3 : BB.length = T.length
      · rw [if_pos h3] at h
        exact ⟨h1, h2, h3, h⟩
      · rw [if_neg h3] at h
        cases h
    · rw [if_neg h2] at h
      exact absurd h h2
  · rw [if_neg h1] at h
    exact absurd h h1
theorem sT_zero {B : List (List Rl)} {K : List Int} (h : sT B K = 0) : 1 ≤ B.length ∧ B.length ≤ 3 ∧ okT B K B.length = true := by
  unfold sT at h
  split at h
  · cases h
  · split at h
    · cases h
    · split at h
      · rename_i h1 _ h2
        exact ⟨by omega, by omega, h2⟩
      · cases h
theorem okT_at {B : List (List Rl)} {K : List Int} (h : okT B K B.length = true) {t i : Nat} {R : List Rl} {r : Rl} (hR : B[t]? = some R) (hr : R[i]? = some r) : okR B.length K t r = true := by
  cases hc : okR B.length K t r with
  | true => rfl
  | false => rw [okT_no hR hr hc] at h; cases h
/-- Table t of switch n is there; L its ports, R its rules. -/
def StA (T : List (List Pt)) (BB : List (List (List Rl))) (n t : Nat) (L : List Pt) (R : List Rl) : Prop := T[n]? = some L ∧ ∃ B, BB[n]? = some B ∧ B[t]? = some R
/-- Where a rule may lead in a sound configuration. -/
theorem rule_leads {T : List (List Pt)} {ten : Int} {P : List (Int × Int)} {Q : List Wa} {BB : List (List (List Rl))} (h : cfgT T ten P Q BB = 0) {n t i : Nat} {L : List Pt} {R : List Rl} {r : Rl} (hs : StA T BB n t L R) (hr : R[i]? = some r) :
    r.m.snd = true ∧ r.s.snd = true ∧ (r.kind = 1 ∨ r.kind = 2 ∨ (r.kind = 3 ∧ ∃ (j m : Nat) (p : Pt) (L' : List Pt) (R' : List Rl), r.port = (j : Int) ∧ L[j]? = some p ∧ p.kind = 2 ∧ p.peer = (m : Int) ∧ StA T BB m 0 L' R') ∨ (r.kind = 4 ∧ ∃ (u : Nat) (R' : List Rl), r.tab = (u : Int) ∧ StA T BB n u L R')) := by
  obtain ⟨h1, -, h3, h4⟩ := cfg_parts h
  obtain ⟨hL, B, hB, hR⟩ := hs
  obtain ⟨-, -, hok⟩ := sT_zero (firT_zero h4 hB hL)
  have hx := okT_at hok hR hr
  unfold okR at hx
  rw [Bool.and_eq_true, decide_eq_true_eq] at hx
  obtain ⟨hx, htab⟩ := hx
  unfold sndR at hx
  simp only [Bool.and_eq_true, decide_eq_true_eq] at hx
  obtain ⟨⟨⟨-, hm⟩, hset⟩, hl⟩ := hx
  refine ⟨hm, hset, ?_⟩
  unfold leads at hl
  split at hl
  · exact .inl (by assumption)
  · split at hl
    · exact .inr (.inl (by assumption))
    · split at hl
      · rename_i hk
        refine .inr (.inr (.inl ⟨hk, ?_⟩))
        rw [Bool.and_eq_true] at hl
        have hp := hl.1
        unfold isP at hp
        simp only [Bool.and_eq_true, decide_eq_true_eq, beq_iff_eq] at hp
        obtain ⟨h0, hp⟩ := hp
        rw [List.getElem?_map] at hp
        cases hq : L[r.port.toNat]? with
        | none => rw [hq] at hp; cases hp
        | some p =>
          rw [hq] at hp
          injection hp with hp
          have ho := (sTp_zero h1).2 n r.port.toNat L p (List.getElem?_eq_some_iff.1 hL).1 hL hq
          unfold okP at ho
          rw [if_neg (by omega), if_pos hp] at ho
          simp only [Bool.and_eq_true, decide_eq_true_eq] at ho
          have ha := ho.2
          unfold ansP at ha
          cases hq2 : ptAt T p.peer p.spot with
          | none => rw [hq2] at ha; cases ha
          | some q =>
            obtain ⟨m, i', L', e1, -, hL', -⟩ := ptAt_some hq2
            have hm' := (List.getElem?_eq_some_iff.1 hL').1
            have hB' : BB[m]? = some BB[m] := List.getElem?_eq_getElem (by omega)
            obtain ⟨hb1, -, -⟩ := sT_zero (firT_zero h4 hB' hL')
            exact ⟨r.port.toNat, m, p, L', BB[m][0], by omega, hq, hp, e1, hL', BB[m], hB', List.getElem?_eq_getElem (by omega)⟩
      · split at hl
        · rename_i hk
          refine .inr (.inr (.inr ⟨hk, ?_⟩))
          simp only [Bool.and_eq_true, decide_eq_true_eq] at hl
          have hlt : r.tab.toNat < B.length := by omega
          exact ⟨r.tab.toNat, B[r.tab.toNat], by omega, hL, B, hB, List.getElem?_eq_getElem hlt⟩
        · cases hl
def stL (r : Rl) (hl : BitVec 64) : BitVec 64 := (hl &&& ~~~r.s.cl) ||| (r.s.vl &&& r.s.cl)
/-- Table t of switch n, empty where there is none. -/
def tabL (BB : List (List (List Rl))) (n t : Nat) : List Rl := ((BB[n]?).bind fun B => B[t]?).getD []
theorem StA.tab {T : List (List Pt)} {BB : List (List (List Rl))} {n t : Nat} {L : List Pt} {R : List Rl} (h : StA T BB n t L R) : tabL BB n t = R := by
  obtain ⟨-, B, hB, hR⟩ := h
  unfold tabL
  rw [hB, Option.bind_some, hR, Option.getD_some]
end Go.Proofs.Hd

namespace Go.Proofs.Hd
open Go Go.RowKit
variable {F : Fence} {n : Nat} {P : Program}
/-- The method value of gf at rv gives out xs, one after the other, as long as the rounds go on; what lies below n₀ must be kept. -/
def SeqN {α : Type} (F : Fence) (n : Nat) (P : Program) (gf : Nat) (rv : Value) (encs : α → Array Value) (n₀ : Nat) (xs : List α) (w : World) : Prop :=
  ∀ (l : Nat) (J : List α → World → Prop) (W : World), Below w.heap.size w W → (∀ s A B, J s A → Below A.heap.size A B → J s B) →
    (∀ pre x W1, J pre W1 → pre ++ [x] <+: xs → YieldAt F (n - 1) P l (encs x) W1 fun e W' => e = .returned (.bool true) ∧ J (pre ++ [x]) W' ∧ Below n₀ W1 W') →
    J [] W → CallsIn F n P gf #[rv, .func (.yield l) #[] #[]] W fun e W' => (∃ v, e = .returned v) ∧ J xs W'
/-- How the body of a round is left. -/
def rndPost {α : Type} (D n₀ : Nat) (I : List α → World → Prop) (ys : List α) (W : World) : Exit → Act → World → Prop
  | .normal, _, W' => W'.heap[D]? = W.heap[D]? ∧ W'.heap[D + 1]? = W.heap[D + 1]? ∧ Below n₀ W W' ∧ I ys W'
  | _, _, _ => False
theorem wpIn_rangeFunc_all {α : Type} {g : Operand} {ps : Array Tmp} {assign body : Code} {Q : Exit → Act → World → Prop} {a : Act} {w : World}
    (hro : F.round = none) (h1 : 1 ≤ n) {gf : Nat} {rv : Value} (hg : a.eval g = .func (.func gf) #[rv] #[]) (hFg : F.fn gf) (eg : ∀ args w, (callFunc gf args).run P w = .ok (.enter gf args) w)
    {encs : α → Array Value} {n₀ : Nat} {xs : List α} (hn : n₀ ≤ w.heap.size) (hseq : SeqN F (n - 1) P gf rv encs n₀ xs w) (hps : ∀ x, (encs x).size = ps.size)
    (I : List α → World → Prop) (hI : ∀ s A B, I s A → Ch (fun k => k = w.heap.size ∨ k = w.heap.size + 1) A B → I s B) (h0 : I [] w)
    (hround : ∀ (l : Nat) (pre : List α) (x : α) (W : World), w.heap.size + 2 ≤ W.heap.size → I pre W → pre ++ [x] <+: xs → ∀ K : Act → World → Prop,
      (∀ a' Wa, (Ch (fun _ => False) W Wa ∧ ∀ Wb, Wb.heap.size = Wa.heap.size → Ch (fun k => k = w.heap.size + 1) Wa Wb → body.wpIn (F.inRound l) (n - 1 - 1) P (rndPost w.heap.size n₀ I (pre ++ [x]) Wb) a' Wb) → K a' Wa) →
      assign.wpIn (F.inRound l) (n - 1 - 1) P (Exit.then K (fun _ _ _ => False)) { tmps := (ps.zip (encs x)).foldl (fun t (p, v) => t.setIfInBounds p v) a.tmps, defers := [] } W)
    (hdone : ∀ W, I xs W → W.heap[w.heap.size]? = some (.deferred (some [])) → Q .normal { a with defers := { target := .collected w.heap.size, args := #[] } :: a.defers } W) :
    (Code.rangeFunc g ps assign body).wpIn F n P Q a w := by
  refine wpIn_rangeFunc ?_
  intro fn hfn
  rw [hro]
  obtain ⟨rec, hrec⟩ : ∃ rec : LoopState → Option Code → Loop, rec = fun st pe => { state := st, pending := pe, fn, tmps := a.tmps, params := ps, assign, body, defers := w.heap.size } := ⟨_, rfl⟩
  obtain ⟨W1, hW1⟩ : ∃ W1, (w.alloc (.deferred (some []))).alloc (.loop (rec .ready none)) = W1 := ⟨_, rfl⟩
  have hL1 : W1.heap[w.heap.size + 1]? = some (.loop (rec .ready none)) := by
    rw [← hW1]; have := World.alloc_heap_new (w.alloc (.deferred (some []))) (.loop (rec .ready none)); rwa [World.size_alloc] at this
  have hK1 : W1.heap[w.heap.size]? = some (.deferred (some [])) := by
    rw [← hW1]; exact (Below.heap_alloc _ _ _ (by simp)).trans (World.alloc_heap_new w _)
  have hb1 : Below w.heap.size w W1 := by
    rw [← hW1]; exact ((Below.refl _ w).alloc (Nat.le_refl _) _).alloc (by simp) _
  have hI1 : I [] W1 := hI _ _ _ h0 (Ch.of_below hb1)
  have bk : ∀ (W : World) (o o' : Obj), W.heap[w.heap.size + 1]? = some o → Below n₀ W (W.putObj (w.heap.size + 1) o') := fun W o o' h =>
    (Below.refl n₀ W).grown (grownBy_putObj' W _ o') (by have := (Array.getElem?_eq_some_iff.1 h).1; omega) (fun k e => by cases e; omega)
  have ck : ∀ (W : World) (o' : Obj), Ch (fun k => k = w.heap.size + 1) W (W.putObj (w.heap.size + 1) o') := fun W o' =>
    ⟨rfl, rfl, rfl, by simp, fun k _ hk => World.putObj_heap_other hk⟩
  refine ⟨w.heap.size + 1, [{ target := .collected w.heap.size, args := #[] }], W1, { target := .fn (.func gf) #[], args := #[rv, .func (.yield (w.heap.size + 1)) #[] #[]] }, W1, gf,
    #[rv, .func (.yield (w.heap.size + 1)) #[] #[]], W1, ?_, ?_, ?_, ?_, fun _ => h1, ?_⟩
  · rw [← hW1, hrec]; exact run_enterLoop_outer _ _ _ _ _
  · simp only [resolve, hg]
    simp [go_sem]
  · intro f' hf'; simp [Target.leads] at hf'; subst hf'; exact hFg
  · simp [invoke, go_sem, eg]
  · refine (hseq (w.heap.size + 1)
      (fun pre W => I pre W ∧ W.heap[w.heap.size + 1]? = some (.loop (rec .ready none)) ∧ W.heap[w.heap.size]? = some (.deferred (some [])))
      W1 hb1
      (fun s A B hs hb => ⟨hI s A B hs.1 (Ch.of_below hb), (hb.block _ (Array.getElem?_eq_some_iff.1 hs.2.1).1).trans hs.2.1, (hb.block _ (Array.getElem?_eq_some_iff.1 hs.2.2).1).trans hs.2.2⟩)
      ?_ ⟨hI1, hL1, hK1⟩).mono ?_
    · rintro pre x W ⟨hi, hl, hk⟩ hlen
      have hlt : w.heap.size + 1 < W.heap.size := (Array.getElem?_eq_some_iff.1 hl).1
      have hy := run_yield (P := P) (args := encs x) hl (by rw [hrec]; exact hps x)
      rw [hrec] at hy
      refine ⟨fn, _, assign, body, hy, roundIn_of_wpIn hfn (wpIn_mono (hround _ pre x W (by omega) hi hlen _ (fun _ _ h => h)) ?_)⟩
      rintro e a3 Wa hp
      cases e with
      | normal =>
        obtain ⟨hca, hbody⟩ := hp
        have hla := (hca.block _ (by omega) (fun h => h)).trans hl
        have hka := (hca.block _ (by omega) (fun h => h)).trans hk
        have hlta : w.heap.size + 1 < Wa.heap.size := (Array.getElem?_eq_some_iff.1 hla).1
        refine ⟨_, run_beginRound hla (by rw [hrec]), wpIn_mono (hbody _ (by simp) (ck Wa _)) ?_⟩
        have hl2 : (Wa.putObj (w.heap.size + 1) (.loop { rec .ready none with state := .busy })).heap[w.heap.size + 1]? = some (.loop { rec .ready none with state := .busy }) := World.putObj_heap_same hlta
        have hk2 : (Wa.putObj (w.heap.size + 1) (.loop { rec .ready none with state := .busy })).heap[w.heap.size]? = some (.deferred (some [])) := (World.putObj_heap_other (by omega)).trans hka
        rintro e a4 W3 hp
        cases e with
        | normal =>
          obtain ⟨q1, q2, q3, q4⟩ := hp
          have hl3 := q2.trans hl2
          have hk3 := q1.trans hk2
          have hr := run_endRound (P := P) none hl3
          rw [hrec] at hr
          refine ⟨_, _, hr, rfl, ⟨hI _ _ _ q4 ((ck W3 _).mono fun k _ e => .inr e), ?_, (World.putObj_heap_other (by omega)).trans hk3⟩, ?_⟩
          · rw [hrec]; exact World.putObj_heap_same (Array.getElem?_eq_some_iff.1 hl3).1
          · exact (((hca.below (by omega) (fun _ _ h => h)).trans (bk Wa _ _ hla)).trans q3).trans (bk W3 _ _ hl3)
        | ret => exact hp.elim
        | exit id => exact hp.elim
        | goto t => exact hp.elim
        | panic ch => exact hp.elim
        | outgrown => exact hp.elim
      | ret => exact hp.elim
      | exit id => exact hp.elim
      | goto t => exact hp.elim
      | panic ch => exact hp.elim
      | outgrown => exact hp.elim
    · rintro e W2 ⟨⟨v, rfl⟩, hi, hl, hk⟩
      exact ⟨none, _, by have := run_endLoop (P := P) hl (by rw [hrec]; simp); rw [hrec] at this; exact this, hdone _ (hI _ _ _ hi ((ck W2 _).mono fun k _ e => .inr e)) ((World.putObj_heap_other (by omega)).trans hk)⟩
end Go.Proofs.Hd

namespace Go.Proofs.Hd
open Go Go.RowKit
/-- All rules, by switch, then by table. -/
def rulL (BB : List (List (List Rl))) : List Rl := BB.flatMap List.flatten
theorem rulL_take {BB : List (List (List Rl))} {k : Nat} {X : List (List Rl)} (h : BB[k]? = some X) : rulL (BB.take (k + 1)) = rulL (BB.take k) ++ X.flatten := by
  unfold rulL
  rw [List.take_add_one, h, List.flatMap_append]
  simp
theorem flatten_take {X : List (List Rl)} {k : Nat} {R : List Rl} (h : X[k]? = some R) : (X.take (k + 1)).flatten = (X.take k).flatten ++ R := by
  rw [List.take_add_one, h, List.flatten_append]
  simp
theorem rulL_pre {BB : List (List (List Rl))} {k j i : Nat} {X : List (List Rl)} {R : List Rl} {r : Rl} (hX : BB[k]? = some X) (hR : X[j]? = some R) (hr : R[i]? = some r) : rulL (BB.take k) ++ (X.take j).flatten ++ R.take i ++ [r] <+: rulL BB := by
  have e1 : R.take i ++ [r] = R.take (i + 1) := by rw [List.take_add_one, hr]; rfl
  have h1 : R.take i ++ [r] <+: R := by rw [e1]; exact List.take_prefix _ _
  have h2 : (X.take j).flatten ++ (R.take i ++ [r]) <+: X.flatten := by
    refine ((List.prefix_append_right_inj _).2 h1).trans ?_
    rw [← flatten_take hR]
    refine ⟨(X.drop (j + 1)).flatten, ?_⟩
    rw [← List.flatten_append, List.take_append_drop]
  rw [List.append_assoc, List.append_assoc]
  refine ((List.prefix_append_right_inj _).2 h2).trans ?_
  rw [← rulL_take hX]
  refine ⟨rulL (BB.drop (k + 1)), ?_⟩
  unfold rulL
  rw [← List.flatMap_append, List.take_append_drop]
theorem rulL_mem {BB : List (List (List Rl))} {r : Rl} : r ∈ rulL BB ↔ ∃ X, X ∈ BB ∧ ∃ R, R ∈ X ∧ r ∈ R := by
  unfold rulL
  simp only [List.mem_flatMap, List.mem_flatten]
end Go.Proofs.Hd
namespace Go.Proofs
open Go.RowKit Go.Proofs.Hd Go.Lib Go.Shelf
attribute [local go_sem] uv_nonneg Oper.semAt_some
set_option maxRecDepth 100000 in
set_option maxHeartbeats 4000000 in
theorem rules_c (n l : Nat) (hn : 1 ≤ n) (bv : Value) (BB : List (List (List Rl))) (w0 : World) (hB : RuQ w0 bv BB) (J : List Rl → World → Prop) (W : World) (hW : Below w0.heap.size w0 W) (hJ : ∀ s A B, J s A → Below A.heap.size A B → J s B)
    (hY : ∀ pre x W1, J pre W1 → pre ++ [x] <+: rulL BB → YieldAt Fence.wide (n - 1) Try.prog l #[.agg #[.int .i64 x.pri, .int .u64 (uv x.m.vh), .int .u64 (uv x.m.vl), .int .u64 (uv x.m.ch), .int .u64 (uv x.m.cl), .int .i64 x.kind, .int .i64 x.port, .int .i64 x.tab, .int .u64 (uv x.s.vh), .int .u64 (uv x.s.vl), .int .u64 (uv x.s.ch), .int .u64 (uv x.s.cl)]] W1 fun e W' => e = .returned (.bool true) ∧ J (pre ++ [x]) W' ∧ Below w0.heap.size W1 W') (h0 : J [] W) :
    Calls Try.prog 24 #[bv, .func (.yield l) #[] #[]] W fun e W' => (∃ v, e = .returned v) ∧ J (rulL BB) W' := by
  obtain ⟨A, cap, rfl, hbm, hBA⟩ := hB
  have HA := Lib.hid hBA
  have HJ := Lib.hid hJ
  have HY := Lib.hid hY
  have hbz : (BB.length : Int) ≤ 9223372036854775807 := by unfold maxLen at hbm; omega
  have H0 : Hid (J (rulL (BB.take 0)) W) := h0
  have HW := Lib.hid hW
  clear hBA hJ hY h0 hW
  go_enter Try.func24, Try.ntmps24
  go_wp2
  go_loopg [12] BB.length (fun gk s12 wr => ∃ k, k ≤ BB.length ∧ gk = BB.length - k ∧ s12 = .int .i64 k ∧ Hid (J (rulL (BB.take k)) wr) ∧ Hid (Below w0.heap.size w0 wr))
  case atStart => exact ⟨0, Nat.zero_le _, rfl, by go_num, H0, HW⟩
  case round =>
    clear H0 HW
    obtain ⟨k, hk, rfl, rfl, HJk, HBk⟩ := hrel
    by_cases hlt : k < BB.length
    · have hltz : (k : Int) < (BB.length : Int) := by omega
      obtain ⟨X, hX⟩ : ∃ X, BB[k]? = some X := ⟨_, List.getElem?_eq_getElem hlt⟩
      obtain ⟨b, o, rfl, hb, hc⟩ := HA.out (by intro h; rw [h] at hlt; simp at hlt)
      obtain ⟨s, hs, hT⟩ := hc k X hX
      obtain ⟨A1, c1, rfl, hXm, hXl, hXA⟩ := hT
      have hs1 := on_some HBk.out hs
      have HXA := Lib.hid hXA
      have HXL := Lib.hid hXl
      have HX := Lib.hid hX
      have hxz : (X.length : Int) ≤ 9223372036854775807 := by unfold maxLen at hXm; omega
      have HJ0 : Hid (J (rulL (BB.take k) ++ (X.take 0).flatten) wr) := by show J _ _; simpa using HJk.out
      clear hX hc hs hXA hXl HJk
      go_wp2
      go_loopg [18] X.length (fun gk s18 wr => ∃ j, j ≤ X.length ∧ gk = X.length - j ∧ s18 = .int .i64 j ∧ Hid (J (rulL (BB.take k) ++ (X.take j).flatten) wr) ∧ Hid (Below w0.heap.size w0 wr))
      case atStart => exact ⟨0, Nat.zero_le _, rfl, by go_num, HJ0, HBk⟩
      case round =>
        clear HJ0 HBk hs1
        obtain ⟨j, hj, rfl, rfl, HJj, HBj⟩ := hrel
        by_cases hjlt : j < X.length
        · have hjz : (j : Int) < (X.length : Int) := by omega
          obtain ⟨R, hR⟩ : ∃ R, X[j]? = some R := ⟨_, List.getElem?_eq_getElem hjlt⟩
          obtain ⟨b1, o1, rfl, hb1, hc1⟩ := HXA.out (by intro h; rw [h] at hjlt; simp at hjlt)
          obtain ⟨s1, hs1, hRu⟩ := hc1 j R hR
          have hRm := HXL.out R (List.mem_of_getElem? hR)
          obtain ⟨A2, c2, rfl, hRA⟩ := hRu.form
          have hs2 := on_some HBj.out hs1
          have HRA := Lib.hid hRA
          have HR := Lib.hid hR
          have hrz : (R.length : Int) ≤ 9223372036854775807 := by unfold maxLen at hRm; omega
          have HJ0 : Hid (J (rulL (BB.take k) ++ (X.take j).flatten ++ R.take 0) wr) := by show J _ _; simpa using HJj.out
          clear hR hc1 hs1 hRA hRu HJj
          go_wp2
          go_loopg [24] R.length (fun gk s24 wr => ∃ i, i ≤ R.length ∧ gk = R.length - i ∧ s24 = .int .i64 i ∧ Hid (J (rulL (BB.take k) ++ (X.take j).flatten ++ R.take i) wr) ∧ Hid (Below w0.heap.size w0 wr))
          case atStart => exact ⟨0, Nat.zero_le _, rfl, by go_num, HJ0, HBj⟩
          case round =>
            clear HJ0 HBj hs2
            obtain ⟨i, hi, rfl, rfl, HJi, HBi⟩ := hrel
            by_cases hilt : i < R.length
            · have hiz : (i : Int) < (R.length : Int) := by omega
              obtain ⟨r, hr⟩ : ∃ r, R[i]? = some r := ⟨_, List.getElem?_eq_getElem hilt⟩
              obtain ⟨b2, o2, rfl, hb2, hc2⟩ := HRA.out (by intro h; rw [h] at hilt; simp at hilt)
              obtain ⟨c0, c1, c2, c3, c4, c5, c6, c7, c8, c9, c10, c11⟩ := ((hc2 i r hr).on HBi.out).out
              have hbx := below1 wr (.cells #[.int .i64 r.pri, .int .u64 (uv r.m.vh), .int .u64 (uv r.m.vl), .int .u64 (uv r.m.ch), .int .u64 (uv r.m.cl), .int .i64 r.kind, .int .i64 r.port, .int .i64 r.tab, .int .u64 (uv r.s.vh), .int .u64 (uv r.s.vl), .int .u64 (uv r.s.ch), .int .u64 (uv r.s.cl)] 51)
              obtain ⟨fn, tmps, assign, body, hy, hRd⟩ := HY.out _ r _ (HJ.out _ _ _ HJi.out hbx) (rulL_pre HX.out HR.out hr)
              have HJn : Hid (rulL (BB.take k) ++ (X.take j).flatten ++ R.take (i + 1) = rulL (BB.take k) ++ (X.take j).flatten ++ R.take i ++ [r]) := by
                show _ = _
                rw [List.take_add_one, hr]
                simp
              have HBx := Lib.hid (HBi.out.trans (hbx.mono HBi.out.size))
              have HRD := Lib.hid hRd
              clear hr hc2 hbx hRd HJi HBi
              go_upto_region 9 with (fail)
              clear c0 c1 c2 c3 c4 c5 c6 c7 c8 c9 c10 c11
              refine (wpIn_wide (n := n)).1 ?_
              gi_wp2
              refine HRD.out.mono ?_
              rintro e W3 ⟨rfl, hJ3, hb3⟩
              have HB3 := Lib.hid (HBx.out.trans hb3)
              rw [← HJn.out] at hJ3
              have HJ3 := Lib.hid hJ3
              clear hJ3 hb3 hy HRD HBx
              gi_wp2
              go_wp2
              go_roundg (R.length - (i + 1))
              case measure => omega
              case rel => exact ⟨i + 1, by omega, rfl, by go_num, HJ3, HB3⟩
            · have hiz : ¬ (i : Int) < (R.length : Int) := by omega
              obtain rfl : i = R.length := by omega
              have HJ3 : Hid (J (rulL (BB.take k) ++ (X.take (j + 1)).flatten) wr) := by
                have := HJi.out
                rw [List.take_length, List.append_assoc, ← flatten_take HR.out] at this
                exact this
              clear HJi
              go_wp2
              go_roundg (X.length - (j + 1))
              case measure => omega
              case rel => exact ⟨j + 1, by omega, rfl, by go_num, HJ3, HBi⟩
        · have hjz : ¬ (j : Int) < (X.length : Int) := by omega
          obtain rfl : j = X.length := by omega
          have HJ3 : Hid (J (rulL (BB.take (k + 1))) wr) := by
            have := HJj.out
            rw [List.take_length, ← rulL_take HX.out] at this
            exact this
          clear HJj
          go_wp2
          go_roundg (BB.length - (k + 1))
          case measure => omega
          case rel => exact ⟨k + 1, by omega, rfl, by go_num, HJ3, HBj⟩
    · have hltz : ¬ (k : Int) < (BB.length : Int) := by omega
      obtain rfl : k = BB.length := by omega
      rw [List.take_length] at HJk
      go_wp2
      go_end0
      exact ⟨⟨_, rfl⟩, HJk.out⟩
theorem rules_seq (n : Nat) (hn : 1 ≤ n) (bv : Value) (BB : List (List (List Rl))) (w0 w : World) (hB : RuQ w0 bv BB) (hb : Below w0.heap.size w0 w) : SeqN Fence.wide n Try.prog 24 bv (fun x : Rl => #[.agg #[.int .i64 x.pri, .int .u64 (uv x.m.vh), .int .u64 (uv x.m.vl), .int .u64 (uv x.m.ch), .int .u64 (uv x.m.cl), .int .i64 x.kind, .int .i64 x.port, .int .i64 x.tab, .int .u64 (uv x.s.vh), .int .u64 (uv x.s.vl), .int .u64 (uv x.s.ch), .int .u64 (uv x.s.cl)]]) w0.heap.size (rulL BB) w :=
  fun l J W hW hJ hY h0 => callsIn_wide.2 (rules_c n l hn bv BB w0 hB J W (hb.trans (hW.mono hb.size)) hJ hY h0)
end Go.Proofs
