/-
  The row of customhouselaw10.IdsMeets: for every input it returns true, and each argument reads as it did. No conditions.
  The walk of customhouselaw10.IdsMeets: it returns true. Conditions as each theorem lists them.
-/
import Derived.Test.YtbnfagbeebndeaaJ4Idsmeets
import Derived.Test.YtbnfagbeebndeaaRows
import Derived.Below
namespace Go.Proofs.Hd
open Go.RowKit
theorem own_kept {w w' : World} {base : Nat} {e : TypeId} {size n : Nat} {v u : Value} {xs : List Value} (h : w.ownsRow base e size u n xs) (hg : w.grownBy w' v.ownBlock) (ha : ∀ k, v.ownBlock = some k → u.ownBlock ≠ some k) : w'.ownsRow base e size u n xs := by
  refine h.kept hg ?_
  cases hu : u.ownBlock with
  | none => exact .inl rfl
  | some k => exact .inr (fun e => ha k e.symm hu)
theorem apart_grown {w w' : World} {base : Nat} {e : TypeId} {size n : Nat} {v v' u : Value} {xs : List Value} (h : w.ownsRow base e size u n xs) (hg : Grw w w' v.ownBlock v'.ownBlock) (ha : ∀ k, v.ownBlock = some k → u.ownBlock ≠ some k) : ∀ k, v'.ownBlock = some k → u.ownBlock ≠ some k := by
  intro k hk hu
  rcases hg.2 with e | ⟨j, e, hj⟩
  · exact ha k (e ▸ hk) hu
  · have e2 : j = k := by rw [e] at hk; injection hk
    have := (h.lt k hu).2
    omega
theorem grown_over {w0 w w' : World} {row : Option Nat} (h : Below w0.heap.size w0 w) (hg : w.grownBy w' row) (hr : ∀ j, row = some j → w0.heap.size ≤ j) : Below w0.heap.size w0 w' := h.grown hg h.size hr
end Go.Proofs.Hd
namespace Go.Proofs
open Go.RowKit Go.Proofs.Hd Go.Lib Go.Sort
attribute [local go_sem] uv_nonneg
set_option maxHeartbeats 16000000 in
set_option maxRecDepth 100000 in
theorem imeets_main (va vb : Value) (A B : List Int) (w : World) (hl : A.length ≤ 200) (hm : B.length ≤ 200) (ha : Nm w va A) (hb : Nm w vb B) : Calls Try.prog 4 #[va, vb] w fun e w' => e = .returned (.bool true) ∧ Below w.heap.size w w' := by
  obtain ⟨ic, hic, hcz0, hcz1, hcz2⟩ := info_parts info_int
  have hlz : ¬ (200 : Int) < (A.length : Int) := by omega
  have hmz : ¬ (200 : Int) < (B.length : Int) := by omega
  have c1 := lset_c va A w (by omega) ha
  have HA := Lib.hid ha
  have HB := Lib.hid hb
  have HLN : Hid (A.length ≤ 200 ∧ B.length ≤ 200) := ⟨hl, hm⟩
  obtain ⟨A1, k1, rfl⟩ := ha.form rfl
  obtain ⟨A2, k2, rfl⟩ := hb.form rfl
  clear ha hb hl hm
  go_enter Try.func4, Try.ntmps4
  go_wp2_with fail
  (with_reducible refine c1.mono ?_)
  rintro e w1 ⟨v1, rfl, hn, hb⟩
  have HN1 := Lib.hid hn
  have HB1 := Lib.hid hb
  have c2 := lset_c _ B w1 (by have := HLN.out; omega) (HB.out.on hb)
  clear c1 hn hb
  go_wp2_with fail
  (with_reducible refine c2.mono ?_)
  rintro e wb ⟨v2, rfl, hn, hb⟩
  have HX2 := Lib.hid (HN1.out.on hb)
  have HY2 := Lib.hid hn
  have HBW := Lib.hid (HB1.out.trans (hb.mono HB1.out.size))
  clear c2 hn hb HN1 HB1
  have HM : Hid ((setI A).filter (fun x => decide (x ∈ setI B)) = meetI A B) := by
    show _ = _
    unfold meetI; congr 1; funext x; rw [decide_eq_decide]; exact mem_setI
  have HD : Hid ((setI A).filter (fun x => !decide (x ∈ setI B)) = diffI A B) := by
    show _ = _
    unfold diffI; congr 1; funext x; congr 1; rw [decide_eq_decide]; exact mem_setI
  have HXL : Hid ((setI A).length ≤ 200) := Nat.le_trans (setI_len A) HLN.out.1
  have HYL : Hid ((setI B).length ≤ 200) := Nat.le_trans (setI_len B) HLN.out.2
  have HC : Hid (∀ (W : World) (x : Int), Below wb.heap.size wb W → Calls Try.prog 12 #[v2, .int .i64 x] W fun e w' => e = .returned (.bool ((fun x => decide (x ∈ setI B)) x)) ∧ Below W.heap.size W w') := fun W x h => lhas_c v2 (setI B) x W (by have := HYL.out; omega) (HY2.out.on h)
  have hcomp : ∃ r, lexI (setI A) (setI B) = r := ⟨_, rfl⟩
  generalize hpp : (fun x : Int => decide (x ∈ setI B)) = p at HM HC
  have HD2 : Hid ((setI A).filter (fun x => !p x) = diffI A B) := by rw [← hpp]; exact HD.out
  clear hpp HD
  have HXA := Lib.hid (rfl : setI A = setI A)
  have HXA : Hid (lexI (setI A) (setI B) = lexI (setI A) (setI B)) := rfl
  generalize hXX : setI A = X at HX2 HM HD2 HXL HXA
  generalize hYY : setI B = Y at HY2 HYL HXA
  have HXX := Lib.hid hXX
  have HYY := Lib.hid hYY
  clear hXX hYY hcomp
  have hxl := HXL.out
  have hyl := HYL.out
  have hxlz : (X.length : Int) ≤ 200 := by omega
  have hylz : (Y.length : Int) ≤ 200 := by omega
  obtain ⟨A3, k3, rfl⟩ := HX2.out.form rfl
  obtain ⟨A4, k4, rfl⟩ := HY2.out.form rfl
  go_upto_region 5 with (fail)
  have b3 := below2 wb (.cells #[] 3) (.cells #[] 3)
  have O7 : ((wb.alloc (.cells #[] 3)).alloc (.cells #[] 3)).ownsRow wb.heap.size 3 1 (.slice (some ⟨wb.heap.size, 0, none⟩) 0 0) 0 [] := own_on (World.ownsRow_made wb #[] 0 (Nat.le_refl _) (Nat.zero_le _) rfl) (below1 _ _)
  have O8 : ((wb.alloc (.cells #[] 3)).alloc (.cells #[] 3)).ownsRow wb.heap.size 3 1 (.slice (some ⟨wb.heap.size + 1, 0, none⟩) 0 0) 0 [] := by
    have := World.ownsRow_made (base := wb.heap.size) (e := 3) (size := 1) (wb.alloc (.cells #[] 3)) #[] 0 (by simp) (Nat.zero_le _) rfl
    rwa [show (wb.alloc (.cells #[] 3)).heap.size = wb.heap.size + 1 by simp] at this
  generalize hw3 : (wb.alloc (.cells #[] 3)).alloc (.cells #[] 3) = w3 at O7 O8 b3 ⊢
  have HO70 := Lib.hid O7
  have HO80 := Lib.hid O8
  have HB3 := Lib.hid b3
  clear O7 O8 b3 hw3
  go_wp2
  go_loopg [7, 8, 9] X.length (fun gk s7 s8 s9 wr => ∃ i : Nat, i ≤ X.length ∧ gk = X.length - i ∧ s9 = .int .i64 i ∧ Hid (Below wb.heap.size wb wr) ∧ Hid (wr.ownsRow wb.heap.size 3 1 s7 ((X.take i).filter p).length (iv ((X.take i).filter p))) ∧ Hid (wr.ownsRow wb.heap.size 3 1 s8 ((X.take i).filter (fun x => !p x)).length (iv ((X.take i).filter (fun x => !p x)))) ∧ Hid (∀ k, s7.ownBlock = some k → s8.ownBlock ≠ some k))
  case atStart => exact ⟨0, Nat.zero_le _, rfl, rfl, HB3.out, HO70.out, HO80.out, fun k h1 h2 => by simp [Value.ownBlock] at h1 h2; omega⟩
  case round =>
    obtain ⟨i, hi, rfl, rfl, HBi, HO7, HO8, HAP⟩ := hrel
    clear HO70 HO80 HB3
    by_cases hlt : i < X.length
    · have hltz : (i : Int) < (X.length : Int) := by omega
      obtain ⟨x, hx⟩ : ∃ x, X[i]? = some x := ⟨_, List.getElem?_eq_getElem hlt⟩
      have HX := Lib.hid hx
      obtain ⟨bx, ox, rfl, hcell⟩ := HX2.out.addr (by intro e2; subst e2; simp at hx)
      have d1 := on_some HBi.out (hcell i x hx)
      have hcall := HC.out wr x HBi.out
      clear hx hcell
      cases hq : p x with
      | true =>
          rw [hq] at hcall
          go_wp2_with fail
          (with_reducible refine hcall.mono ?_)
          rintro e w4 ⟨rfl, hb2⟩
          have B2 := HBi.out.trans (hb2.mono HBi.out.size)
          have D2 := on_some hb2 d1
          have B1 := below1 w4 (.cells #[.int .i64 x] 3)
          have OG := own_on (own_on HO7.out hb2) B1
          have OK := own_on (own_on HO8.out hb2) B1
          have SR := src_bk (Blk.new w4 3 #[.int .i64 x])
          have B3 := B2.trans (B1.mono B2.size)
          have hz3 : wb.heap.size ≤ (w4.alloc (.cells #[.int .i64 x] 3)).heap.size := B3.size
          have hfl := filter_take_len p X i
          have AP : ∀ k, (u7).ownBlock = some k → (u8).ownBlock ≠ some k := HAP.out
          have HAP0 := Lib.hid AP
          have HB3 := Lib.hid B3
          have HOK := Lib.hid OK
          have hfl2 : ((X.take i).filter p).length ≤ 200 := Nat.le_trans hfl HXL.out
          generalize hFF : (X.take i).filter p = F at OG hfl2
          have HOG := Lib.hid OG
          have HFF := Lib.hid hFF
          clear hcall d1 HBi HO7 HO8 HAP AP hb2 B2 OK hFF hfl B1 B3
          go_wp2_with (at_builtin; refine wpList_app2 _ rfl (.tmp 39) (.tmp 44) 22 rfl wb.heap.size 3 ic _ 1 8 Try.underlying22 hic hcz0 hcz1 hcz2 rfl (by decide) _ F.length (iv F) rfl OG _ 1 [.int .i64 x] rfl SR (by unfold maxLen; omega) (by omega) hz3 ?_)
          intro v5 w5 O5 hg5
          have B5 : Hid (Below wb.heap.size wb w5) := grown_over HB3.out hg5.1 (fun j hj => (HOG.out.lt j hj).1)
          have OG5 : Hid (w5.ownsRow wb.heap.size 3 1 v5 ((X.take (i + 1)).filter p).length (iv ((X.take (i + 1)).filter p))) := by
            show World.ownsRow _ _ _ _ _ _ _
            rw [filter_take HX.out, HFF.out, if_pos (by show _ = true; exact hq)]
            simpa [iv] using O5
          have OK5 : Hid (w5.ownsRow wb.heap.size 3 1 u8 ((X.take (i + 1)).filter (fun x => !p x)).length (iv ((X.take (i + 1)).filter (fun x => !p x)))) := by
            show World.ownsRow _ _ _ _ _ _ _
            have := own_kept HOK.out hg5.1 HAP0.out
            rw [filter_take HX.out, if_neg (by show ¬ _ = true; rw [hq]; simp), List.append_nil]
            exact this
          have AP5 : Hid (∀ k, v5.ownBlock = some k → (u8).ownBlock ≠ some k) := apart_grown HOK.out hg5 HAP0.out
          clear OG SR hz3 hg5 O5 HB3 HOG HOK HAP0 HFF D2
          go_wp2
          go_roundg (X.length - (i + 1))
          case measure => omega
          case rel => exact ⟨i + 1, by omega, rfl, by go_num, B5, OG5, OK5, AP5⟩
        | false =>
          rw [hq] at hcall
          go_wp2_with fail
          (with_reducible refine hcall.mono ?_)
          rintro e w4 ⟨rfl, hb2⟩
          have B2 := HBi.out.trans (hb2.mono HBi.out.size)
          have D2 := on_some hb2 d1
          have B1 := below1 w4 (.cells #[.int .i64 x] 3)
          have OG := own_on (own_on HO8.out hb2) B1
          have OK := own_on (own_on HO7.out hb2) B1
          have SR := src_bk (Blk.new w4 3 #[.int .i64 x])
          have B3 := B2.trans (B1.mono B2.size)
          have hz3 : wb.heap.size ≤ (w4.alloc (.cells #[.int .i64 x] 3)).heap.size := B3.size
          have hfl := filter_take_len (fun x => !p x) X i
          have AP : ∀ k, (u8).ownBlock = some k → (u7).ownBlock ≠ some k := fun k h1 h2 => HAP.out k h2 h1
          have HAP0 := Lib.hid AP
          have HB3 := Lib.hid B3
          have HOK := Lib.hid OK
          have hfl2 : ((X.take i).filter (fun x => !p x)).length ≤ 200 := Nat.le_trans hfl HXL.out
          generalize hFF : (X.take i).filter (fun x => !p x) = F at OG hfl2
          have HOG := Lib.hid OG
          have HFF := Lib.hid hFF
          clear hcall d1 HBi HO7 HO8 HAP AP hb2 B2 OK hFF hfl B1 B3
          go_wp2_with (at_builtin; refine wpList_app2 _ rfl (.tmp 46) (.tmp 51) 22 rfl wb.heap.size 3 ic _ 1 8 Try.underlying22 hic hcz0 hcz1 hcz2 rfl (by decide) _ F.length (iv F) rfl OG _ 1 [.int .i64 x] rfl SR (by unfold maxLen; omega) (by omega) hz3 ?_)
          intro v5 w5 O5 hg5
          have B5 : Hid (Below wb.heap.size wb w5) := grown_over HB3.out hg5.1 (fun j hj => (HOG.out.lt j hj).1)
          have OG5 : Hid (w5.ownsRow wb.heap.size 3 1 v5 ((X.take (i + 1)).filter (fun x => !p x)).length (iv ((X.take (i + 1)).filter (fun x => !p x)))) := by
            show World.ownsRow _ _ _ _ _ _ _
            rw [filter_take HX.out, HFF.out, if_pos (by show _ = true; rw [hq]; rfl)]
            simpa [iv] using O5
          have OK5 : Hid (w5.ownsRow wb.heap.size 3 1 u7 ((X.take (i + 1)).filter p).length (iv ((X.take (i + 1)).filter p))) := by
            show World.ownsRow _ _ _ _ _ _ _
            have := own_kept HOK.out hg5.1 HAP0.out
            rw [filter_take HX.out, if_neg (by show ¬ _ = true; rw [hq]; simp), List.append_nil]
            exact this
          have AP5 : Hid (∀ k, v5.ownBlock = some k → (u7).ownBlock ≠ some k) := apart_grown HOK.out hg5 HAP0.out
          clear OG SR hz3 hg5 O5 HB3 HOG HOK HAP0 HFF D2
          go_wp2
          go_roundg (X.length - (i + 1))
          case measure => omega
          case rel => exact ⟨i + 1, by omega, rfl, by go_num, B5, OK5, OG5, fun k h1 h2 => AP5.out k h2 h1⟩
    · have hltz : ¬ (i : Int) < (X.length : Int) := by omega
      have H7 : Hid (Nm wr u7 (meetI A B)) := by
        have := HO7.out
        rw [List.take_of_length_le (by omega), HM.out] at this
        exact own_Nm this
      have H8 : Hid (Nm wr u8 (diffI A B)) := by
        have := HO8.out
        rw [List.take_of_length_le (by omega), HD2.out] at this
        exact own_Nm this
      have HXw := Lib.hid (HX2.out.on HBi.out)
      have HYw := Lib.hid (HY2.out.on HBi.out)
      have HAw := Lib.hid (HA.out.on (HBW.out.trans (HBi.out.mono HBW.out.size)))
      have HBw := Lib.hid (HB.out.on (HBW.out.trans (HBi.out.mono HBW.out.size)))
      have HWw := Lib.hid (HBW.out.trans (HBi.out.mono HBW.out.size))
      clear HO7 HO8 HAP HX2 HY2 HC HM HD2 HBi HBW HA HB
      go_wp2
      clear hlt hltz hi
      go_loopg [10, 11] Y.length (fun gk s10 s11 wz => ∃ (i : Nat) (d : Int), i ≤ X.length ∧ i ≤ Y.length ∧ gk = Y.length - i ∧ s10 = .int .i64 d ∧ s11 = .int .i64 i ∧ Hid (Below wr.heap.size wr wz) ∧ Hid ((d = 0 ∧ lexI (X.drop i) (Y.drop i) = lexI X Y) ∨ (d ≠ 0 ∧ lexI X Y = d)))
      case atStart => exact ⟨0, 0, Nat.zero_le _, Nat.zero_le _, rfl, rfl, rfl, Below.refl _ _, .inl ⟨rfl, rfl⟩⟩
      case round =>
        obtain ⟨i, d, hi, hj, rfl, rfl, rfl, HBo, HI⟩ := hrel
        by_cases hd0 : d = 0
        · subst hd0
          have HL : Hid (lexI (X.drop i) (Y.drop i) = lexI X Y) := by
            rcases HI.out with h | h
            · exact h.2
            · exact absurd rfl h.1
          clear HI
          by_cases hx1 : i < X.length
          · have hx1z : (i : Int) < (X.length : Int) := by omega
            by_cases hy1 : i < Y.length
            · have hy1z : (i : Int) < (Y.length : Int) := by omega
              obtain ⟨x, hx⟩ : ∃ x, X[i]? = some x := ⟨_, List.getElem?_eq_getElem hx1⟩
              obtain ⟨y, hy⟩ : ∃ y, Y[i]? = some y := ⟨_, List.getElem?_eq_getElem hy1⟩
              obtain ⟨bx, ox, rfl, hcx⟩ := HXw.out.addr (by intro e2; subst e2; simp at hx)
              obtain ⟨b2, o2, rfl, hcy⟩ := HYw.out.addr (by intro e2; subst e2; simp at hy)
              have d1 := on_some HBo.out (hcx i x hx)
              have d2 := on_some HBo.out (hcy i y hy)
              have st := Lib.hid (lexI_drop hx hy)
              clear hx hy hcx hcy
              by_cases h1 : x < y
              · have hd1 : decide (x < y) = true := decide_eq_true h1
                have hd2 : decide (y < x) = false := decide_eq_false (by omega)
                have HR : Hid (lexI X Y = -1) := by
                  have := st.out
                  rw [HL.out, if_pos h1] at this
                  exact this
                have E1 := Lib.hid h1
                clear h1
                go_wp2_with fail
                go_quiet (fail)
                have HBq := Lib.hid (bdn HBo.out nq)
                have d3 := d1
                have d1 := on_some (bdn (Below.refl _ wr) nq) d1
                have d2 := on_some (bdn (Below.refl _ wr) nq) d2
                clear HBo d3
                generalize wr.drewN nq = wq at HBq d1 d2 ⊢
                go_wp2_with fail
                go_quiet (fail)
                have HBs := Lib.hid (bdn HBq.out nq)
                clear HBq d1 d2
                generalize wq.drewN nq = ws at HBs ⊢
                go_wp2
                go_roundg (Y.length - (i + 1))
                case measure => omega
                case rel => exact ⟨i + 1, -1, by omega, by omega, rfl, rfl, by go_num, HBs, .inr ⟨by decide, HR.out⟩⟩
              · by_cases h2 : y < x
                · have hd1 : decide (x < y) = false := decide_eq_false h1
                  have hd2 : decide (y < x) = true := decide_eq_true h2
                  have HR : Hid (lexI X Y = 1) := by
                    have := st.out
                    rw [HL.out, if_neg h1, if_pos h2] at this
                    exact this
                  have E1 := Lib.hid h1
                  have E2 := Lib.hid h2
                  clear h1 h2
                  go_wp2_with fail
                  go_quiet (fail)
                  have HBq := Lib.hid (bdn HBo.out nq)
                  have d3 := d1
                  have d1 := on_some (bdn (Below.refl _ wr) nq) d1
                  have d2 := on_some (bdn (Below.refl _ wr) nq) d2
                  clear HBo d3
                  generalize wr.drewN nq = wq at HBq d1 d2 ⊢
                  go_wp2_with fail
                  go_quiet (fail)
                  have HBs := Lib.hid (bdn HBq.out nq)
                  clear HBq d1 d2
                  generalize wq.drewN nq = ws at HBs ⊢
                  go_wp2
                  go_roundg (Y.length - (i + 1))
                  case measure => omega
                  case rel => exact ⟨i + 1, 1, by omega, by omega, rfl, rfl, by go_num, HBs, .inr ⟨by decide, HR.out⟩⟩
                · have hd1 : decide (x < y) = false := decide_eq_false h1
                  have hd2 : decide (y < x) = false := decide_eq_false h2
                  have HR : Hid (lexI (X.drop (i + 1)) (Y.drop (i + 1)) = lexI X Y) := by
                    have := st.out
                    rw [HL.out, if_neg h1, if_neg h2] at this
                    exact this.symm
                  have E1 := Lib.hid h1
                  have E2 := Lib.hid h2
                  clear h1 h2
                  go_wp2_with fail
                  go_quiet (fail)
                  have HBq := Lib.hid (bdn HBo.out nq)
                  have d3 := d1
                  have d1 := on_some (bdn (Below.refl _ wr) nq) d1
                  have d2 := on_some (bdn (Below.refl _ wr) nq) d2
                  clear HBo d3
                  generalize wr.drewN nq = wq at HBq d1 d2 ⊢
                  go_wp2_with fail
                  go_quiet (fail)
                  have HBs := Lib.hid (bdn HBq.out nq)
                  clear HBq d1 d2
                  generalize wq.drewN nq = ws at HBs ⊢
                  go_wp2
                  go_roundg (Y.length - (i + 1))
                  case measure => omega
                  case rel => exact ⟨i + 1, 0, by omega, by omega, rfl, rfl, by go_num, HBs, .inl ⟨rfl, HR.out⟩⟩
            · have hy1z : ¬ (i : Int) < (Y.length : Int) := by omega
              have HR : Hid (lexI (setI A) (setI B) = 1) := by
                show _ = _
                rw [HXX.out, HYY.out, ← HL.out]
                exact lexI_right hx1 (by omega)
              have hba : ¬ (X.length : Int) < (Y.length : Int) := by omega
              have hbb : (Y.length : Int) < (X.length : Int) := by omega
              have HAr := Lib.hid (HAw.out.on HBo.out)
              have HBr := Lib.hid (HBw.out.on HBo.out)
              have H7r := Lib.hid (H7.out.on HBo.out)
              have H8r := Lib.hid (H8.out.on HBo.out)
              have HWr := Lib.hid (HWw.out.trans (HBo.out.mono HWw.out.size))
              clear HXw HYw HAw HBw H7 H8 HWw HBo
              have cz101 := awake10_c wr
              go_wp2_with fail
              (with_reducible refine cz101.mono ?_)
              rintro e wz101 ⟨rfl, hb⟩
              replace HAr := Lib.hid (HAr.out.on hb)
              replace HBr := Lib.hid (HBr.out.on hb)
              replace H7r := Lib.hid (H7r.out.on hb)
              replace H8r := Lib.hid (H8r.out.on hb)
              replace HWr := Lib.hid (HWr.out.trans (hb.mono HWr.out.size))
              clear cz101 hb
              have cz102 := idjoin_c _ _ A B wz101 (by have := HLN.out; omega) (by have := HLN.out; omega) HAr.out HBr.out
              go_wp2_with fail
              (with_reducible refine cz102.mono ?_)
              rintro e wz102 ⟨vj, rfl, hn, hb⟩
              replace HAr := Lib.hid (HAr.out.on hb)
              replace HBr := Lib.hid (HBr.out.on hb)
              replace H7r := Lib.hid (H7r.out.on hb)
              replace H8r := Lib.hid (H8r.out.on hb)
              replace HWr := Lib.hid (HWr.out.trans (hb.mono HWr.out.size))
              have HJ := Lib.hid hn
              clear cz102 hb hn
              have b7 := below1 wz102 (.cells #[] 3)
              have O7 := World.ownsRow_made (base := wz102.heap.size) (e := 3) (size := 1) wz102 #[] 0 (Nat.le_refl _) (Nat.zero_le _) rfl
              have S7 := (HAr.out.on b7).src
              have L7 := HLN.out.1
              have L8 := HLN.out.2
              go_wp2_with (at_builtin; refine wpList_appW _ (by rfl) (.tmp 110) (.tmp 111) 22 rfl wz102.heap.size 3 ic _ 1 8 Try.underlying22 hic hcz0 hcz1 hcz2 rfl (by decide) _ 0 [] rfl O7 _ A.length (iv A) rfl S7 (by unfold maxLen; omega) (by omega) (by simp) ?_)
              intro va8 wa8 O8 hg8
              have b8 : Below wz102.heap.size wz102 wa8 := b7.grown hg8 (by simp) (fun j hj => by simp [Value.ownBlock] at hj; omega)
              have S8 := (HBr.out.on b8).src
              have hz8 := b8.size
              clear O7 S7 b7 hg8
              go_wp2_with (at_builtin; refine wpList_appW _ (by rfl) (.tmp 112) (.tmp 113) 22 rfl wz102.heap.size 3 ic _ 1 8 Try.underlying22 hic hcz0 hcz1 hcz2 rfl (by decide) _ _ _ rfl O8 _ B.length (iv B) rfl S8 (by unfold maxLen; omega) (by omega) hz8 ?_)
              intro va9 wa9 O9 hg9
              have hb : Below wz102.heap.size wz102 wa9 := b8.grown hg9 hz8 (fun j hj => (O8.lt j hj).1)
              have HAB : Hid (Nm wa9 va9 (A ++ B)) := own_Nm (n := A.length + B.length) (by rw [← iv_app]; simpa using O9)
              clear O8 S8 b8 hg9 O9 hz8 L7 L8
              replace HAr := Lib.hid (HAr.out.on hb)
              replace HBr := Lib.hid (HBr.out.on hb)
              replace H7r := Lib.hid (H7r.out.on hb)
              replace H8r := Lib.hid (H8r.out.on hb)
              replace HWr := Lib.hid (HWr.out.trans (hb.mono HWr.out.size))
              replace HJ := Lib.hid (HJ.out.on hb)
              clear hb
              have cz103 := lset_c va9 (A ++ B) wa9 (by have := HLN.out; rw [List.length_append]; omega) HAB.out
              go_wp2_with fail
              (with_reducible refine cz103.mono ?_)
              rintro e wz103 ⟨vs, rfl, hn, hb⟩
              replace HAr := Lib.hid (HAr.out.on hb)
              replace HBr := Lib.hid (HBr.out.on hb)
              replace H7r := Lib.hid (H7r.out.on hb)
              replace H8r := Lib.hid (H8r.out.on hb)
              replace HWr := Lib.hid (HWr.out.trans (hb.mono HWr.out.size))
              replace HJ := Lib.hid (HJ.out.on hb)
              replace HAB := Lib.hid (HAB.out.on hb)
              have HS := Lib.hid hn
              clear cz103 hb hn
              have cz104 := rints_c vj vs (joinI A B) wz103 HJ.out HS.out (Nat.le_trans (joinI_len A B) (by have := HLN.out; omega))
              go_wp2_with fail
              (with_reducible refine cz104.mono ?_)
              rintro e wz104 ⟨rfl, hb⟩
              replace HAr := Lib.hid (HAr.out.on hb)
              replace HBr := Lib.hid (HBr.out.on hb)
              replace H7r := Lib.hid (H7r.out.on hb)
              replace H8r := Lib.hid (H8r.out.on hb)
              replace HWr := Lib.hid (HWr.out.trans (hb.mono HWr.out.size))
              replace HJ := Lib.hid (HJ.out.on hb)
              replace HAB := Lib.hid (HAB.out.on hb)
              replace HS := Lib.hid (HS.out.on hb)
              clear cz104 hb
              clear HJ HS HAB
              have cz105 := idmeet_c _ _ A B wz104 (by have := HLN.out; omega) (by have := HLN.out; omega) HAr.out HBr.out
              go_wp2_with fail
              (with_reducible refine cz105.mono ?_)
              rintro e wz105 ⟨vm, rfl, hn, hb⟩
              replace HAr := Lib.hid (HAr.out.on hb)
              replace HBr := Lib.hid (HBr.out.on hb)
              replace H7r := Lib.hid (H7r.out.on hb)
              replace H8r := Lib.hid (H8r.out.on hb)
              replace HWr := Lib.hid (HWr.out.trans (hb.mono HWr.out.size))
              have HM := Lib.hid hn
              clear cz105 hb hn
              have cz106 := rints_c vm _ (meetI A B) wz105 HM.out H7r.out (Nat.le_trans (meetI_len A B) (by have := HLN.out; omega))
              go_wp2_with fail
              (with_reducible refine cz106.mono ?_)
              rintro e wz106 ⟨rfl, hb⟩
              replace HAr := Lib.hid (HAr.out.on hb)
              replace HBr := Lib.hid (HBr.out.on hb)
              replace H7r := Lib.hid (H7r.out.on hb)
              replace H8r := Lib.hid (H8r.out.on hb)
              replace HWr := Lib.hid (HWr.out.trans (hb.mono HWr.out.size))
              replace HM := Lib.hid (HM.out.on hb)
              clear cz106 hb
              clear HM H7r
              have cz107 := idless_c _ _ A B wz106 (by have := HLN.out; omega) (by have := HLN.out; omega) HAr.out HBr.out
              go_wp2_with fail
              (with_reducible refine cz107.mono ?_)
              rintro e wz107 ⟨vl, rfl, hn, hb⟩
              replace HAr := Lib.hid (HAr.out.on hb)
              replace HBr := Lib.hid (HBr.out.on hb)
              replace H8r := Lib.hid (H8r.out.on hb)
              replace HWr := Lib.hid (HWr.out.trans (hb.mono HWr.out.size))
              have HD := Lib.hid hn
              clear cz107 hb hn
              have cz108 := rints_c vl _ (diffI A B) wz107 HD.out H8r.out (Nat.le_trans (diffI_len A B) (by have := HLN.out; omega))
              go_wp2_with fail
              (with_reducible refine cz108.mono ?_)
              rintro e wz108 ⟨rfl, hb⟩
              replace HAr := Lib.hid (HAr.out.on hb)
              replace HBr := Lib.hid (HBr.out.on hb)
              replace H8r := Lib.hid (H8r.out.on hb)
              replace HWr := Lib.hid (HWr.out.trans (hb.mono HWr.out.size))
              replace HD := Lib.hid (HD.out.on hb)
              clear cz108 hb
              clear HD H8r
              have cz109 := idcomp_c _ _ A B wz108 (by have := HLN.out; omega) (by have := HLN.out; omega) HAr.out HBr.out
              rw [HR.out] at cz109
              go_wp2_with fail
              (with_reducible refine cz109.mono ?_)
              rintro e wz109 ⟨rfl, hb⟩
              replace HAr := Lib.hid (HAr.out.on hb)
              replace HBr := Lib.hid (HBr.out.on hb)
              replace HWr := Lib.hid (HWr.out.trans (hb.mono HWr.out.size))
              clear cz109 hb
              go_wp2
              go_ret
              exact ⟨rfl, HWr.out⟩
          · have hx1z : ¬ (i : Int) < (X.length : Int) := by omega
            by_cases hab : X.length < Y.length
            · have habz : (X.length : Int) < (Y.length : Int) := by omega
              have HR : Hid (lexI (setI A) (setI B) = -1) := by
                show _ = _
                rw [HXX.out, HYY.out, ← HL.out]
                exact lexI_left (by omega) (by omega)
              have HAr := Lib.hid (HAw.out.on HBo.out)
              have HBr := Lib.hid (HBw.out.on HBo.out)
              have H7r := Lib.hid (H7.out.on HBo.out)
              have H8r := Lib.hid (H8.out.on HBo.out)
              have HWr := Lib.hid (HWw.out.trans (HBo.out.mono HWw.out.size))
              clear HXw HYw HAw HBw H7 H8 HWw HBo
              have cz201 := awake10_c wr
              go_wp2_with fail
              (with_reducible refine cz201.mono ?_)
              rintro e wz201 ⟨rfl, hb⟩
              replace HAr := Lib.hid (HAr.out.on hb)
              replace HBr := Lib.hid (HBr.out.on hb)
              replace H7r := Lib.hid (H7r.out.on hb)
              replace H8r := Lib.hid (H8r.out.on hb)
              replace HWr := Lib.hid (HWr.out.trans (hb.mono HWr.out.size))
              clear cz201 hb
              have cz202 := idjoin_c _ _ A B wz201 (by have := HLN.out; omega) (by have := HLN.out; omega) HAr.out HBr.out
              go_wp2_with fail
              (with_reducible refine cz202.mono ?_)
              rintro e wz202 ⟨vj, rfl, hn, hb⟩
              replace HAr := Lib.hid (HAr.out.on hb)
              replace HBr := Lib.hid (HBr.out.on hb)
              replace H7r := Lib.hid (H7r.out.on hb)
              replace H8r := Lib.hid (H8r.out.on hb)
              replace HWr := Lib.hid (HWr.out.trans (hb.mono HWr.out.size))
              have HJ := Lib.hid hn
              clear cz202 hb hn
              have b7 := below1 wz202 (.cells #[] 3)
              have O7 := World.ownsRow_made (base := wz202.heap.size) (e := 3) (size := 1) wz202 #[] 0 (Nat.le_refl _) (Nat.zero_le _) rfl
              have S7 := (HAr.out.on b7).src
              have L7 := HLN.out.1
              have L8 := HLN.out.2
              go_wp2_with (at_builtin; refine wpList_appW _ (by rfl) (.tmp 110) (.tmp 111) 22 rfl wz202.heap.size 3 ic _ 1 8 Try.underlying22 hic hcz0 hcz1 hcz2 rfl (by decide) _ 0 [] rfl O7 _ A.length (iv A) rfl S7 (by unfold maxLen; omega) (by omega) (by simp) ?_)
              intro va8 wa8 O8 hg8
              have b8 : Below wz202.heap.size wz202 wa8 := b7.grown hg8 (by simp) (fun j hj => by simp [Value.ownBlock] at hj; omega)
              have S8 := (HBr.out.on b8).src
              have hz8 := b8.size
              clear O7 S7 b7 hg8
              go_wp2_with (at_builtin; refine wpList_appW _ (by rfl) (.tmp 112) (.tmp 113) 22 rfl wz202.heap.size 3 ic _ 1 8 Try.underlying22 hic hcz0 hcz1 hcz2 rfl (by decide) _ _ _ rfl O8 _ B.length (iv B) rfl S8 (by unfold maxLen; omega) (by omega) hz8 ?_)
              intro va9 wa9 O9 hg9
              have hb : Below wz202.heap.size wz202 wa9 := b8.grown hg9 hz8 (fun j hj => (O8.lt j hj).1)
              have HAB : Hid (Nm wa9 va9 (A ++ B)) := own_Nm (n := A.length + B.length) (by rw [← iv_app]; simpa using O9)
              clear O8 S8 b8 hg9 O9 hz8 L7 L8
              replace HAr := Lib.hid (HAr.out.on hb)
              replace HBr := Lib.hid (HBr.out.on hb)
              replace H7r := Lib.hid (H7r.out.on hb)
              replace H8r := Lib.hid (H8r.out.on hb)
              replace HWr := Lib.hid (HWr.out.trans (hb.mono HWr.out.size))
              replace HJ := Lib.hid (HJ.out.on hb)
              clear hb
              have cz203 := lset_c va9 (A ++ B) wa9 (by have := HLN.out; rw [List.length_append]; omega) HAB.out
              go_wp2_with fail
              (with_reducible refine cz203.mono ?_)
              rintro e wz203 ⟨vs, rfl, hn, hb⟩
              replace HAr := Lib.hid (HAr.out.on hb)
              replace HBr := Lib.hid (HBr.out.on hb)
              replace H7r := Lib.hid (H7r.out.on hb)
              replace H8r := Lib.hid (H8r.out.on hb)
              replace HWr := Lib.hid (HWr.out.trans (hb.mono HWr.out.size))
              replace HJ := Lib.hid (HJ.out.on hb)
              replace HAB := Lib.hid (HAB.out.on hb)
              have HS := Lib.hid hn
              clear cz203 hb hn
              have cz204 := rints_c vj vs (joinI A B) wz203 HJ.out HS.out (Nat.le_trans (joinI_len A B) (by have := HLN.out; omega))
              go_wp2_with fail
              (with_reducible refine cz204.mono ?_)
              rintro e wz204 ⟨rfl, hb⟩
              replace HAr := Lib.hid (HAr.out.on hb)
              replace HBr := Lib.hid (HBr.out.on hb)
              replace H7r := Lib.hid (H7r.out.on hb)
              replace H8r := Lib.hid (H8r.out.on hb)
              replace HWr := Lib.hid (HWr.out.trans (hb.mono HWr.out.size))
              replace HJ := Lib.hid (HJ.out.on hb)
              replace HAB := Lib.hid (HAB.out.on hb)
              replace HS := Lib.hid (HS.out.on hb)
              clear cz204 hb
              clear HJ HS HAB
              have cz205 := idmeet_c _ _ A B wz204 (by have := HLN.out; omega) (by have := HLN.out; omega) HAr.out HBr.out
              go_wp2_with fail
              (with_reducible refine cz205.mono ?_)
              rintro e wz205 ⟨vm, rfl, hn, hb⟩
              replace HAr := Lib.hid (HAr.out.on hb)
              replace HBr := Lib.hid (HBr.out.on hb)
              replace H7r := Lib.hid (H7r.out.on hb)
              replace H8r := Lib.hid (H8r.out.on hb)
              replace HWr := Lib.hid (HWr.out.trans (hb.mono HWr.out.size))
              have HM := Lib.hid hn
              clear cz205 hb hn
              have cz206 := rints_c vm _ (meetI A B) wz205 HM.out H7r.out (Nat.le_trans (meetI_len A B) (by have := HLN.out; omega))
              go_wp2_with fail
              (with_reducible refine cz206.mono ?_)
              rintro e wz206 ⟨rfl, hb⟩
              replace HAr := Lib.hid (HAr.out.on hb)
              replace HBr := Lib.hid (HBr.out.on hb)
              replace H7r := Lib.hid (H7r.out.on hb)
              replace H8r := Lib.hid (H8r.out.on hb)
              replace HWr := Lib.hid (HWr.out.trans (hb.mono HWr.out.size))
              replace HM := Lib.hid (HM.out.on hb)
              clear cz206 hb
              clear HM H7r
              have cz207 := idless_c _ _ A B wz206 (by have := HLN.out; omega) (by have := HLN.out; omega) HAr.out HBr.out
              go_wp2_with fail
              (with_reducible refine cz207.mono ?_)
              rintro e wz207 ⟨vl, rfl, hn, hb⟩
              replace HAr := Lib.hid (HAr.out.on hb)
              replace HBr := Lib.hid (HBr.out.on hb)
              replace H8r := Lib.hid (H8r.out.on hb)
              replace HWr := Lib.hid (HWr.out.trans (hb.mono HWr.out.size))
              have HD := Lib.hid hn
              clear cz207 hb hn
              have cz208 := rints_c vl _ (diffI A B) wz207 HD.out H8r.out (Nat.le_trans (diffI_len A B) (by have := HLN.out; omega))
              go_wp2_with fail
              (with_reducible refine cz208.mono ?_)
              rintro e wz208 ⟨rfl, hb⟩
              replace HAr := Lib.hid (HAr.out.on hb)
              replace HBr := Lib.hid (HBr.out.on hb)
              replace H8r := Lib.hid (H8r.out.on hb)
              replace HWr := Lib.hid (HWr.out.trans (hb.mono HWr.out.size))
              replace HD := Lib.hid (HD.out.on hb)
              clear cz208 hb
              clear HD H8r
              have cz209 := idcomp_c _ _ A B wz208 (by have := HLN.out; omega) (by have := HLN.out; omega) HAr.out HBr.out
              rw [HR.out] at cz209
              go_wp2_with fail
              (with_reducible refine cz209.mono ?_)
              rintro e wz209 ⟨rfl, hb⟩
              replace HAr := Lib.hid (HAr.out.on hb)
              replace HBr := Lib.hid (HBr.out.on hb)
              replace HWr := Lib.hid (HWr.out.trans (hb.mono HWr.out.size))
              clear cz209 hb
              go_wp2
              go_ret
              exact ⟨rfl, HWr.out⟩
            · have habz : ¬ (X.length : Int) < (Y.length : Int) := by omega
              have HR : Hid (lexI (setI A) (setI B) = 0) := by
                show _ = _
                rw [HXX.out, HYY.out, ← HL.out]
                exact lexI_both (by omega) (by omega)
              have hbb : ¬ (Y.length : Int) < (X.length : Int) := by omega
              have HAr := Lib.hid (HAw.out.on HBo.out)
              have HBr := Lib.hid (HBw.out.on HBo.out)
              have H7r := Lib.hid (H7.out.on HBo.out)
              have H8r := Lib.hid (H8.out.on HBo.out)
              have HWr := Lib.hid (HWw.out.trans (HBo.out.mono HWw.out.size))
              clear HXw HYw HAw HBw H7 H8 HWw HBo
              have cz301 := awake10_c wr
              go_wp2_with fail
              (with_reducible refine cz301.mono ?_)
              rintro e wz301 ⟨rfl, hb⟩
              replace HAr := Lib.hid (HAr.out.on hb)
              replace HBr := Lib.hid (HBr.out.on hb)
              replace H7r := Lib.hid (H7r.out.on hb)
              replace H8r := Lib.hid (H8r.out.on hb)
              replace HWr := Lib.hid (HWr.out.trans (hb.mono HWr.out.size))
              clear cz301 hb
              have cz302 := idjoin_c _ _ A B wz301 (by have := HLN.out; omega) (by have := HLN.out; omega) HAr.out HBr.out
              go_wp2_with fail
              (with_reducible refine cz302.mono ?_)
              rintro e wz302 ⟨vj, rfl, hn, hb⟩
              replace HAr := Lib.hid (HAr.out.on hb)
              replace HBr := Lib.hid (HBr.out.on hb)
              replace H7r := Lib.hid (H7r.out.on hb)
              replace H8r := Lib.hid (H8r.out.on hb)
              replace HWr := Lib.hid (HWr.out.trans (hb.mono HWr.out.size))
              have HJ := Lib.hid hn
              clear cz302 hb hn
              have b7 := below1 wz302 (.cells #[] 3)
              have O7 := World.ownsRow_made (base := wz302.heap.size) (e := 3) (size := 1) wz302 #[] 0 (Nat.le_refl _) (Nat.zero_le _) rfl
              have S7 := (HAr.out.on b7).src
              have L7 := HLN.out.1
              have L8 := HLN.out.2
              go_wp2_with (at_builtin; refine wpList_appW _ (by rfl) (.tmp 110) (.tmp 111) 22 rfl wz302.heap.size 3 ic _ 1 8 Try.underlying22 hic hcz0 hcz1 hcz2 rfl (by decide) _ 0 [] rfl O7 _ A.length (iv A) rfl S7 (by unfold maxLen; omega) (by omega) (by simp) ?_)
              intro va8 wa8 O8 hg8
              have b8 : Below wz302.heap.size wz302 wa8 := b7.grown hg8 (by simp) (fun j hj => by simp [Value.ownBlock] at hj; omega)
              have S8 := (HBr.out.on b8).src
              have hz8 := b8.size
              clear O7 S7 b7 hg8
              go_wp2_with (at_builtin; refine wpList_appW _ (by rfl) (.tmp 112) (.tmp 113) 22 rfl wz302.heap.size 3 ic _ 1 8 Try.underlying22 hic hcz0 hcz1 hcz2 rfl (by decide) _ _ _ rfl O8 _ B.length (iv B) rfl S8 (by unfold maxLen; omega) (by omega) hz8 ?_)
              intro va9 wa9 O9 hg9
              have hb : Below wz302.heap.size wz302 wa9 := b8.grown hg9 hz8 (fun j hj => (O8.lt j hj).1)
              have HAB : Hid (Nm wa9 va9 (A ++ B)) := own_Nm (n := A.length + B.length) (by rw [← iv_app]; simpa using O9)
              clear O8 S8 b8 hg9 O9 hz8 L7 L8
              replace HAr := Lib.hid (HAr.out.on hb)
              replace HBr := Lib.hid (HBr.out.on hb)
              replace H7r := Lib.hid (H7r.out.on hb)
              replace H8r := Lib.hid (H8r.out.on hb)
              replace HWr := Lib.hid (HWr.out.trans (hb.mono HWr.out.size))
              replace HJ := Lib.hid (HJ.out.on hb)
              clear hb
              have cz303 := lset_c va9 (A ++ B) wa9 (by have := HLN.out; rw [List.length_append]; omega) HAB.out
              go_wp2_with fail
              (with_reducible refine cz303.mono ?_)
              rintro e wz303 ⟨vs, rfl, hn, hb⟩
              replace HAr := Lib.hid (HAr.out.on hb)
              replace HBr := Lib.hid (HBr.out.on hb)
              replace H7r := Lib.hid (H7r.out.on hb)
              replace H8r := Lib.hid (H8r.out.on hb)
              replace HWr := Lib.hid (HWr.out.trans (hb.mono HWr.out.size))
              replace HJ := Lib.hid (HJ.out.on hb)
              replace HAB := Lib.hid (HAB.out.on hb)
              have HS := Lib.hid hn
              clear cz303 hb hn
              have cz304 := rints_c vj vs (joinI A B) wz303 HJ.out HS.out (Nat.le_trans (joinI_len A B) (by have := HLN.out; omega))
              go_wp2_with fail
              (with_reducible refine cz304.mono ?_)
              rintro e wz304 ⟨rfl, hb⟩
              replace HAr := Lib.hid (HAr.out.on hb)
              replace HBr := Lib.hid (HBr.out.on hb)
              replace H7r := Lib.hid (H7r.out.on hb)
              replace H8r := Lib.hid (H8r.out.on hb)
              replace HWr := Lib.hid (HWr.out.trans (hb.mono HWr.out.size))
              replace HJ := Lib.hid (HJ.out.on hb)
              replace HAB := Lib.hid (HAB.out.on hb)
              replace HS := Lib.hid (HS.out.on hb)
              clear cz304 hb
              clear HJ HS HAB
              have cz305 := idmeet_c _ _ A B wz304 (by have := HLN.out; omega) (by have := HLN.out; omega) HAr.out HBr.out
              go_wp2_with fail
              (with_reducible refine cz305.mono ?_)
              rintro e wz305 ⟨vm, rfl, hn, hb⟩
              replace HAr := Lib.hid (HAr.out.on hb)
              replace HBr := Lib.hid (HBr.out.on hb)
              replace H7r := Lib.hid (H7r.out.on hb)
              replace H8r := Lib.hid (H8r.out.on hb)
              replace HWr := Lib.hid (HWr.out.trans (hb.mono HWr.out.size))
              have HM := Lib.hid hn
              clear cz305 hb hn
              have cz306 := rints_c vm _ (meetI A B) wz305 HM.out H7r.out (Nat.le_trans (meetI_len A B) (by have := HLN.out; omega))
              go_wp2_with fail
              (with_reducible refine cz306.mono ?_)
              rintro e wz306 ⟨rfl, hb⟩
              replace HAr := Lib.hid (HAr.out.on hb)
              replace HBr := Lib.hid (HBr.out.on hb)
              replace H7r := Lib.hid (H7r.out.on hb)
              replace H8r := Lib.hid (H8r.out.on hb)
              replace HWr := Lib.hid (HWr.out.trans (hb.mono HWr.out.size))
              replace HM := Lib.hid (HM.out.on hb)
              clear cz306 hb
              clear HM H7r
              have cz307 := idless_c _ _ A B wz306 (by have := HLN.out; omega) (by have := HLN.out; omega) HAr.out HBr.out
              go_wp2_with fail
              (with_reducible refine cz307.mono ?_)
              rintro e wz307 ⟨vl, rfl, hn, hb⟩
              replace HAr := Lib.hid (HAr.out.on hb)
              replace HBr := Lib.hid (HBr.out.on hb)
              replace H8r := Lib.hid (H8r.out.on hb)
              replace HWr := Lib.hid (HWr.out.trans (hb.mono HWr.out.size))
              have HD := Lib.hid hn
              clear cz307 hb hn
              have cz308 := rints_c vl _ (diffI A B) wz307 HD.out H8r.out (Nat.le_trans (diffI_len A B) (by have := HLN.out; omega))
              go_wp2_with fail
              (with_reducible refine cz308.mono ?_)
              rintro e wz308 ⟨rfl, hb⟩
              replace HAr := Lib.hid (HAr.out.on hb)
              replace HBr := Lib.hid (HBr.out.on hb)
              replace H8r := Lib.hid (H8r.out.on hb)
              replace HWr := Lib.hid (HWr.out.trans (hb.mono HWr.out.size))
              replace HD := Lib.hid (HD.out.on hb)
              clear cz308 hb
              clear HD H8r
              have cz309 := idcomp_c _ _ A B wz308 (by have := HLN.out; omega) (by have := HLN.out; omega) HAr.out HBr.out
              rw [HR.out] at cz309
              go_wp2_with fail
              (with_reducible refine cz309.mono ?_)
              rintro e wz309 ⟨rfl, hb⟩
              replace HAr := Lib.hid (HAr.out.on hb)
              replace HBr := Lib.hid (HBr.out.on hb)
              replace HWr := Lib.hid (HWr.out.trans (hb.mono HWr.out.size))
              clear cz309 hb
              go_wp2
              go_ret
              exact ⟨rfl, HWr.out⟩
        · have hd0b : (d == 0) = false := by simpa using hd0
          have HR : Hid (lexI (setI A) (setI B) = d) := by
            show _ = _
            rw [HXX.out, HYY.out]
            rcases HI.out with h | h
            · exact absurd h.1 hd0
            · exact h.2
          by_cases hx1 : i < X.length
          · have hx1z : (i : Int) < (X.length : Int) := by omega
            by_cases hy1 : i < Y.length
            · have hy1z : (i : Int) < (Y.length : Int) := by omega
              have HAr := Lib.hid (HAw.out.on HBo.out)
              have HBr := Lib.hid (HBw.out.on HBo.out)
              have H7r := Lib.hid (H7.out.on HBo.out)
              have H8r := Lib.hid (H8.out.on HBo.out)
              have HWr := Lib.hid (HWw.out.trans (HBo.out.mono HWw.out.size))
              clear HXw HYw HAw HBw H7 H8 HWw HBo
              have cz401 := awake10_c wr
              go_wp2_with fail
              (with_reducible refine cz401.mono ?_)
              rintro e wz401 ⟨rfl, hb⟩
              replace HAr := Lib.hid (HAr.out.on hb)
              replace HBr := Lib.hid (HBr.out.on hb)
              replace H7r := Lib.hid (H7r.out.on hb)
              replace H8r := Lib.hid (H8r.out.on hb)
              replace HWr := Lib.hid (HWr.out.trans (hb.mono HWr.out.size))
              clear cz401 hb
              have cz402 := idjoin_c _ _ A B wz401 (by have := HLN.out; omega) (by have := HLN.out; omega) HAr.out HBr.out
              go_wp2_with fail
              (with_reducible refine cz402.mono ?_)
              rintro e wz402 ⟨vj, rfl, hn, hb⟩
              replace HAr := Lib.hid (HAr.out.on hb)
              replace HBr := Lib.hid (HBr.out.on hb)
              replace H7r := Lib.hid (H7r.out.on hb)
              replace H8r := Lib.hid (H8r.out.on hb)
              replace HWr := Lib.hid (HWr.out.trans (hb.mono HWr.out.size))
              have HJ := Lib.hid hn
              clear cz402 hb hn
              have b7 := below1 wz402 (.cells #[] 3)
              have O7 := World.ownsRow_made (base := wz402.heap.size) (e := 3) (size := 1) wz402 #[] 0 (Nat.le_refl _) (Nat.zero_le _) rfl
              have S7 := (HAr.out.on b7).src
              have L7 := HLN.out.1
              have L8 := HLN.out.2
              go_wp2_with (at_builtin; refine wpList_appW _ (by rfl) (.tmp 110) (.tmp 111) 22 rfl wz402.heap.size 3 ic _ 1 8 Try.underlying22 hic hcz0 hcz1 hcz2 rfl (by decide) _ 0 [] rfl O7 _ A.length (iv A) rfl S7 (by unfold maxLen; omega) (by omega) (by simp) ?_)
              intro va8 wa8 O8 hg8
              have b8 : Below wz402.heap.size wz402 wa8 := b7.grown hg8 (by simp) (fun j hj => by simp [Value.ownBlock] at hj; omega)
              have S8 := (HBr.out.on b8).src
              have hz8 := b8.size
              clear O7 S7 b7 hg8
              go_wp2_with (at_builtin; refine wpList_appW _ (by rfl) (.tmp 112) (.tmp 113) 22 rfl wz402.heap.size 3 ic _ 1 8 Try.underlying22 hic hcz0 hcz1 hcz2 rfl (by decide) _ _ _ rfl O8 _ B.length (iv B) rfl S8 (by unfold maxLen; omega) (by omega) hz8 ?_)
              intro va9 wa9 O9 hg9
              have hb : Below wz402.heap.size wz402 wa9 := b8.grown hg9 hz8 (fun j hj => (O8.lt j hj).1)
              have HAB : Hid (Nm wa9 va9 (A ++ B)) := own_Nm (n := A.length + B.length) (by rw [← iv_app]; simpa using O9)
              clear O8 S8 b8 hg9 O9 hz8 L7 L8
              replace HAr := Lib.hid (HAr.out.on hb)
              replace HBr := Lib.hid (HBr.out.on hb)
              replace H7r := Lib.hid (H7r.out.on hb)
              replace H8r := Lib.hid (H8r.out.on hb)
              replace HWr := Lib.hid (HWr.out.trans (hb.mono HWr.out.size))
              replace HJ := Lib.hid (HJ.out.on hb)
              clear hb
              have cz403 := lset_c va9 (A ++ B) wa9 (by have := HLN.out; rw [List.length_append]; omega) HAB.out
              go_wp2_with fail
              (with_reducible refine cz403.mono ?_)
              rintro e wz403 ⟨vs, rfl, hn, hb⟩
              replace HAr := Lib.hid (HAr.out.on hb)
              replace HBr := Lib.hid (HBr.out.on hb)
              replace H7r := Lib.hid (H7r.out.on hb)
              replace H8r := Lib.hid (H8r.out.on hb)
              replace HWr := Lib.hid (HWr.out.trans (hb.mono HWr.out.size))
              replace HJ := Lib.hid (HJ.out.on hb)
              replace HAB := Lib.hid (HAB.out.on hb)
              have HS := Lib.hid hn
              clear cz403 hb hn
              have cz404 := rints_c vj vs (joinI A B) wz403 HJ.out HS.out (Nat.le_trans (joinI_len A B) (by have := HLN.out; omega))
              go_wp2_with fail
              (with_reducible refine cz404.mono ?_)
              rintro e wz404 ⟨rfl, hb⟩
              replace HAr := Lib.hid (HAr.out.on hb)
              replace HBr := Lib.hid (HBr.out.on hb)
              replace H7r := Lib.hid (H7r.out.on hb)
              replace H8r := Lib.hid (H8r.out.on hb)
              replace HWr := Lib.hid (HWr.out.trans (hb.mono HWr.out.size))
              replace HJ := Lib.hid (HJ.out.on hb)
              replace HAB := Lib.hid (HAB.out.on hb)
              replace HS := Lib.hid (HS.out.on hb)
              clear cz404 hb
              clear HJ HS HAB
              have cz405 := idmeet_c _ _ A B wz404 (by have := HLN.out; omega) (by have := HLN.out; omega) HAr.out HBr.out
              go_wp2_with fail
              (with_reducible refine cz405.mono ?_)
              rintro e wz405 ⟨vm, rfl, hn, hb⟩
              replace HAr := Lib.hid (HAr.out.on hb)
              replace HBr := Lib.hid (HBr.out.on hb)
              replace H7r := Lib.hid (H7r.out.on hb)
              replace H8r := Lib.hid (H8r.out.on hb)
              replace HWr := Lib.hid (HWr.out.trans (hb.mono HWr.out.size))
              have HM := Lib.hid hn
              clear cz405 hb hn
              have cz406 := rints_c vm _ (meetI A B) wz405 HM.out H7r.out (Nat.le_trans (meetI_len A B) (by have := HLN.out; omega))
              go_wp2_with fail
              (with_reducible refine cz406.mono ?_)
              rintro e wz406 ⟨rfl, hb⟩
              replace HAr := Lib.hid (HAr.out.on hb)
              replace HBr := Lib.hid (HBr.out.on hb)
              replace H7r := Lib.hid (H7r.out.on hb)
              replace H8r := Lib.hid (H8r.out.on hb)
              replace HWr := Lib.hid (HWr.out.trans (hb.mono HWr.out.size))
              replace HM := Lib.hid (HM.out.on hb)
              clear cz406 hb
              clear HM H7r
              have cz407 := idless_c _ _ A B wz406 (by have := HLN.out; omega) (by have := HLN.out; omega) HAr.out HBr.out
              go_wp2_with fail
              (with_reducible refine cz407.mono ?_)
              rintro e wz407 ⟨vl, rfl, hn, hb⟩
              replace HAr := Lib.hid (HAr.out.on hb)
              replace HBr := Lib.hid (HBr.out.on hb)
              replace H8r := Lib.hid (H8r.out.on hb)
              replace HWr := Lib.hid (HWr.out.trans (hb.mono HWr.out.size))
              have HD := Lib.hid hn
              clear cz407 hb hn
              have cz408 := rints_c vl _ (diffI A B) wz407 HD.out H8r.out (Nat.le_trans (diffI_len A B) (by have := HLN.out; omega))
              go_wp2_with fail
              (with_reducible refine cz408.mono ?_)
              rintro e wz408 ⟨rfl, hb⟩
              replace HAr := Lib.hid (HAr.out.on hb)
              replace HBr := Lib.hid (HBr.out.on hb)
              replace H8r := Lib.hid (H8r.out.on hb)
              replace HWr := Lib.hid (HWr.out.trans (hb.mono HWr.out.size))
              replace HD := Lib.hid (HD.out.on hb)
              clear cz408 hb
              clear HD H8r
              have cz409 := idcomp_c _ _ A B wz408 (by have := HLN.out; omega) (by have := HLN.out; omega) HAr.out HBr.out
              rw [HR.out] at cz409
              go_wp2_with fail
              (with_reducible refine cz409.mono ?_)
              rintro e wz409 ⟨rfl, hb⟩
              replace HAr := Lib.hid (HAr.out.on hb)
              replace HBr := Lib.hid (HBr.out.on hb)
              replace HWr := Lib.hid (HWr.out.trans (hb.mono HWr.out.size))
              clear cz409 hb
              go_wp2
              go_ret
              exact ⟨rfl, HWr.out⟩
            · have hy1z : ¬ (i : Int) < (Y.length : Int) := by omega
              have HAr := Lib.hid (HAw.out.on HBo.out)
              have HBr := Lib.hid (HBw.out.on HBo.out)
              have H7r := Lib.hid (H7.out.on HBo.out)
              have H8r := Lib.hid (H8.out.on HBo.out)
              have HWr := Lib.hid (HWw.out.trans (HBo.out.mono HWw.out.size))
              clear HXw HYw HAw HBw H7 H8 HWw HBo
              have cz501 := awake10_c wr
              go_wp2_with fail
              (with_reducible refine cz501.mono ?_)
              rintro e wz501 ⟨rfl, hb⟩
              replace HAr := Lib.hid (HAr.out.on hb)
              replace HBr := Lib.hid (HBr.out.on hb)
              replace H7r := Lib.hid (H7r.out.on hb)
              replace H8r := Lib.hid (H8r.out.on hb)
              replace HWr := Lib.hid (HWr.out.trans (hb.mono HWr.out.size))
              clear cz501 hb
              have cz502 := idjoin_c _ _ A B wz501 (by have := HLN.out; omega) (by have := HLN.out; omega) HAr.out HBr.out
              go_wp2_with fail
              (with_reducible refine cz502.mono ?_)
              rintro e wz502 ⟨vj, rfl, hn, hb⟩
              replace HAr := Lib.hid (HAr.out.on hb)
              replace HBr := Lib.hid (HBr.out.on hb)
              replace H7r := Lib.hid (H7r.out.on hb)
              replace H8r := Lib.hid (H8r.out.on hb)
              replace HWr := Lib.hid (HWr.out.trans (hb.mono HWr.out.size))
              have HJ := Lib.hid hn
              clear cz502 hb hn
              have b7 := below1 wz502 (.cells #[] 3)
              have O7 := World.ownsRow_made (base := wz502.heap.size) (e := 3) (size := 1) wz502 #[] 0 (Nat.le_refl _) (Nat.zero_le _) rfl
              have S7 := (HAr.out.on b7).src
              have L7 := HLN.out.1
              have L8 := HLN.out.2
              go_wp2_with (at_builtin; refine wpList_appW _ (by rfl) (.tmp 110) (.tmp 111) 22 rfl wz502.heap.size 3 ic _ 1 8 Try.underlying22 hic hcz0 hcz1 hcz2 rfl (by decide) _ 0 [] rfl O7 _ A.length (iv A) rfl S7 (by unfold maxLen; omega) (by omega) (by simp) ?_)
              intro va8 wa8 O8 hg8
              have b8 : Below wz502.heap.size wz502 wa8 := b7.grown hg8 (by simp) (fun j hj => by simp [Value.ownBlock] at hj; omega)
              have S8 := (HBr.out.on b8).src
              have hz8 := b8.size
              clear O7 S7 b7 hg8
              go_wp2_with (at_builtin; refine wpList_appW _ (by rfl) (.tmp 112) (.tmp 113) 22 rfl wz502.heap.size 3 ic _ 1 8 Try.underlying22 hic hcz0 hcz1 hcz2 rfl (by decide) _ _ _ rfl O8 _ B.length (iv B) rfl S8 (by unfold maxLen; omega) (by omega) hz8 ?_)
              intro va9 wa9 O9 hg9
              have hb : Below wz502.heap.size wz502 wa9 := b8.grown hg9 hz8 (fun j hj => (O8.lt j hj).1)
              have HAB : Hid (Nm wa9 va9 (A ++ B)) := own_Nm (n := A.length + B.length) (by rw [← iv_app]; simpa using O9)
              clear O8 S8 b8 hg9 O9 hz8 L7 L8
              replace HAr := Lib.hid (HAr.out.on hb)
              replace HBr := Lib.hid (HBr.out.on hb)
              replace H7r := Lib.hid (H7r.out.on hb)
              replace H8r := Lib.hid (H8r.out.on hb)
              replace HWr := Lib.hid (HWr.out.trans (hb.mono HWr.out.size))
              replace HJ := Lib.hid (HJ.out.on hb)
              clear hb
              have cz503 := lset_c va9 (A ++ B) wa9 (by have := HLN.out; rw [List.length_append]; omega) HAB.out
              go_wp2_with fail
              (with_reducible refine cz503.mono ?_)
              rintro e wz503 ⟨vs, rfl, hn, hb⟩
              replace HAr := Lib.hid (HAr.out.on hb)
              replace HBr := Lib.hid (HBr.out.on hb)
              replace H7r := Lib.hid (H7r.out.on hb)
              replace H8r := Lib.hid (H8r.out.on hb)
              replace HWr := Lib.hid (HWr.out.trans (hb.mono HWr.out.size))
              replace HJ := Lib.hid (HJ.out.on hb)
              replace HAB := Lib.hid (HAB.out.on hb)
              have HS := Lib.hid hn
              clear cz503 hb hn
              have cz504 := rints_c vj vs (joinI A B) wz503 HJ.out HS.out (Nat.le_trans (joinI_len A B) (by have := HLN.out; omega))
              go_wp2_with fail
              (with_reducible refine cz504.mono ?_)
              rintro e wz504 ⟨rfl, hb⟩
              replace HAr := Lib.hid (HAr.out.on hb)
              replace HBr := Lib.hid (HBr.out.on hb)
              replace H7r := Lib.hid (H7r.out.on hb)
              replace H8r := Lib.hid (H8r.out.on hb)
              replace HWr := Lib.hid (HWr.out.trans (hb.mono HWr.out.size))
              replace HJ := Lib.hid (HJ.out.on hb)
              replace HAB := Lib.hid (HAB.out.on hb)
              replace HS := Lib.hid (HS.out.on hb)
              clear cz504 hb
              clear HJ HS HAB
              have cz505 := idmeet_c _ _ A B wz504 (by have := HLN.out; omega) (by have := HLN.out; omega) HAr.out HBr.out
              go_wp2_with fail
              (with_reducible refine cz505.mono ?_)
              rintro e wz505 ⟨vm, rfl, hn, hb⟩
              replace HAr := Lib.hid (HAr.out.on hb)
              replace HBr := Lib.hid (HBr.out.on hb)
              replace H7r := Lib.hid (H7r.out.on hb)
              replace H8r := Lib.hid (H8r.out.on hb)
              replace HWr := Lib.hid (HWr.out.trans (hb.mono HWr.out.size))
              have HM := Lib.hid hn
              clear cz505 hb hn
              have cz506 := rints_c vm _ (meetI A B) wz505 HM.out H7r.out (Nat.le_trans (meetI_len A B) (by have := HLN.out; omega))
              go_wp2_with fail
              (with_reducible refine cz506.mono ?_)
              rintro e wz506 ⟨rfl, hb⟩
              replace HAr := Lib.hid (HAr.out.on hb)
              replace HBr := Lib.hid (HBr.out.on hb)
              replace H7r := Lib.hid (H7r.out.on hb)
              replace H8r := Lib.hid (H8r.out.on hb)
              replace HWr := Lib.hid (HWr.out.trans (hb.mono HWr.out.size))
              replace HM := Lib.hid (HM.out.on hb)
              clear cz506 hb
              clear HM H7r
              have cz507 := idless_c _ _ A B wz506 (by have := HLN.out; omega) (by have := HLN.out; omega) HAr.out HBr.out
              go_wp2_with fail
              (with_reducible refine cz507.mono ?_)
              rintro e wz507 ⟨vl, rfl, hn, hb⟩
              replace HAr := Lib.hid (HAr.out.on hb)
              replace HBr := Lib.hid (HBr.out.on hb)
              replace H8r := Lib.hid (H8r.out.on hb)
              replace HWr := Lib.hid (HWr.out.trans (hb.mono HWr.out.size))
              have HD := Lib.hid hn
              clear cz507 hb hn
              have cz508 := rints_c vl _ (diffI A B) wz507 HD.out H8r.out (Nat.le_trans (diffI_len A B) (by have := HLN.out; omega))
              go_wp2_with fail
              (with_reducible refine cz508.mono ?_)
              rintro e wz508 ⟨rfl, hb⟩
              replace HAr := Lib.hid (HAr.out.on hb)
              replace HBr := Lib.hid (HBr.out.on hb)
              replace H8r := Lib.hid (H8r.out.on hb)
              replace HWr := Lib.hid (HWr.out.trans (hb.mono HWr.out.size))
              replace HD := Lib.hid (HD.out.on hb)
              clear cz508 hb
              clear HD H8r
              have cz509 := idcomp_c _ _ A B wz508 (by have := HLN.out; omega) (by have := HLN.out; omega) HAr.out HBr.out
              rw [HR.out] at cz509
              go_wp2_with fail
              (with_reducible refine cz509.mono ?_)
              rintro e wz509 ⟨rfl, hb⟩
              replace HAr := Lib.hid (HAr.out.on hb)
              replace HBr := Lib.hid (HBr.out.on hb)
              replace HWr := Lib.hid (HWr.out.trans (hb.mono HWr.out.size))
              clear cz509 hb
              go_wp2
              go_ret
              exact ⟨rfl, HWr.out⟩
          · have hx1z : ¬ (i : Int) < (X.length : Int) := by omega
            have HAr := Lib.hid (HAw.out.on HBo.out)
            have HBr := Lib.hid (HBw.out.on HBo.out)
            have H7r := Lib.hid (H7.out.on HBo.out)
            have H8r := Lib.hid (H8.out.on HBo.out)
            have HWr := Lib.hid (HWw.out.trans (HBo.out.mono HWw.out.size))
            clear HXw HYw HAw HBw H7 H8 HWw HBo
            have cz601 := awake10_c wr
            go_wp2_with fail
            (with_reducible refine cz601.mono ?_)
            rintro e wz601 ⟨rfl, hb⟩
            replace HAr := Lib.hid (HAr.out.on hb)
            replace HBr := Lib.hid (HBr.out.on hb)
            replace H7r := Lib.hid (H7r.out.on hb)
            replace H8r := Lib.hid (H8r.out.on hb)
            replace HWr := Lib.hid (HWr.out.trans (hb.mono HWr.out.size))
            clear cz601 hb
            have cz602 := idjoin_c _ _ A B wz601 (by have := HLN.out; omega) (by have := HLN.out; omega) HAr.out HBr.out
            go_wp2_with fail
            (with_reducible refine cz602.mono ?_)
            rintro e wz602 ⟨vj, rfl, hn, hb⟩
            replace HAr := Lib.hid (HAr.out.on hb)
            replace HBr := Lib.hid (HBr.out.on hb)
            replace H7r := Lib.hid (H7r.out.on hb)
            replace H8r := Lib.hid (H8r.out.on hb)
            replace HWr := Lib.hid (HWr.out.trans (hb.mono HWr.out.size))
            have HJ := Lib.hid hn
            clear cz602 hb hn
            have b7 := below1 wz602 (.cells #[] 3)
            have O7 := World.ownsRow_made (base := wz602.heap.size) (e := 3) (size := 1) wz602 #[] 0 (Nat.le_refl _) (Nat.zero_le _) rfl
            have S7 := (HAr.out.on b7).src
            have L7 := HLN.out.1
            have L8 := HLN.out.2
            go_wp2_with (at_builtin; refine wpList_appW _ (by rfl) (.tmp 110) (.tmp 111) 22 rfl wz602.heap.size 3 ic _ 1 8 Try.underlying22 hic hcz0 hcz1 hcz2 rfl (by decide) _ 0 [] rfl O7 _ A.length (iv A) rfl S7 (by unfold maxLen; omega) (by omega) (by simp) ?_)
            intro va8 wa8 O8 hg8
            have b8 : Below wz602.heap.size wz602 wa8 := b7.grown hg8 (by simp) (fun j hj => by simp [Value.ownBlock] at hj; omega)
            have S8 := (HBr.out.on b8).src
            have hz8 := b8.size
            clear O7 S7 b7 hg8
            go_wp2_with (at_builtin; refine wpList_appW _ (by rfl) (.tmp 112) (.tmp 113) 22 rfl wz602.heap.size 3 ic _ 1 8 Try.underlying22 hic hcz0 hcz1 hcz2 rfl (by decide) _ _ _ rfl O8 _ B.length (iv B) rfl S8 (by unfold maxLen; omega) (by omega) hz8 ?_)
            intro va9 wa9 O9 hg9
            have hb : Below wz602.heap.size wz602 wa9 := b8.grown hg9 hz8 (fun j hj => (O8.lt j hj).1)
            have HAB : Hid (Nm wa9 va9 (A ++ B)) := own_Nm (n := A.length + B.length) (by rw [← iv_app]; simpa using O9)
            clear O8 S8 b8 hg9 O9 hz8 L7 L8
            replace HAr := Lib.hid (HAr.out.on hb)
            replace HBr := Lib.hid (HBr.out.on hb)
            replace H7r := Lib.hid (H7r.out.on hb)
            replace H8r := Lib.hid (H8r.out.on hb)
            replace HWr := Lib.hid (HWr.out.trans (hb.mono HWr.out.size))
            replace HJ := Lib.hid (HJ.out.on hb)
            clear hb
            have cz603 := lset_c va9 (A ++ B) wa9 (by have := HLN.out; rw [List.length_append]; omega) HAB.out
            go_wp2_with fail
            (with_reducible refine cz603.mono ?_)
            rintro e wz603 ⟨vs, rfl, hn, hb⟩
            replace HAr := Lib.hid (HAr.out.on hb)
            replace HBr := Lib.hid (HBr.out.on hb)
            replace H7r := Lib.hid (H7r.out.on hb)
            replace H8r := Lib.hid (H8r.out.on hb)
            replace HWr := Lib.hid (HWr.out.trans (hb.mono HWr.out.size))
            replace HJ := Lib.hid (HJ.out.on hb)
            replace HAB := Lib.hid (HAB.out.on hb)
            have HS := Lib.hid hn
            clear cz603 hb hn
            have cz604 := rints_c vj vs (joinI A B) wz603 HJ.out HS.out (Nat.le_trans (joinI_len A B) (by have := HLN.out; omega))
            go_wp2_with fail
            (with_reducible refine cz604.mono ?_)
            rintro e wz604 ⟨rfl, hb⟩
            replace HAr := Lib.hid (HAr.out.on hb)
            replace HBr := Lib.hid (HBr.out.on hb)
            replace H7r := Lib.hid (H7r.out.on hb)
            replace H8r := Lib.hid (H8r.out.on hb)
            replace HWr := Lib.hid (HWr.out.trans (hb.mono HWr.out.size))
            replace HJ := Lib.hid (HJ.out.on hb)
            replace HAB := Lib.hid (HAB.out.on hb)
            replace HS := Lib.hid (HS.out.on hb)
            clear cz604 hb
            clear HJ HS HAB
            have cz605 := idmeet_c _ _ A B wz604 (by have := HLN.out; omega) (by have := HLN.out; omega) HAr.out HBr.out
            go_wp2_with fail
            (with_reducible refine cz605.mono ?_)
            rintro e wz605 ⟨vm, rfl, hn, hb⟩
            replace HAr := Lib.hid (HAr.out.on hb)
            replace HBr := Lib.hid (HBr.out.on hb)
            replace H7r := Lib.hid (H7r.out.on hb)
            replace H8r := Lib.hid (H8r.out.on hb)
            replace HWr := Lib.hid (HWr.out.trans (hb.mono HWr.out.size))
            have HM := Lib.hid hn
            clear cz605 hb hn
            have cz606 := rints_c vm _ (meetI A B) wz605 HM.out H7r.out (Nat.le_trans (meetI_len A B) (by have := HLN.out; omega))
            go_wp2_with fail
            (with_reducible refine cz606.mono ?_)
            rintro e wz606 ⟨rfl, hb⟩
            replace HAr := Lib.hid (HAr.out.on hb)
            replace HBr := Lib.hid (HBr.out.on hb)
            replace H7r := Lib.hid (H7r.out.on hb)
            replace H8r := Lib.hid (H8r.out.on hb)
            replace HWr := Lib.hid (HWr.out.trans (hb.mono HWr.out.size))
            replace HM := Lib.hid (HM.out.on hb)
            clear cz606 hb
            clear HM H7r
            have cz607 := idless_c _ _ A B wz606 (by have := HLN.out; omega) (by have := HLN.out; omega) HAr.out HBr.out
            go_wp2_with fail
            (with_reducible refine cz607.mono ?_)
            rintro e wz607 ⟨vl, rfl, hn, hb⟩
            replace HAr := Lib.hid (HAr.out.on hb)
            replace HBr := Lib.hid (HBr.out.on hb)
            replace H8r := Lib.hid (H8r.out.on hb)
            replace HWr := Lib.hid (HWr.out.trans (hb.mono HWr.out.size))
            have HD := Lib.hid hn
            clear cz607 hb hn
            have cz608 := rints_c vl _ (diffI A B) wz607 HD.out H8r.out (Nat.le_trans (diffI_len A B) (by have := HLN.out; omega))
            go_wp2_with fail
            (with_reducible refine cz608.mono ?_)
            rintro e wz608 ⟨rfl, hb⟩
            replace HAr := Lib.hid (HAr.out.on hb)
            replace HBr := Lib.hid (HBr.out.on hb)
            replace H8r := Lib.hid (H8r.out.on hb)
            replace HWr := Lib.hid (HWr.out.trans (hb.mono HWr.out.size))
            replace HD := Lib.hid (HD.out.on hb)
            clear cz608 hb
            clear HD H8r
            have cz609 := idcomp_c _ _ A B wz608 (by have := HLN.out; omega) (by have := HLN.out; omega) HAr.out HBr.out
            rw [HR.out] at cz609
            go_wp2_with fail
            (with_reducible refine cz609.mono ?_)
            rintro e wz609 ⟨rfl, hb⟩
            replace HAr := Lib.hid (HAr.out.on hb)
            replace HBr := Lib.hid (HBr.out.on hb)
            replace HWr := Lib.hid (HWr.out.trans (hb.mono HWr.out.size))
            clear cz609 hb
            go_wp2
            go_ret
            exact ⟨rfl, HWr.out⟩
set_option maxRecDepth 100000 in
theorem imeets_c (va vb : Value) (A B : List Int) (w : World) (ha : Nm w va A) (hb : Nm w vb B) : Calls Try.prog 4 #[va, vb] w fun e w' => e = .returned (.bool true) ∧ Below w.heap.size w w' := by
  by_cases h1 : 200 < A.length
  · have h1z : (200 : Int) < (A.length : Int) := by omega
    obtain ⟨A1, k1, rfl⟩ := ha.form rfl
    clear ha hb
    go_enter Try.func4, Try.ntmps4
    go_wp2_with fail
    (with_reducible refine (awake10_c w).mono ?_)
    rintro e w1 ⟨rfl, hb⟩
    go_wp2
    go_ret
    exact ⟨rfl, hb⟩
  · by_cases h2 : 200 < B.length
    · have h1z : ¬ (200 : Int) < (A.length : Int) := by omega
      have h2z : (200 : Int) < (B.length : Int) := by omega
      obtain ⟨A1, k1, rfl⟩ := ha.form rfl
      obtain ⟨A2, k2, rfl⟩ := hb.form rfl
      clear ha hb
      go_enter Try.func4, Try.ntmps4
      go_wp2_with fail
      (with_reducible refine (awake10_c w).mono ?_)
      rintro e w1 ⟨rfl, hb⟩
      go_wp2
      go_ret
      exact ⟨rfl, hb⟩
    · exact imeets_main va vb A B w (by omega) (by omega) ha hb
end Go.Proofs

namespace Go.Proofs.Ytbnfagbeebndeaa
open Go.ChangeShapes Go.WideShapes Go.ChangeAt Go.RowKit Go.Joins Go.Proofs.Hd

theorem laidOut_imt : laidOutB Try.prog = true := by kernel_rfl
set_option maxRecDepth 100000 in
theorem imt_lifted (os : Os) (started : os.Started) (H : Type) (enc : TypeId × Value → H) :
    ReturnsInHanded {} Try.checked os 4 .any (Rows.idsMeetsSpec.pre6 enc Try.prog Try.f4 Rows.idsMeetsRow.domain false) (Rows.idsMeetsSpec.post enc Try.prog Try.f4 false true false false) := by
  refine returnsInHanded_of_change (C := Try.checked) own started (by kernel_rfl) Try.func4
    (ChangeSpec.witness6 (enc := enc) (C := Try.checked) false ⟨#[], #[.slice none 0 0, .slice none 0 0], []⟩ 8 (by kernel_rfl) (by kernel_rfl) (by kernel_rfl) (by kernel_rfl)) ?_
  intro W base args ds gs before hval0 hW hcnd _
  have hval : ∀ (j : Nat) t v, Try.f4.params[j]? = some t → args[j]? = some v → Value.okWide Try.prog W .any base t v := hval0
  have hW' := hW
  obtain ⟨p, q, hA0, hV, rfl, hfz, hnd⟩ := hW
  have hA : DataW.TrodAll enc Try.prog W 0 (fun _ => true) true Try.f4.params.toList args.toList ds p := hA0
  rw [Try.params4] at hA hval
  obtain ⟨v0, vs0, d0, ds0, p0, q0, hargs, rfl, rfl, h0, r0⟩ := trodAll_cons hA
  obtain ⟨v1, vs1, d1, ds1, p1, q1, rfl, rfl, rfl, h1, r1⟩ := trodAll_cons r0
  obtain ⟨rfl, rfl, rfl⟩ := trodAll_nil r1
  obtain rfl : args = #[v0, v1] := by cases args; simp_all
  obtain ⟨rfl, rfl⟩ := trodVars_none hV
  have k0 := h0
  have lt0 : ∀ x ∈ p0, x.block < W.heap.size := by obtain ⟨m, hm⟩ := k0; exact DataW.trod_lt m _ _ _ hm
  obtain ⟨xA, xc, xL, rfl, px, dx⟩ := open_nums (hval 0 22 v0 rfl rfl) h0
  have k1 := h1
  have lt1 : ∀ x ∈ p1, x.block < W.heap.size := by obtain ⟨m, hm⟩ := k1; exact DataW.trod_lt m _ _ _ hm
  obtain ⟨yA, yc, yL, rfl, py, dy⟩ := open_nums (hval 1 22 v1 rfl rfl) h1
  clear hA0 hval0
  refine (imeets_c _ _ xL yL W px py).mono fun e W' ⟨he, hg⟩ => ?_
  subst he
  exact ⟨_, rfl, _, _, _, [], _, [], hW', trodAll_mk1 (shut_bool Try.underlying4 _), (trodAll_cons_mk (Below.trod laidOut_imt (by kernel_rfl) (of_decide_eq_true (by kernel_rfl)) k0 hg lt0) (trodAll_cons_mk (Below.trod laidOut_imt (by kernel_rfl) (of_decide_eq_true (by kernel_rfl)) k1 hg lt1) trodAll_mk0)), rfl, hg.frame _, (fun h => by cases h)⟩

theorem imt_holds : Rows.IdsMeetsSaid :=
  OpenClaim.holds_of_wide 4 Try.f4 rfl rfl rfl rfl rfl rfl rfl ⟨rfl, rfl, rfl, rfl, rfl⟩ rfl rfl rfl rfl rfl (by kernel_rfl) Try.func4 (by kernel_rfl)
    (of_decide_eq_true (by kernel_rfl)) (by unfold Func.isWrapper; first | (rw [if_pos (by decide +kernel)]; kernel_rfl) | (rw [if_neg (by decide +kernel)]; exact ⟨rfl, rfl⟩))
    (fun os started H enc _ => imt_lifted os started H enc)
#print axioms imt_holds
end Go.Proofs.Ytbnfagbeebndeaa
