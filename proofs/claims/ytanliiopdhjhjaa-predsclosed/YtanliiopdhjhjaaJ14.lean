/-
  A cube ahead of a setting, sign by sign: the law's before, told as bfC. Conditions: both cubes are sound.
-/
import Derived.Test.YtanliiopdhjhjaaJ13
namespace Go.Proofs
open Go.RowKit Go.Proofs.Hd
attribute [local go_sem] uv_nonneg
set_option maxHeartbeats 8000000 in
set_option maxRecDepth 100000 in
theorem lbef_r (c d : Cb) (x : Bool) (r : Cb) (w : World) (hc : c.snd = true) (hd : d.snd = true) (hx : c.agr d = x) (HR : Hid (x = true → r = Cb.bef c d)) (HN : Hid (x = false → r = Cb.zero)) :
    Calls Try.prog 14 #[.agg #[.int .u64 (uv c.vh), .int .u64 (uv c.vl), .int .u64 (uv c.ch), .int .u64 (uv c.cl)], .agg #[.int .u64 (uv d.vh), .int .u64 (uv d.vl), .int .u64 (uv d.ch), .int .u64 (uv d.cl)]] w fun e w' => e = .returned (.tuple #[.agg #[.int .u64 (uv r.vh), .int .u64 (uv r.vl), .int .u64 (uv r.ch), .int .u64 (uv r.cl)], .bool x]) ∧ Below w.heap.size w w' := by
  have HC := Lib.hid hc
  have HD := Lib.hid hd
  have HX := Lib.hid hx
  have B0 := Lib.hid (below3 w (.cells #[.int .u64 (uv c.vh), .int .u64 (uv c.vl), .int .u64 (uv c.ch), .int .u64 (uv c.cl)] 43) (.cells #[.int .u64 (uv d.vh), .int .u64 (uv d.vl), .int .u64 (uv d.ch), .int .u64 (uv d.cl)] 43) (.cells #[.int .u64 0, .int .u64 0, .int .u64 0, .int .u64 0] 43))
  have hk1 : Blk ((w.alloc (.cells #[.int .u64 (uv c.vh), .int .u64 (uv c.vl), .int .u64 (uv c.ch), .int .u64 (uv c.cl)] 43)).alloc (.cells #[.int .u64 (uv d.vh), .int .u64 (uv d.vl), .int .u64 (uv d.ch), .int .u64 (uv d.cl)] 43)) (w.heap.size + 1) 43 #[.int .u64 (uv d.vh), .int .u64 (uv d.vl), .int .u64 (uv d.ch), .int .u64 (uv d.cl)] := by
    have h := Blk.new (w.alloc (.cells #[.int .u64 (uv c.vh), .int .u64 (uv c.vl), .int .u64 (uv c.ch), .int .u64 (uv c.cl)] 43)) 43 #[.int .u64 (uv d.vh), .int .u64 (uv d.vl), .int .u64 (uv d.ch), .int .u64 (uv d.cl)]
    simpa using h
  have hk2 : Blk (((w.alloc (.cells #[.int .u64 (uv c.vh), .int .u64 (uv c.vl), .int .u64 (uv c.ch), .int .u64 (uv c.cl)] 43)).alloc (.cells #[.int .u64 (uv d.vh), .int .u64 (uv d.vl), .int .u64 (uv d.ch), .int .u64 (uv d.cl)] 43)).alloc (.cells #[.int .u64 0, .int .u64 0, .int .u64 0, .int .u64 0] 43)) (w.heap.size + 2) 43 #[.int .u64 0, .int .u64 0, .int .u64 0, .int .u64 0] := by
    have h := Blk.new ((w.alloc (.cells #[.int .u64 (uv c.vh), .int .u64 (uv c.vl), .int .u64 (uv c.ch), .int .u64 (uv c.cl)] 43)).alloc (.cells #[.int .u64 (uv d.vh), .int .u64 (uv d.vl), .int .u64 (uv d.ch), .int .u64 (uv d.cl)] 43)) 43 #[.int .u64 0, .int .u64 0, .int .u64 0, .int .u64 0]
    simpa using h
  have K0 : Hid (Blk (((w.alloc (.cells #[.int .u64 (uv c.vh), .int .u64 (uv c.vl), .int .u64 (uv c.ch), .int .u64 (uv c.cl)] 43)).alloc (.cells #[.int .u64 (uv d.vh), .int .u64 (uv d.vl), .int .u64 (uv d.ch), .int .u64 (uv d.cl)] 43)).alloc (.cells #[.int .u64 0, .int .u64 0, .int .u64 0, .int .u64 0] 43)) w.heap.size 43 #[.int .u64 (uv c.vh), .int .u64 (uv c.vl), .int .u64 (uv c.ch), .int .u64 (uv c.cl)]) := ((Blk.new w _ _).on (below1 _ _)).on (below1 _ _)
  have K1 : Hid (Blk (((w.alloc (.cells #[.int .u64 (uv c.vh), .int .u64 (uv c.vl), .int .u64 (uv c.ch), .int .u64 (uv c.cl)] 43)).alloc (.cells #[.int .u64 (uv d.vh), .int .u64 (uv d.vl), .int .u64 (uv d.ch), .int .u64 (uv d.cl)] 43)).alloc (.cells #[.int .u64 0, .int .u64 0, .int .u64 0, .int .u64 0] 43)) (w.heap.size + 1) 43 #[.int .u64 (uv d.vh), .int .u64 (uv d.vl), .int .u64 (uv d.ch), .int .u64 (uv d.cl)]) := hk1.on (below1 _ _)
  have K2 := Lib.hid hk2
  clear hc hd hx hk1 hk2
  go_enter Try.func14, Try.ntmps14
  go_upto_region 1 with (fail)
  generalize ((w.alloc (.cells #[.int .u64 (uv c.vh), .int .u64 (uv c.vl), .int .u64 (uv c.ch), .int .u64 (uv c.cl)] 43)).alloc (.cells #[.int .u64 (uv d.vh), .int .u64 (uv d.vl), .int .u64 (uv d.ch), .int .u64 (uv d.cl)] 43)).alloc (.cells #[.int .u64 0, .int .u64 0, .int .u64 0, .int .u64 0] 43) = w1 at B0 K0 K1 K2 ⊢
  obtain ⟨q0, q1, q2, q3⟩ := quad K0.out
  go_wp2_with fail
  (with_reducible refine (text_yes c _ HC.out).mono ?_)
  rintro e w2 ⟨rfl, hb2⟩
  have B2 := Lib.hid (B0.out.trans (hb2.mono B0.out.size))
  have K12 := Lib.hid (K1.out.on hb2)
  have K22 := Lib.hid (K2.out.on hb2)
  clear hb2 B0 K0 K1 K2 q0 q1 q2 q3
  obtain ⟨q0, q1, q2, q3⟩ := quad K12.out
  go_wp2_with fail
  (with_reducible refine (text_yes d _ HD.out).mono ?_)
  rintro e w3 ⟨rfl, hb3⟩
  have B3 := Lib.hid (B2.out.trans (hb3.mono B2.out.size))
  have K2 := Lib.hid (K22.out.on hb3)
  clear hb3 B2 K12 K22 q0 q1 q2 q3
  obtain ⟨s, hs⟩ : ∃ s, txt c = s := ⟨_, rfl⟩
  obtain ⟨t, ht⟩ : ∃ t, txt d = t := ⟨_, rfl⟩
  rw [hs, ht]
  have HS := Lib.hid hs
  have HT := Lib.hid ht
  have l1 : s.size ≤ 128 := by rw [text_len hs]; omega
  have l2 : 128 ≤ s.size := by rw [text_len hs]; omega
  have l3 : t.size ≤ 128 := by rw [text_len ht]; omega
  have l4 : 128 ≤ t.size := by rw [text_len ht]; omega
  have hcv := toBytes w3 s
  have R0 := ByRow.start w3 s (grownCap w3 s.size 0 5) 5 (text_len hs) (mixB c d 0) (fun i h => by subst hs; rw [txt_get, mixB_zero])
  have HR0 := Lib.hid R0
  clear hs ht R0
  go_upto_region 4 with (fail)
  generalize grownCap w3 s.size 0 5 = cap at *
  clear hcv
  go_wp2
  go_loopg [11] 128 (fun g i wr => ∃ k : Nat, k ≤ 128 ∧ g = 128 - k ∧ i = .int .i64 k ∧ Hid (∀ j, j < 128 → 128 ≤ j + k → c.K j = true → d.K j = true → c.V j = d.V j) ∧ Hid (Below w3.heap.size w3 wr) ∧ Hid (ByRow wr w3.heap.size (mixB c d k)))
  case atStart => exact ⟨0, by omega, rfl, by go_num, fun j hj h => by omega, ((Below.refl _ w3).drew).alloc (Nat.le_refl _) _, HR0.out⟩
  case round =>
    clear HR0
    obtain ⟨k, hk, rfl, rfl, HOK, BW, RW⟩ := hrel
    by_cases hlt : k < 128
    · have hlt' : (k : Int) < 128 := by omega
      have hks : k < s.size := by omega
      have hks' : (k : Int) < (s.size : Int) := by omega
      have hkt : k < t.size := by omega
      have hkt' : (k : Int) < (t.size : Int) := by omega
      obtain ⟨m, hm⟩ : ∃ m, m + k = 127 := ⟨127 - k, by omega⟩
      have hm1 : m < 128 := by omega
      have HM := Lib.hid hm
      clear hm
      cases hKb : d.K m
      · have sgt := sign_x HT.out k m HM.out hkt hKb
        have HOK2 := Lib.hid (step_ok (P := fun j => c.K j = true → d.K j = true → c.V j = d.V j) HM.out HOK.out (fun _ h => by rw [hKb] at h; cases h))
        have HSM := Lib.hid (mixB_same d HC.out k m HM.out hKb)
        clear hKb
        go_wp2_with fail
        go_quiet (fail)
        have BW2 := Lib.hid (bel_drewN nq BW.out)
        have RW2 : Hid (ByRow (wr.drewN nq) w3.heap.size (mixB c d k)) := RW
        clear BW RW 
        generalize wr.drewN nq = wq at BW2 RW2 ⊢
        clear nq
        go_wp2
        go_roundg (128 - (k + 1))
        case measure => omega
        case rel => exact ⟨k + 1, by omega, rfl, by go_num, HOK2, BW2.out, RW2.out.congr HSM.out⟩
      · cases hKa : c.K m
        · cases hVb : d.V m
          · have hVa := True.intro
            have f1 : wr.cell? ⟨w3.heap.size, k, none⟩ = some (.int .u8 120) := by rw [(RW.out k hlt).1, mixB_cur, show 127 - k = m by have := HM.out; omega, show sgn c m = 120 from sgn_x.2 hKa]; rfl
            have sgt := sign_0 HT.out k m HM.out hkt hKb hVb
            have HOK2 := Lib.hid (step_ok (P := fun j => c.K j = true → d.K j = true → c.V j = d.V j) HM.out HOK.out (fun h => by rw [hKa] at h; cases h))
            have HSM := Lib.hid (mixB_set d HC.out k m HM.out hKb)
            clear hKb hVb hKa hVa
            go_wp2_with fail
            go_quiet (fail)
            have BW2 := Lib.hid (bel_drewN nq BW.out)
            have RW2 : Hid (ByRow (wr.drewN nq) w3.heap.size (mixB c d k)) := RW
            clear BW RW f1
            generalize wr.drewN nq = wq at BW2 RW2 ⊢
            clear nq
            have f1 := (RW2.out k hlt).1
            have f2 := (RW2.out k hlt).2
            go_wp2
            go_roundg (128 - (k + 1))
            case measure => omega
            case rel => exact ⟨k + 1, by omega, rfl, by go_num, HOK2, BW2.out.setCell (Nat.le_refl _) _, RW2.out.set k hlt _ _ (by rw [HSM.out]; rfl) (mixB_far c d k)⟩
          · have hVa := True.intro
            have f1 : wr.cell? ⟨w3.heap.size, k, none⟩ = some (.int .u8 120) := by rw [(RW.out k hlt).1, mixB_cur, show 127 - k = m by have := HM.out; omega, show sgn c m = 120 from sgn_x.2 hKa]; rfl
            have sgt := sign_1 HT.out k m HM.out hkt hKb hVb
            have HOK2 := Lib.hid (step_ok (P := fun j => c.K j = true → d.K j = true → c.V j = d.V j) HM.out HOK.out (fun h => by rw [hKa] at h; cases h))
            have HSM := Lib.hid (mixB_set d HC.out k m HM.out hKb)
            clear hKb hVb hKa hVa
            go_wp2_with fail
            go_quiet (fail)
            have BW2 := Lib.hid (bel_drewN nq BW.out)
            have RW2 : Hid (ByRow (wr.drewN nq) w3.heap.size (mixB c d k)) := RW
            clear BW RW f1
            generalize wr.drewN nq = wq at BW2 RW2 ⊢
            clear nq
            have f1 := (RW2.out k hlt).1
            have f2 := (RW2.out k hlt).2
            go_wp2
            go_roundg (128 - (k + 1))
            case measure => omega
            case rel => exact ⟨k + 1, by omega, rfl, by go_num, HOK2, BW2.out.setCell (Nat.le_refl _) _, RW2.out.set k hlt _ _ (by rw [HSM.out]; rfl) (mixB_far c d k)⟩
        · cases hVa : c.V m <;> cases hVb : d.V m
          ·
            have f1 : wr.cell? ⟨w3.heap.size, k, none⟩ = some (.int .u8 48) := by rw [(RW.out k hlt).1, mixB_cur, show 127 - k = m by have := HM.out; omega, show sgn c m = 48 from by unfold sgn; rw [hKa, hVa]; rfl]; rfl
            have sgt := sign_0 HT.out k m HM.out hkt hKb hVb
            have HOK2 := Lib.hid (step_ok (P := fun j => c.K j = true → d.K j = true → c.V j = d.V j) HM.out HOK.out (fun _ _ => hVa.trans hVb.symm))
            have HSM := Lib.hid (mixB_set d HC.out k m HM.out hKb)
            clear hKb hVb hKa hVa
            go_wp2_with fail
            go_quiet (fail)
            have BW2 := Lib.hid (bel_drewN nq BW.out)
            have RW2 : Hid (ByRow (wr.drewN nq) w3.heap.size (mixB c d k)) := RW
            clear BW RW f1
            generalize wr.drewN nq = wq at BW2 RW2 ⊢
            clear nq
            have f1 := (RW2.out k hlt).1
            have f2 := (RW2.out k hlt).2
            go_wp2
            go_roundg (128 - (k + 1))
            case measure => omega
            case rel => exact ⟨k + 1, by omega, rfl, by go_num, HOK2, BW2.out.setCell (Nat.le_refl _) _, RW2.out.set k hlt _ _ (by rw [HSM.out]; rfl) (mixB_far c d k)⟩
          ·
            have f1 : wr.cell? ⟨w3.heap.size, k, none⟩ = some (.int .u8 48) := by rw [(RW.out k hlt).1, mixB_cur, show 127 - k = m by have := HM.out; omega, show sgn c m = 48 from by unfold sgn; rw [hKa, hVa]; rfl]; rfl
            have sgt := sign_1 HT.out k m HM.out hkt hKb hVb
            have e := HX.out
            rw [agr_fails hm1 hKa hKb (fun h => by rw [hVa, hVb] at h; cases h)] at e
            subst e
            have er := HN.out rfl
            clear hKb hVb hKa hVa
            go_wp2_with fail
            go_quiet (fail)
            have BW2 := Lib.hid (bel_drewN nq BW.out)
            have RW2 : Hid (ByRow (wr.drewN nq) w3.heap.size (mixB c d k)) := RW
            clear BW RW f1
            generalize wr.drewN nq = wq at BW2 RW2 ⊢
            clear nq
            have K3 := K2.out.on BW2.out
            obtain ⟨f0, f1, f2, f3⟩ := free4 K3
            obtain ⟨z0, z1, z2, z3⟩ := quad K3
            obtain ⟨q0, q1, q2, q3⟩ := quad (put4 K3 (.int .u64 0) (.int .u64 0) (.int .u64 0) (.int .u64 0))
            have B6 := Lib.hid ((B3.out.trans (BW2.out.mono B3.out.size)).trans (sets4 wq (w.heap.size + 2) (.int .u64 0) (.int .u64 0) (.int .u64 0) (.int .u64 0) |>.mono (Nat.le_add_right _ _)))
            go_wp2
            exact bodyPost_ret (v := .tuple #[.agg #[.int .u64 0, .int .u64 0, .int .u64 0, .int .u64 0], .bool false]) (by simp [results, Try.results14, go_sem, q0, q1, q2, q3]) rfl ⟨by rw [er]; rfl, B6.out⟩
          ·
            have f1 : wr.cell? ⟨w3.heap.size, k, none⟩ = some (.int .u8 49) := by rw [(RW.out k hlt).1, mixB_cur, show 127 - k = m by have := HM.out; omega, show sgn c m = 49 from by unfold sgn; rw [hKa, hVa]; rfl]; rfl
            have sgt := sign_0 HT.out k m HM.out hkt hKb hVb
            have e := HX.out
            rw [agr_fails hm1 hKa hKb (fun h => by rw [hVa, hVb] at h; cases h)] at e
            subst e
            have er := HN.out rfl
            clear hKb hVb hKa hVa
            go_wp2_with fail
            go_quiet (fail)
            have BW2 := Lib.hid (bel_drewN nq BW.out)
            have RW2 : Hid (ByRow (wr.drewN nq) w3.heap.size (mixB c d k)) := RW
            clear BW RW f1
            generalize wr.drewN nq = wq at BW2 RW2 ⊢
            clear nq
            have K3 := K2.out.on BW2.out
            obtain ⟨f0, f1, f2, f3⟩ := free4 K3
            obtain ⟨z0, z1, z2, z3⟩ := quad K3
            obtain ⟨q0, q1, q2, q3⟩ := quad (put4 K3 (.int .u64 0) (.int .u64 0) (.int .u64 0) (.int .u64 0))
            have B6 := Lib.hid ((B3.out.trans (BW2.out.mono B3.out.size)).trans (sets4 wq (w.heap.size + 2) (.int .u64 0) (.int .u64 0) (.int .u64 0) (.int .u64 0) |>.mono (Nat.le_add_right _ _)))
            go_wp2
            exact bodyPost_ret (v := .tuple #[.agg #[.int .u64 0, .int .u64 0, .int .u64 0, .int .u64 0], .bool false]) (by simp [results, Try.results14, go_sem, q0, q1, q2, q3]) rfl ⟨by rw [er]; rfl, B6.out⟩
          ·
            have f1 : wr.cell? ⟨w3.heap.size, k, none⟩ = some (.int .u8 49) := by rw [(RW.out k hlt).1, mixB_cur, show 127 - k = m by have := HM.out; omega, show sgn c m = 49 from by unfold sgn; rw [hKa, hVa]; rfl]; rfl
            have sgt := sign_1 HT.out k m HM.out hkt hKb hVb
            have HOK2 := Lib.hid (step_ok (P := fun j => c.K j = true → d.K j = true → c.V j = d.V j) HM.out HOK.out (fun _ _ => hVa.trans hVb.symm))
            have HSM := Lib.hid (mixB_set d HC.out k m HM.out hKb)
            clear hKb hVb hKa hVa
            go_wp2_with fail
            go_quiet (fail)
            have BW2 := Lib.hid (bel_drewN nq BW.out)
            have RW2 : Hid (ByRow (wr.drewN nq) w3.heap.size (mixB c d k)) := RW
            clear BW RW f1
            generalize wr.drewN nq = wq at BW2 RW2 ⊢
            clear nq
            have f1 := (RW2.out k hlt).1
            have f2 := (RW2.out k hlt).2
            go_wp2
            go_roundg (128 - (k + 1))
            case measure => omega
            case rel => exact ⟨k + 1, by omega, rfl, by go_num, HOK2, BW2.out.setCell (Nat.le_refl _) _, RW2.out.set k hlt _ _ (by rw [HSM.out]; rfl) (mixB_far c d k)⟩
    · obtain rfl : k = 128 := by omega
      have e := HX.out
      rw [agr_all HOK.out] at e
      subst e
      have er := HR.out rfl
      have hsn : (Cb.bef c d).snd = true := bfC_snd (bfC_some HC.out (agr_all HOK.out))
      rw [← er] at hsn
      have HSN := Lib.hid hsn
      have hcv := fromBytes wr (Cb.bef c d) w3.heap.size s.size cap (by omega) (RW.out.congr (fun i hi => (mixB_all c d i hi).symm))
      rw [← er] at hcv
      clear er HR HN hsn
      go_wp2_with fail
      (with_reducible refine (rcube_s _ r _ HSN.out rfl).mono ?_)
      rintro e w4 ⟨rfl, hb4⟩
      have B4 := Lib.hid (BW.out.trans (hb4.mono BW.out.size))
      clear hb4 hcv BW RW
      have K3 := K2.out.on B4.out
      obtain ⟨f0, f1, f2, f3⟩ := free4 K3
      obtain ⟨z0, z1, z2, z3⟩ := quad K3
      obtain ⟨q0, q1, q2, q3⟩ := quad (put4 K3 (.int .u64 (uv r.vh)) (.int .u64 (uv r.vl)) (.int .u64 (uv r.ch)) (.int .u64 (uv r.cl)))
      have B6 := Lib.hid ((B3.out.trans (B4.out.mono B3.out.size)).trans (sets4 w4 (w.heap.size + 2) (.int .u64 (uv r.vh)) (.int .u64 (uv r.vl)) (.int .u64 (uv r.ch)) (.int .u64 (uv r.cl)) |>.mono (Nat.le_add_right _ _)))
      go_wp2
      exact bodyPost_ret (v := .tuple #[.agg #[.int .u64 (uv r.vh), .int .u64 (uv r.vl), .int .u64 (uv r.ch), .int .u64 (uv r.cl)], .bool true]) (by simp [results, Try.results14, go_sem, q0, q1, q2, q3]) rfl ⟨rfl, B6.out⟩
end Go.Proofs
