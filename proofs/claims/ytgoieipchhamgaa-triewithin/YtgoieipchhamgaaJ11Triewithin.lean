/-
  The law TrieWithin: what has a header meets each cube that has it. Conditions as each theorem lists them.
-/
import Derived.Test.YtgoieipchhamgaaJ10Triewithin
namespace Go.Proofs.Hd
open Go.RowKit Go.Lib
theorem mtT_le (l : List (Int × Cb)) (x y : BitVec 64) : (mtT l x y).length ≤ l.length := by
  have h1 := setI_len (tIds (l.filter fun p => p.2.has x y))
  have h2 : (tIds (l.filter fun p => p.2.has x y)).length ≤ l.length := by
    unfold tIds
    rw [List.length_map]
    exact List.length_filter_le _ _
  unfold mtT
  omega
theorem inc_ovS (l : List (Int × Cb)) (c : Cb) : Inc (ovS l c) := by
  unfold ovS
  split
  · exact inc_ovT l c
  · exact List.Pairwise.nil
theorem ovS_wit {l : List (Int × Cb)} {c d : Cb} (hc : c.snd = true) (hd : d.snd = true) (h : c.wit d = true) : ∀ x ∈ ovS l c, x ∈ ovS l d := by
  unfold ovS
  rw [if_pos hc, if_pos hd]
  exact ovT_wit h
theorem mtT_ovS {l : List (Int × Cb)} {c : Cb} {x y : BitVec 64} (hc : c.snd = true) (h : c.has x y = true) : ∀ z ∈ mtT l x y, z ∈ ovS l c := by
  unfold ovS
  rw [if_pos hc]
  exact mtT_ov h
end Go.Proofs.Hd
namespace Go.Proofs
open Go.RowKit Go.Proofs.Hd Go.Lib
attribute [local go_sem] uv_nonneg
set_option maxRecDepth 100000 in
set_option maxHeartbeats 16000000 in
theorem trwithin_c (A : Option Addr) (cap : Nat) (cs : List Cb) (c d : Cb) (hh hl : BitVec 64) (w : World) (hv : Pl w (.slice A cs.length cap) cs) :
    Calls Try.prog 4 #[.slice A cs.length cap, .agg #[.int .u64 (uv c.vh), .int .u64 (uv c.vl), .int .u64 (uv c.ch), .int .u64 (uv c.cl)], .agg #[.int .u64 (uv d.vh), .int .u64 (uv d.vl), .int .u64 (uv d.ch), .int .u64 (uv d.cl)], .agg #[.int .u64 (uv hh), .int .u64 (uv hl)]] w fun e w' => e = .returned (.bool true) ∧ Below w.heap.size w w' := by
  have hb0 := below3 w (.cells #[.int .u64 (uv c.vh), .int .u64 (uv c.vl), .int .u64 (uv c.ch), .int .u64 (uv c.cl)] 27) (.cells #[.int .u64 (uv d.vh), .int .u64 (uv d.vl), .int .u64 (uv d.ch), .int .u64 (uv d.cl)] 27) (.cells #[.int .u64 (uv hh), .int .u64 (uv hl)] 25)
  have HBW := Lib.hid hb0
  have HC : Hid (Blk (((w.alloc (.cells #[.int .u64 (uv c.vh), .int .u64 (uv c.vl), .int .u64 (uv c.ch), .int .u64 (uv c.cl)] 27)).alloc (.cells #[.int .u64 (uv d.vh), .int .u64 (uv d.vl), .int .u64 (uv d.ch), .int .u64 (uv d.cl)] 27)).alloc (.cells #[.int .u64 (uv hh), .int .u64 (uv hl)] 25)) w.heap.size 27 #[.int .u64 (uv c.vh), .int .u64 (uv c.vl), .int .u64 (uv c.ch), .int .u64 (uv c.cl)]) := (Blk.new w _ _).on ((below1 _ _).trans ((below1 _ _).mono (by simp)))
  have HD : Hid (Blk (((w.alloc (.cells #[.int .u64 (uv c.vh), .int .u64 (uv c.vl), .int .u64 (uv c.ch), .int .u64 (uv c.cl)] 27)).alloc (.cells #[.int .u64 (uv d.vh), .int .u64 (uv d.vl), .int .u64 (uv d.ch), .int .u64 (uv d.cl)] 27)).alloc (.cells #[.int .u64 (uv hh), .int .u64 (uv hl)] 25)) (w.heap.size + 1) 27 #[.int .u64 (uv d.vh), .int .u64 (uv d.vl), .int .u64 (uv d.ch), .int .u64 (uv d.cl)]) := by
    have h := (Blk.new (w.alloc (.cells #[.int .u64 (uv c.vh), .int .u64 (uv c.vl), .int .u64 (uv c.ch), .int .u64 (uv c.cl)] 27)) 27 #[.int .u64 (uv d.vh), .int .u64 (uv d.vl), .int .u64 (uv d.ch), .int .u64 (uv d.cl)]).on (below1 _ (.cells #[.int .u64 (uv hh), .int .u64 (uv hl)] 25))
    show Blk _ _ _ _
    simpa using h
  have HH : Hid (Blk (((w.alloc (.cells #[.int .u64 (uv c.vh), .int .u64 (uv c.vl), .int .u64 (uv c.ch), .int .u64 (uv c.cl)] 27)).alloc (.cells #[.int .u64 (uv d.vh), .int .u64 (uv d.vl), .int .u64 (uv d.ch), .int .u64 (uv d.cl)] 27)).alloc (.cells #[.int .u64 (uv hh), .int .u64 (uv hl)] 25)) (w.heap.size + 1 + 1) 25 #[.int .u64 (uv hh), .int .u64 (uv hl)]) := by
    have h := Blk.new ((w.alloc (.cells #[.int .u64 (uv c.vh), .int .u64 (uv c.vl), .int .u64 (uv c.ch), .int .u64 (uv c.cl)] 27)).alloc (.cells #[.int .u64 (uv d.vh), .int .u64 (uv d.vl), .int .u64 (uv d.ch), .int .u64 (uv d.cl)] 27)) 25 #[.int .u64 (uv hh), .int .u64 (uv hl)]
    show Blk _ _ _ _
    simpa using h
  have HV : Hid (cs ≠ [] → ∃ b off, A = some ⟨b, off, none⟩ ∧ ∀ (k : Nat) (ce : Cb), cs[k]? = some ce → At4 (((w.alloc (.cells #[.int .u64 (uv c.vh), .int .u64 (uv c.vl), .int .u64 (uv c.ch), .int .u64 (uv c.cl)] 27)).alloc (.cells #[.int .u64 (uv d.vh), .int .u64 (uv d.vl), .int .u64 (uv d.ch), .int .u64 (uv d.cl)] 27)).alloc (.cells #[.int .u64 (uv hh), .int .u64 (uv hl)] 25)) b (off + k * 4) ce) := fun h => by
    obtain ⟨A', cap', e, _, h2⟩ := (hv.on hb0).form
    obtain ⟨b, off, h3, _, h4⟩ := h2 h
    injection e with e1 _ _
    exact ⟨b, off, by rw [e1, h3], h4⟩
  have hml : cs.length ≤ maxLen := by
    obtain ⟨_, _, _, h, _⟩ := hv.form
    exact h
  clear hb0 hv
  obtain ⟨n, hn⟩ : ∃ n, cs.length = n := ⟨_, rfl⟩
  rw [hn] at hml ⊢
  have hnz : (n : Int) ≤ 9223372036854775807 := by unfold maxLen at hml; omega
  have HN := Lib.hid hn
  clear hn hml
  go_enter Try.func4, Try.ntmps4
  go_upto_region 1 with (fail)
  generalize (((w.alloc (.cells #[.int .u64 (uv c.vh), .int .u64 (uv c.vl), .int .u64 (uv c.ch), .int .u64 (uv c.cl)] 27)).alloc (.cells #[.int .u64 (uv d.vh), .int .u64 (uv d.vl), .int .u64 (uv d.ch), .int .u64 (uv d.cl)] 27)).alloc (.cells #[.int .u64 (uv hh), .int .u64 (uv hl)] 25)) = wb at HBW HC HD HH HV ⊢
  generalize w.heap.size + 1 + 1 = bh at HH ⊢
  generalize w.heap.size + 1 = bd at HD ⊢
  generalize w.heap.size = bc at HC ⊢
  go_wp2_with fail
  (with_reducible refine (new_c wb).mono ?_)
  rintro e w1 ⟨B, rfl, hT1, hB1, hb1⟩
  obtain ⟨S0, hS0⟩ : ∃ S : Nat → Prop, S = fun y => y = B := ⟨_, rfl⟩
  have HT1 : Hid (One wb.heap.size w1 B [] S0) := by
    subst hS0
    exact ⟨hT1, fun y hy => by have : y = B := hy; omega⟩
  have H1 := Lib.hid hb1
  clear hT1 hB1 hb1 hS0
  go_wp2_with fail
  (with_reducible refine (awake12_c w1).mono ?_)
  rintro e w4 ⟨rfl, hb4⟩
  have HT4 := Lib.hid (HT1.out.on hb4)
  have HB4 := Lib.hid (H1.out.trans (hb4.mono H1.out.size))
  clear hb4 HT1 H1
  go_wp2
  go_loopg [10] 41 (fun gk s10 wr => ∃ (k : Nat) (l : List (Int × Cb)) (S : Nat → Prop), gk + k = 41 ∧ k ≤ 40 ∧ s10 = .int .i64 k ∧ Hid (Below wb.heap.size wb wr) ∧ Hid (One wb.heap.size wr B l S) ∧ Hid (l.length ≤ k))
  case atStart => exact ⟨0, [], S0, by omega, by omega, rfl, HB4, HT4, Nat.le_refl _⟩
  case round =>
    clear HT4 HB4
    obtain ⟨k, l, S, hgk, hk40, rfl, HB, HT, HLK⟩ := hrel
    have HL : Hid (l.length ≤ 1099511627776) := by have := HLK.out; show l.length ≤ _; omega
    by_cases hlt : k < n
    · have hltz : (k : Int) < (n : Int) := by omega
      by_cases h40 : k < 40
      · have h40z : (k : Int) < 40 := by omega
        obtain ⟨ck, hck⟩ : ∃ ck, cs[k]? = some ck := ⟨_, List.getElem?_eq_getElem (by have := HN.out; omega)⟩
        obtain ⟨b, off, rfl, hpc⟩ := HV.out (by intro e; rw [e] at hck; cases hck)
        obtain ⟨c0, c1, c2, c3⟩ := (hpc k ck hck).on HB.out
        have hcall := add_c (k : Int) ck B l S wr (wf_small (by omega) (by omega)) HL.out HT.out.at_
        clear hpc hck
        go_wp2_with fail
        (with_reducible refine hcall.mono ?_)
        rintro e w6 ⟨S6, rfl, q1, q2, q3⟩
        obtain ⟨hT6, hb6⟩ := HT.out.step HB.out.size q1 q2 q3
        have HT6 := Lib.hid hT6
        have HB6 := Lib.hid (HB.out.trans hb6)
        have HL6 : Hid ((addT l (k : Int) ck).length ≤ k + 1) := Nat.le_trans addT_len (by have := HLK.out; omega)
        clear q1 q2 q3 hT6 hb6 hcall c0 c1 c2 c3 HT HB HLK HL
        go_wp2
        go_roundg (41 - (k + 1))
        case measure => omega
        case rel => exact ⟨k + 1, _, _, by omega, by omega, by go_num, HB6, HT6, HL6⟩
      · have h40z : ¬ (k : Int) < 40 := by omega
        clear HV HLK
        cases hp : c.snd with
        | true =>
          have HP := Lib.hid hp
          clear hp
          have x0 := ((HC.out.on HB.out).cell 0).trans rfl
          have x1 := ((HC.out.on HB.out).cell 1).trans rfl
          have x2 := ((HC.out.on HB.out).cell 2).trans rfl
          have x3 := ((HC.out.on HB.out).cell 3).trans rfl
          simp only [List.getElem?_toArray, List.getElem?_cons_succ, List.getElem?_cons_zero] at x0 x1 x2 x3
          go_wp2_with fail
          (with_reducible refine (text_yes c _ HP.out).mono ?_)
          rintro e w5 ⟨rfl, hb⟩
          have hB := Lib.hid (HB.out.trans (hb.mono HB.out.size))
          have hT := Lib.hid (HT.out.on hb)
          clear hb HB HT x0 x1 x2 x3
          have HB := hB
          have HT := hT
          clear hB hT
          obtain ⟨s, hs⟩ : ∃ s, txt c = s := ⟨_, rfl⟩
          rw [hs]
          have HTS := Lib.hid hs
          clear hs
          cases hq : d.snd with
          | true =>
            have HQ := Lib.hid hq
            clear hq
            have x0 := ((HD.out.on HB.out).cell 0).trans rfl
            have x1 := ((HD.out.on HB.out).cell 1).trans rfl
            have x2 := ((HD.out.on HB.out).cell 2).trans rfl
            have x3 := ((HD.out.on HB.out).cell 3).trans rfl
            simp only [List.getElem?_toArray, List.getElem?_cons_succ, List.getElem?_cons_zero] at x0 x1 x2 x3
            go_wp2_with fail
            (with_reducible refine (text_yes d _ HQ.out).mono ?_)
            rintro e w6 ⟨rfl, hb⟩
            have hB := Lib.hid (HB.out.trans (hb.mono HB.out.size))
            have hT := Lib.hid (HT.out.on hb)
            clear hb HB HT x0 x1 x2 x3
            have HB := hB
            have HT := hT
            clear hB hT
            obtain ⟨u, hu⟩ : ∃ u, txt d = u := ⟨_, rfl⟩
            rw [hu]
            have HTU := Lib.hid hu
            clear hu
            go_upto_region 10 with (fail)
            go_cut [15, 16, 17] (fun s15 s16 s17 wd => Below wb.heap.size wb wd ∧ Nm wd s15 (ovS l c) ∧ Nm wd s16 (ovS l d) ∧ Nm wd s17 (mtT l hh hl))
            case first =>
              have HKP : Hid (∀ W, Below wb.heap.size wb W → (Below wb.heap.size wb W ∧ W.cell? ⟨bc, 0, none⟩ = some (.int .u64 (uv c.vh)) ∧ W.cell? ⟨bc, 1, none⟩ = some (.int .u64 (uv c.vl)) ∧ W.cell? ⟨bc, 2, none⟩ = some (.int .u64 (uv c.ch)) ∧ W.cell? ⟨bc, 3, none⟩ = some (.int .u64 (uv c.cl)) ∧ W.cell? ⟨bd, 0, none⟩ = some (.int .u64 (uv d.vh)) ∧ W.cell? ⟨bd, 1, none⟩ = some (.int .u64 (uv d.vl)) ∧ W.cell? ⟨bd, 2, none⟩ = some (.int .u64 (uv d.ch)) ∧ W.cell? ⟨bd, 3, none⟩ = some (.int .u64 (uv d.cl)) ∧ W.cell? ⟨bh, 0, none⟩ = some (.int .u64 (uv hh)) ∧ W.cell? ⟨bh, 1, none⟩ = some (.int .u64 (uv hl)))) := fun W hb => ⟨hb, ((HC.out.on hb).cell 0).trans rfl, ((HC.out.on hb).cell 1).trans rfl, ((HC.out.on hb).cell 2).trans rfl, ((HC.out.on hb).cell 3).trans rfl, ((HD.out.on hb).cell 0).trans rfl, ((HD.out.on hb).cell 1).trans rfl, ((HD.out.on hb).cell 2).trans rfl, ((HD.out.on hb).cell 3).trans rfl, ((HH.out.on hb).cell 0).trans rfl, ((HH.out.on hb).cell 1).trans rfl⟩
              refine wp_region_held_drew (S := fun w' => Below wb.heap.size wb w' ∧ w'.cell? ⟨bc, 0, none⟩ = some (.int .u64 (uv c.vh)) ∧ w'.cell? ⟨bc, 1, none⟩ = some (.int .u64 (uv c.vl)) ∧ w'.cell? ⟨bc, 2, none⟩ = some (.int .u64 (uv c.ch)) ∧ w'.cell? ⟨bc, 3, none⟩ = some (.int .u64 (uv c.cl)) ∧ w'.cell? ⟨bd, 0, none⟩ = some (.int .u64 (uv d.vh)) ∧ w'.cell? ⟨bd, 1, none⟩ = some (.int .u64 (uv d.vl)) ∧ w'.cell? ⟨bd, 2, none⟩ = some (.int .u64 (uv d.ch)) ∧ w'.cell? ⟨bd, 3, none⟩ = some (.int .u64 (uv d.cl)) ∧ w'.cell? ⟨bh, 0, none⟩ = some (.int .u64 (uv hh)) ∧ w'.cell? ⟨bh, 1, none⟩ = some (.int .u64 (uv hl))) (by kernel_rfl) (HKP.out _ HB.out.drew) (fun hHeld => ?_)
              have hB := HB.out.drew
              have tT := HT.out.on ((Below.refl w6.heap.size w6).drew)
              clear HT HB
              generalize w6.drew = u0 at hHeld hB tT ⊢
              refine wpAnyH_take (i := 0) (oi := ⟨some 52, _, _, _, _, _⟩) (v := ?vva10_1) rfl (by kernel_rfl) (by kernel_rfl) (by kernel_rfl) (fun _ _ _ h => h) (Or.inl ⟨by rfl, ?yva10_1⟩) hHeld ?rva10_1
              case yva10_1 => (intro w' hSw; (try dsimp only at hSw); go_simp; try (with_reducible rfl))
              simp only [Act.put, List.setIfInBounds_toArray, List.set_cons_zero, List.set_cons_succ]
              refine wpAnyH_take (i := 1) (oi := ⟨some 53, _, _, _, _, _⟩) (v := ?vva11_2) rfl (by kernel_rfl) (by kernel_rfl) (by kernel_rfl) (fun _ _ _ h => h) (Or.inl ⟨by rfl, ?yva11_2⟩) hHeld ?rva11_2
              case yva11_2 => (intro w' hSw; (try dsimp only at hSw); go_simp; try (with_reducible rfl))
              simp only [Act.put, List.setIfInBounds_toArray, List.set_cons_zero, List.set_cons_succ]
              refine wpAnyH_take (i := 3) (oi := ⟨some 55, _, _, _, _, _⟩) (v := ?vva13_3) rfl (by kernel_rfl) (by kernel_rfl) (by kernel_rfl) (fun _ _ _ h => h) (Or.inl ⟨by rfl, ?yva13_3⟩) hHeld ?rva13_3
              case yva13_3 => (intro w' hSw; (try dsimp only at hSw); go_simp; try (with_reducible rfl))
              simp only [Act.put, List.setIfInBounds_toArray, List.set_cons_zero, List.set_cons_succ]
              refine wpAnyH_take (i := 4) (oi := ⟨some 56, _, _, _, _, _⟩) (v := ?vva14_4) rfl (by kernel_rfl) (by kernel_rfl) (by kernel_rfl) (fun _ _ _ h => h) (Or.inl ⟨by rfl, ?yva14_4⟩) hHeld ?rva14_4
              case yva14_4 => (intro w' hSw; (try dsimp only at hSw); go_simp; try (with_reducible rfl))
              simp only [Act.put, List.setIfInBounds_toArray, List.set_cons_zero, List.set_cons_succ]
              refine wpAnyH_take (i := 6) (oi := ⟨some 58, _, _, _, _, _⟩) (v := ?vva16_5) rfl (by kernel_rfl) (by kernel_rfl) (by kernel_rfl) (fun _ _ _ h => h) (Or.inl ⟨by rfl, ?yva16_5⟩) hHeld ?rva16_5
              case yva16_5 => (intro w' hSw; (try dsimp only at hSw); go_simp; try (with_reducible rfl))
              simp only [Act.put, List.setIfInBounds_toArray, List.set_cons_zero, List.set_cons_succ]
              refine wpAnyH_take (i := 7) (oi := ⟨some 59, _, _, _, _, _⟩) (v := ?vva17_6) rfl (by kernel_rfl) (by kernel_rfl) (by kernel_rfl) (fun _ _ _ h => h) (Or.inl ⟨by rfl, ?yva17_6⟩) hHeld ?rva17_6
              case yva17_6 => (intro w' hSw; (try dsimp only at hSw); go_simp; try (with_reducible rfl))
              simp only [Act.put, List.setIfInBounds_toArray, List.set_cons_zero, List.set_cons_succ]
              refine wpAnyH_ready (rs := [2]) (by kernel_rfl) (by simp) ?_
              refine AllReadyH.cons (o := ⟨some 54, _, _, _, _, _⟩) rfl (fun K hK => ?_) AllReadyH.nil
              go_simp
              (with_reducible refine (ov_c c B l S u0 HL.out tT.at_).mono ?_)
              rintro e u1 ⟨v1, rfl, hv1, hb⟩
              (try dsimp only)
              have hB2 := hB.trans (hb.mono hB.size)
              refine hK.out _ _ (HKP.out _ hB2) (fun hNext => ?_)
              clear hK K hHeld
              have hHeld := hNext
              clear hNext
              clear hB
              have hB := hB2
              clear hB2
              replace tT := tT.on hb
              have n1 := own_Nm hv1
              clear hv1
              clear hb
              try simp only [Act.put, List.setIfInBounds_toArray, List.set_cons_zero, List.set_cons_succ]
              refine wpAnyH_ready (rs := [5]) (by kernel_rfl) (by simp) ?_
              refine AllReadyH.cons (o := ⟨some 57, _, _, _, _, _⟩) rfl (fun K hK => ?_) AllReadyH.nil
              go_simp
              (with_reducible refine (ov_c d B l S u1 HL.out tT.at_).mono ?_)
              rintro e u2 ⟨v2, rfl, hv2, hb⟩
              (try dsimp only)
              have hB2 := hB.trans (hb.mono hB.size)
              refine hK.out _ _ (HKP.out _ hB2) (fun hNext => ?_)
              clear hK K hHeld
              have hHeld := hNext
              clear hNext
              clear hB
              have hB := hB2
              clear hB2
              replace tT := tT.on hb
              replace n1 := n1.on hb
              have n2 := own_Nm hv2
              clear hv2
              clear hb
              try simp only [Act.put, List.setIfInBounds_toArray, List.set_cons_zero, List.set_cons_succ]
              refine wpAnyH_ready (rs := [8]) (by kernel_rfl) (by simp) ?_
              refine AllReadyH.cons (o := ⟨some 60, _, _, _, _, _⟩) rfl (fun K hK => ?_) AllReadyH.nil
              go_simp
              (with_reducible refine (match_c hh hl B l S u2 HL.out tT.at_).mono ?_)
              rintro e u3 ⟨v3, rfl, hv3, hb⟩
              (try dsimp only)
              have hB2 := hB.trans (hb.mono hB.size)
              refine hK.out _ _ (HKP.out _ hB2) (fun hNext => ?_)
              clear hK K hHeld
              have hHeld := hNext
              clear hNext
              clear hB
              have hB := hB2
              clear hB2
              replace tT := tT.on hb
              replace n1 := n1.on hb
              replace n2 := n2.on hb
              have n3 := own_Nm hv3
              clear hv3
              clear hb
              try simp only [Act.put, List.setIfInBounds_toArray, List.set_cons_zero, List.set_cons_succ]
              refine wpAnyH_take (i := 9) (oi := ⟨some 15, _, _, _, _, _⟩) (v := ?vva19_7) rfl (by kernel_rfl) (by kernel_rfl) (by kernel_rfl) (fun _ _ _ h => h) (Or.inl ⟨by rfl, ?yva19_7⟩) hHeld ?rva19_7
              case yva19_7 => (intro w' hSw; (try dsimp only at hSw); go_simp; try (with_reducible rfl))
              simp only [Act.put, List.setIfInBounds_toArray, List.set_cons_zero, List.set_cons_succ]
              refine wpAnyH_take (i := 10) (oi := ⟨some 16, _, _, _, _, _⟩) (v := ?vva110_8) rfl (by kernel_rfl) (by kernel_rfl) (by kernel_rfl) (fun _ _ _ h => h) (Or.inl ⟨by rfl, ?yva110_8⟩) hHeld ?rva110_8
              case yva110_8 => (intro w' hSw; (try dsimp only at hSw); go_simp; try (with_reducible rfl))
              simp only [Act.put, List.setIfInBounds_toArray, List.set_cons_zero, List.set_cons_succ]
              refine wpAnyH_take (i := 11) (oi := ⟨some 17, _, _, _, _, _⟩) (v := ?vva111_9) rfl (by kernel_rfl) (by kernel_rfl) (by kernel_rfl) (fun _ _ _ h => h) (Or.inl ⟨by rfl, ?yva111_9⟩) hHeld ?rva111_9
              case yva111_9 => (intro w' hSw; (try dsimp only at hSw); go_simp; try (with_reducible rfl))
              simp only [Act.put, List.setIfInBounds_toArray, List.set_cons_zero, List.set_cons_succ]
              refine wpAnyH_done (by kernel_rfl) ?_ _
              go_wp2_with fail
              go_meet
              exact ⟨hB, n1, n2, n3⟩
            case rest =>
              obtain ⟨hB, m1, m2, m3⟩ := hcut
              have HM := Lib.hid (And.intro m1 (And.intro m2 m3))
              clear HB HT m1 m2 m3
              have HB := Lib.hid hB
              clear hB
              cases hhas : c.has hh hl with
              | true =>
                have hcall := fun W => rhas_s s c hh hl W HP.out HTS.out
                simp only [hhas] at hcall
                have HHAS := Lib.hid hhas
                clear hhas
                have y0 := ((HH.out.on HB.out).cell 0).trans rfl
                have y1 := ((HH.out.on HB.out).cell 1).trans rfl
                simp only [List.getElem?_toArray, List.getElem?_cons_succ, List.getElem?_cons_zero] at y0 y1
                go_wp2_with fail
                (with_reducible refine (hcall _).mono ?_)
                rintro e wx ⟨rfl, hb⟩
                have hB := Lib.hid (HB.out.trans (hb.mono HB.out.size))
                have HM2 := Lib.hid (And.intro (HM.out.1.on hb) (And.intro (HM.out.2.1.on hb) (HM.out.2.2.on hb)))
                clear hb hcall HB HM y0 y1
                have HB := hB
                have HM := HM2
                clear hB HM2
                have hcall := all_c _ _ _ _ wx (Nat.le_trans (mtT_le _ _ _) HL.out) (Nat.le_trans (ovS_len _ _) HL.out) (inc_mtT l hh hl) (mtT_ovS HP.out HHAS.out) HM.out.2.2 HM.out.1
                go_wp2_with fail
                (with_reducible refine hcall.mono ?_)
                rintro e wy ⟨rfl, hb⟩
                have hB := Lib.hid (HB.out.trans (hb.mono HB.out.size))
                have HM2 := Lib.hid (And.intro (HM.out.1.on hb) (And.intro (HM.out.2.1.on hb) (HM.out.2.2.on hb)))
                clear hb hcall HB HM
                have HB := hB
                have HM := HM2
                clear hB HM2
                cases hw : c.wit d with
                | true =>
                  have hcall := fun W => rwithin_s s u c d W HP.out HQ.out HTS.out HTU.out
                  simp only [hw] at hcall
                  have HW := Lib.hid hw
                  clear hw
                  go_wp2_with fail
                  (with_reducible refine (hcall _).mono ?_)
                  rintro e wx ⟨rfl, hb⟩
                  have hB := Lib.hid (HB.out.trans (hb.mono HB.out.size))
                  have HM2 := Lib.hid (And.intro (HM.out.1.on hb) (And.intro (HM.out.2.1.on hb) (HM.out.2.2.on hb)))
                  clear HM
                  have HM := HM2
                  clear HM2
                  clear hb hcall HB
                  have HB := hB
                  clear hB
                  have hcall := all_c _ _ _ _ wx (Nat.le_trans (ovS_len _ _) HL.out) (Nat.le_trans (ovS_len _ _) HL.out) (inc_ovS l c) (ovS_wit HP.out HQ.out HW.out) HM.out.1 HM.out.2.1
                  go_wp2_with fail
                  (with_reducible refine hcall.mono ?_)
                  rintro e wy ⟨rfl, hb⟩
                  have hB := Lib.hid (HB.out.trans (hb.mono HB.out.size))
                  clear hb hcall HB HM
                  have HB := hB
                  clear hB
                  go_wp2
                  go_ret
                  exact ⟨rfl, HBW.out.trans (HB.out.mono HBW.out.size)⟩
                | false =>
                  have hcall := fun W => rwithin_s s u c d W HP.out HQ.out HTS.out HTU.out
                  simp only [hw] at hcall
                  clear hw
                  go_wp2_with fail
                  (with_reducible refine (hcall _).mono ?_)
                  rintro e wx ⟨rfl, hb⟩
                  have hB := Lib.hid (HB.out.trans (hb.mono HB.out.size))
                  clear hb hcall HB
                  have HB := hB
                  clear hB
                  go_wp2
                  go_ret
                  exact ⟨rfl, HBW.out.trans (HB.out.mono HBW.out.size)⟩
              | false =>
                have hcall := fun W => rhas_s s c hh hl W HP.out HTS.out
                simp only [hhas] at hcall
                have HHAS := Lib.hid hhas
                clear hhas
                have y0 := ((HH.out.on HB.out).cell 0).trans rfl
                have y1 := ((HH.out.on HB.out).cell 1).trans rfl
                simp only [List.getElem?_toArray, List.getElem?_cons_succ, List.getElem?_cons_zero] at y0 y1
                go_wp2_with fail
                (with_reducible refine (hcall _).mono ?_)
                rintro e wx ⟨rfl, hb⟩
                have hB := Lib.hid (HB.out.trans (hb.mono HB.out.size))
                have HM2 := Lib.hid (And.intro (HM.out.1.on hb) (And.intro (HM.out.2.1.on hb) (HM.out.2.2.on hb)))
                clear hb hcall HB HM y0 y1
                have HB := hB
                have HM := HM2
                clear hB HM2
                cases hw : c.wit d with
                | true =>
                  have hcall := fun W => rwithin_s s u c d W HP.out HQ.out HTS.out HTU.out
                  simp only [hw] at hcall
                  have HW := Lib.hid hw
                  clear hw
                  go_wp2_with fail
                  (with_reducible refine (hcall _).mono ?_)
                  rintro e wx ⟨rfl, hb⟩
                  have hB := Lib.hid (HB.out.trans (hb.mono HB.out.size))
                  have HM2 := Lib.hid (And.intro (HM.out.1.on hb) (And.intro (HM.out.2.1.on hb) (HM.out.2.2.on hb)))
                  clear HM
                  have HM := HM2
                  clear HM2
                  clear hb hcall HB
                  have HB := hB
                  clear hB
                  have hcall := all_c _ _ _ _ wx (Nat.le_trans (ovS_len _ _) HL.out) (Nat.le_trans (ovS_len _ _) HL.out) (inc_ovS l c) (ovS_wit HP.out HQ.out HW.out) HM.out.1 HM.out.2.1
                  go_wp2_with fail
                  (with_reducible refine hcall.mono ?_)
                  rintro e wy ⟨rfl, hb⟩
                  have hB := Lib.hid (HB.out.trans (hb.mono HB.out.size))
                  clear hb hcall HB HM
                  have HB := hB
                  clear hB
                  go_wp2
                  go_ret
                  exact ⟨rfl, HBW.out.trans (HB.out.mono HBW.out.size)⟩
                | false =>
                  have hcall := fun W => rwithin_s s u c d W HP.out HQ.out HTS.out HTU.out
                  simp only [hw] at hcall
                  clear hw
                  go_wp2_with fail
                  (with_reducible refine (hcall _).mono ?_)
                  rintro e wx ⟨rfl, hb⟩
                  have hB := Lib.hid (HB.out.trans (hb.mono HB.out.size))
                  clear hb hcall HB
                  have HB := hB
                  clear hB
                  go_wp2
                  go_ret
                  exact ⟨rfl, HBW.out.trans (HB.out.mono HBW.out.size)⟩
          | false =>
            have HQ := Lib.hid hq
            clear hq
            have x0 := ((HD.out.on HB.out).cell 0).trans rfl
            have x1 := ((HD.out.on HB.out).cell 1).trans rfl
            have x2 := ((HD.out.on HB.out).cell 2).trans rfl
            have x3 := ((HD.out.on HB.out).cell 3).trans rfl
            simp only [List.getElem?_toArray, List.getElem?_cons_succ, List.getElem?_cons_zero] at x0 x1 x2 x3
            go_wp2_with fail
            (with_reducible refine (text_no d _ HQ.out).mono ?_)
            rintro e w6 ⟨rfl, hb⟩
            have hB := Lib.hid (HB.out.trans (hb.mono HB.out.size))
            have hT := Lib.hid (HT.out.on hb)
            clear hb HB HT x0 x1 x2 x3
            have HB := hB
            have HT := hT
            clear hB hT
            go_upto_region 10 with (fail)
            go_cut [15, 16, 17] (fun s15 s16 s17 wd => Below wb.heap.size wb wd ∧ Nm wd s15 (ovS l c) ∧ Nm wd s16 (ovS l d) ∧ Nm wd s17 (mtT l hh hl))
            case first =>
              have HKP : Hid (∀ W, Below wb.heap.size wb W → (Below wb.heap.size wb W ∧ W.cell? ⟨bc, 0, none⟩ = some (.int .u64 (uv c.vh)) ∧ W.cell? ⟨bc, 1, none⟩ = some (.int .u64 (uv c.vl)) ∧ W.cell? ⟨bc, 2, none⟩ = some (.int .u64 (uv c.ch)) ∧ W.cell? ⟨bc, 3, none⟩ = some (.int .u64 (uv c.cl)) ∧ W.cell? ⟨bd, 0, none⟩ = some (.int .u64 (uv d.vh)) ∧ W.cell? ⟨bd, 1, none⟩ = some (.int .u64 (uv d.vl)) ∧ W.cell? ⟨bd, 2, none⟩ = some (.int .u64 (uv d.ch)) ∧ W.cell? ⟨bd, 3, none⟩ = some (.int .u64 (uv d.cl)) ∧ W.cell? ⟨bh, 0, none⟩ = some (.int .u64 (uv hh)) ∧ W.cell? ⟨bh, 1, none⟩ = some (.int .u64 (uv hl)))) := fun W hb => ⟨hb, ((HC.out.on hb).cell 0).trans rfl, ((HC.out.on hb).cell 1).trans rfl, ((HC.out.on hb).cell 2).trans rfl, ((HC.out.on hb).cell 3).trans rfl, ((HD.out.on hb).cell 0).trans rfl, ((HD.out.on hb).cell 1).trans rfl, ((HD.out.on hb).cell 2).trans rfl, ((HD.out.on hb).cell 3).trans rfl, ((HH.out.on hb).cell 0).trans rfl, ((HH.out.on hb).cell 1).trans rfl⟩
              refine wp_region_held_drew (S := fun w' => Below wb.heap.size wb w' ∧ w'.cell? ⟨bc, 0, none⟩ = some (.int .u64 (uv c.vh)) ∧ w'.cell? ⟨bc, 1, none⟩ = some (.int .u64 (uv c.vl)) ∧ w'.cell? ⟨bc, 2, none⟩ = some (.int .u64 (uv c.ch)) ∧ w'.cell? ⟨bc, 3, none⟩ = some (.int .u64 (uv c.cl)) ∧ w'.cell? ⟨bd, 0, none⟩ = some (.int .u64 (uv d.vh)) ∧ w'.cell? ⟨bd, 1, none⟩ = some (.int .u64 (uv d.vl)) ∧ w'.cell? ⟨bd, 2, none⟩ = some (.int .u64 (uv d.ch)) ∧ w'.cell? ⟨bd, 3, none⟩ = some (.int .u64 (uv d.cl)) ∧ w'.cell? ⟨bh, 0, none⟩ = some (.int .u64 (uv hh)) ∧ w'.cell? ⟨bh, 1, none⟩ = some (.int .u64 (uv hl))) (by kernel_rfl) (HKP.out _ HB.out.drew) (fun hHeld => ?_)
              have hB := HB.out.drew
              have tT := HT.out.on ((Below.refl w6.heap.size w6).drew)
              clear HT HB
              generalize w6.drew = u0 at hHeld hB tT ⊢
              refine wpAnyH_take (i := 0) (oi := ⟨some 52, _, _, _, _, _⟩) (v := ?vva20_1) rfl (by kernel_rfl) (by kernel_rfl) (by kernel_rfl) (fun _ _ _ h => h) (Or.inl ⟨by rfl, ?yva20_1⟩) hHeld ?rva20_1
              case yva20_1 => (intro w' hSw; (try dsimp only at hSw); go_simp; try (with_reducible rfl))
              simp only [Act.put, List.setIfInBounds_toArray, List.set_cons_zero, List.set_cons_succ]
              refine wpAnyH_take (i := 1) (oi := ⟨some 53, _, _, _, _, _⟩) (v := ?vva21_2) rfl (by kernel_rfl) (by kernel_rfl) (by kernel_rfl) (fun _ _ _ h => h) (Or.inl ⟨by rfl, ?yva21_2⟩) hHeld ?rva21_2
              case yva21_2 => (intro w' hSw; (try dsimp only at hSw); go_simp; try (with_reducible rfl))
              simp only [Act.put, List.setIfInBounds_toArray, List.set_cons_zero, List.set_cons_succ]
              refine wpAnyH_take (i := 3) (oi := ⟨some 55, _, _, _, _, _⟩) (v := ?vva23_3) rfl (by kernel_rfl) (by kernel_rfl) (by kernel_rfl) (fun _ _ _ h => h) (Or.inl ⟨by rfl, ?yva23_3⟩) hHeld ?rva23_3
              case yva23_3 => (intro w' hSw; (try dsimp only at hSw); go_simp; try (with_reducible rfl))
              simp only [Act.put, List.setIfInBounds_toArray, List.set_cons_zero, List.set_cons_succ]
              refine wpAnyH_take (i := 4) (oi := ⟨some 56, _, _, _, _, _⟩) (v := ?vva24_4) rfl (by kernel_rfl) (by kernel_rfl) (by kernel_rfl) (fun _ _ _ h => h) (Or.inl ⟨by rfl, ?yva24_4⟩) hHeld ?rva24_4
              case yva24_4 => (intro w' hSw; (try dsimp only at hSw); go_simp; try (with_reducible rfl))
              simp only [Act.put, List.setIfInBounds_toArray, List.set_cons_zero, List.set_cons_succ]
              refine wpAnyH_take (i := 6) (oi := ⟨some 58, _, _, _, _, _⟩) (v := ?vva26_5) rfl (by kernel_rfl) (by kernel_rfl) (by kernel_rfl) (fun _ _ _ h => h) (Or.inl ⟨by rfl, ?yva26_5⟩) hHeld ?rva26_5
              case yva26_5 => (intro w' hSw; (try dsimp only at hSw); go_simp; try (with_reducible rfl))
              simp only [Act.put, List.setIfInBounds_toArray, List.set_cons_zero, List.set_cons_succ]
              refine wpAnyH_take (i := 7) (oi := ⟨some 59, _, _, _, _, _⟩) (v := ?vva27_6) rfl (by kernel_rfl) (by kernel_rfl) (by kernel_rfl) (fun _ _ _ h => h) (Or.inl ⟨by rfl, ?yva27_6⟩) hHeld ?rva27_6
              case yva27_6 => (intro w' hSw; (try dsimp only at hSw); go_simp; try (with_reducible rfl))
              simp only [Act.put, List.setIfInBounds_toArray, List.set_cons_zero, List.set_cons_succ]
              refine wpAnyH_ready (rs := [2]) (by kernel_rfl) (by simp) ?_
              refine AllReadyH.cons (o := ⟨some 54, _, _, _, _, _⟩) rfl (fun K hK => ?_) AllReadyH.nil
              go_simp
              (with_reducible refine (ov_c c B l S u0 HL.out tT.at_).mono ?_)
              rintro e u1 ⟨v1, rfl, hv1, hb⟩
              (try dsimp only)
              have hB2 := hB.trans (hb.mono hB.size)
              refine hK.out _ _ (HKP.out _ hB2) (fun hNext => ?_)
              clear hK K hHeld
              have hHeld := hNext
              clear hNext
              clear hB
              have hB := hB2
              clear hB2
              replace tT := tT.on hb
              have n1 := own_Nm hv1
              clear hv1
              clear hb
              try simp only [Act.put, List.setIfInBounds_toArray, List.set_cons_zero, List.set_cons_succ]
              refine wpAnyH_ready (rs := [5]) (by kernel_rfl) (by simp) ?_
              refine AllReadyH.cons (o := ⟨some 57, _, _, _, _, _⟩) rfl (fun K hK => ?_) AllReadyH.nil
              go_simp
              (with_reducible refine (ov_c d B l S u1 HL.out tT.at_).mono ?_)
              rintro e u2 ⟨v2, rfl, hv2, hb⟩
              (try dsimp only)
              have hB2 := hB.trans (hb.mono hB.size)
              refine hK.out _ _ (HKP.out _ hB2) (fun hNext => ?_)
              clear hK K hHeld
              have hHeld := hNext
              clear hNext
              clear hB
              have hB := hB2
              clear hB2
              replace tT := tT.on hb
              replace n1 := n1.on hb
              have n2 := own_Nm hv2
              clear hv2
              clear hb
              try simp only [Act.put, List.setIfInBounds_toArray, List.set_cons_zero, List.set_cons_succ]
              refine wpAnyH_ready (rs := [8]) (by kernel_rfl) (by simp) ?_
              refine AllReadyH.cons (o := ⟨some 60, _, _, _, _, _⟩) rfl (fun K hK => ?_) AllReadyH.nil
              go_simp
              (with_reducible refine (match_c hh hl B l S u2 HL.out tT.at_).mono ?_)
              rintro e u3 ⟨v3, rfl, hv3, hb⟩
              (try dsimp only)
              have hB2 := hB.trans (hb.mono hB.size)
              refine hK.out _ _ (HKP.out _ hB2) (fun hNext => ?_)
              clear hK K hHeld
              have hHeld := hNext
              clear hNext
              clear hB
              have hB := hB2
              clear hB2
              replace tT := tT.on hb
              replace n1 := n1.on hb
              replace n2 := n2.on hb
              have n3 := own_Nm hv3
              clear hv3
              clear hb
              try simp only [Act.put, List.setIfInBounds_toArray, List.set_cons_zero, List.set_cons_succ]
              refine wpAnyH_take (i := 9) (oi := ⟨some 15, _, _, _, _, _⟩) (v := ?vva29_7) rfl (by kernel_rfl) (by kernel_rfl) (by kernel_rfl) (fun _ _ _ h => h) (Or.inl ⟨by rfl, ?yva29_7⟩) hHeld ?rva29_7
              case yva29_7 => (intro w' hSw; (try dsimp only at hSw); go_simp; try (with_reducible rfl))
              simp only [Act.put, List.setIfInBounds_toArray, List.set_cons_zero, List.set_cons_succ]
              refine wpAnyH_take (i := 10) (oi := ⟨some 16, _, _, _, _, _⟩) (v := ?vva210_8) rfl (by kernel_rfl) (by kernel_rfl) (by kernel_rfl) (fun _ _ _ h => h) (Or.inl ⟨by rfl, ?yva210_8⟩) hHeld ?rva210_8
              case yva210_8 => (intro w' hSw; (try dsimp only at hSw); go_simp; try (with_reducible rfl))
              simp only [Act.put, List.setIfInBounds_toArray, List.set_cons_zero, List.set_cons_succ]
              refine wpAnyH_take (i := 11) (oi := ⟨some 17, _, _, _, _, _⟩) (v := ?vva211_9) rfl (by kernel_rfl) (by kernel_rfl) (by kernel_rfl) (fun _ _ _ h => h) (Or.inl ⟨by rfl, ?yva211_9⟩) hHeld ?rva211_9
              case yva211_9 => (intro w' hSw; (try dsimp only at hSw); go_simp; try (with_reducible rfl))
              simp only [Act.put, List.setIfInBounds_toArray, List.set_cons_zero, List.set_cons_succ]
              refine wpAnyH_done (by kernel_rfl) ?_ _
              go_wp2_with fail
              go_meet
              exact ⟨hB, n1, n2, n3⟩
            case rest =>
              obtain ⟨hB, m1, m2, m3⟩ := hcut
              have HM := Lib.hid (And.intro m1 (And.intro m2 m3))
              clear HB HT m1 m2 m3
              have HB := Lib.hid hB
              clear hB
              cases hhas : c.has hh hl with
              | true =>
                have hcall := fun W => rhas_s s c hh hl W HP.out HTS.out
                simp only [hhas] at hcall
                have HHAS := Lib.hid hhas
                clear hhas
                have y0 := ((HH.out.on HB.out).cell 0).trans rfl
                have y1 := ((HH.out.on HB.out).cell 1).trans rfl
                simp only [List.getElem?_toArray, List.getElem?_cons_succ, List.getElem?_cons_zero] at y0 y1
                go_wp2_with fail
                (with_reducible refine (hcall _).mono ?_)
                rintro e wx ⟨rfl, hb⟩
                have hB := Lib.hid (HB.out.trans (hb.mono HB.out.size))
                have HM2 := Lib.hid (And.intro (HM.out.1.on hb) (And.intro (HM.out.2.1.on hb) (HM.out.2.2.on hb)))
                clear hb hcall HB HM y0 y1
                have HB := hB
                have HM := HM2
                clear hB HM2
                have hcall := all_c _ _ _ _ wx (Nat.le_trans (mtT_le _ _ _) HL.out) (Nat.le_trans (ovS_len _ _) HL.out) (inc_mtT l hh hl) (mtT_ovS HP.out HHAS.out) HM.out.2.2 HM.out.1
                go_wp2_with fail
                (with_reducible refine hcall.mono ?_)
                rintro e wy ⟨rfl, hb⟩
                have hB := Lib.hid (HB.out.trans (hb.mono HB.out.size))
                have HM2 := Lib.hid (And.intro (HM.out.1.on hb) (And.intro (HM.out.2.1.on hb) (HM.out.2.2.on hb)))
                clear hb hcall HB HM
                have HB := hB
                have HM := HM2
                clear hB HM2
                go_wp2
                go_ret
                exact ⟨rfl, HBW.out.trans (HB.out.mono HBW.out.size)⟩
              | false =>
                have hcall := fun W => rhas_s s c hh hl W HP.out HTS.out
                simp only [hhas] at hcall
                have HHAS := Lib.hid hhas
                clear hhas
                have y0 := ((HH.out.on HB.out).cell 0).trans rfl
                have y1 := ((HH.out.on HB.out).cell 1).trans rfl
                simp only [List.getElem?_toArray, List.getElem?_cons_succ, List.getElem?_cons_zero] at y0 y1
                go_wp2_with fail
                (with_reducible refine (hcall _).mono ?_)
                rintro e wx ⟨rfl, hb⟩
                have hB := Lib.hid (HB.out.trans (hb.mono HB.out.size))
                have HM2 := Lib.hid (And.intro (HM.out.1.on hb) (And.intro (HM.out.2.1.on hb) (HM.out.2.2.on hb)))
                clear hb hcall HB HM y0 y1
                have HB := hB
                have HM := HM2
                clear hB HM2
                go_wp2
                go_ret
                exact ⟨rfl, HBW.out.trans (HB.out.mono HBW.out.size)⟩
        | false =>
          have HP := Lib.hid hp
          clear hp
          have x0 := ((HC.out.on HB.out).cell 0).trans rfl
          have x1 := ((HC.out.on HB.out).cell 1).trans rfl
          have x2 := ((HC.out.on HB.out).cell 2).trans rfl
          have x3 := ((HC.out.on HB.out).cell 3).trans rfl
          simp only [List.getElem?_toArray, List.getElem?_cons_succ, List.getElem?_cons_zero] at x0 x1 x2 x3
          go_wp2_with fail
          (with_reducible refine (text_no c _ HP.out).mono ?_)
          rintro e w5 ⟨rfl, hb⟩
          have hB := Lib.hid (HB.out.trans (hb.mono HB.out.size))
          have hT := Lib.hid (HT.out.on hb)
          clear hb HB HT x0 x1 x2 x3
          have HB := hB
          have HT := hT
          clear hB hT
          cases hq : d.snd with
          | true =>
            have HQ := Lib.hid hq
            clear hq
            have x0 := ((HD.out.on HB.out).cell 0).trans rfl
            have x1 := ((HD.out.on HB.out).cell 1).trans rfl
            have x2 := ((HD.out.on HB.out).cell 2).trans rfl
            have x3 := ((HD.out.on HB.out).cell 3).trans rfl
            simp only [List.getElem?_toArray, List.getElem?_cons_succ, List.getElem?_cons_zero] at x0 x1 x2 x3
            go_wp2_with fail
            (with_reducible refine (text_yes d _ HQ.out).mono ?_)
            rintro e w6 ⟨rfl, hb⟩
            have hB := Lib.hid (HB.out.trans (hb.mono HB.out.size))
            have hT := Lib.hid (HT.out.on hb)
            clear hb HB HT x0 x1 x2 x3
            have HB := hB
            have HT := hT
            clear hB hT
            obtain ⟨u, hu⟩ : ∃ u, txt d = u := ⟨_, rfl⟩
            rw [hu]
            have HTU := Lib.hid hu
            clear hu
            go_upto_region 10 with (fail)
            go_cut [15, 16, 17] (fun s15 s16 s17 wd => Below wb.heap.size wb wd ∧ Nm wd s15 (ovS l c) ∧ Nm wd s16 (ovS l d) ∧ Nm wd s17 (mtT l hh hl))
            case first =>
              have HKP : Hid (∀ W, Below wb.heap.size wb W → (Below wb.heap.size wb W ∧ W.cell? ⟨bc, 0, none⟩ = some (.int .u64 (uv c.vh)) ∧ W.cell? ⟨bc, 1, none⟩ = some (.int .u64 (uv c.vl)) ∧ W.cell? ⟨bc, 2, none⟩ = some (.int .u64 (uv c.ch)) ∧ W.cell? ⟨bc, 3, none⟩ = some (.int .u64 (uv c.cl)) ∧ W.cell? ⟨bd, 0, none⟩ = some (.int .u64 (uv d.vh)) ∧ W.cell? ⟨bd, 1, none⟩ = some (.int .u64 (uv d.vl)) ∧ W.cell? ⟨bd, 2, none⟩ = some (.int .u64 (uv d.ch)) ∧ W.cell? ⟨bd, 3, none⟩ = some (.int .u64 (uv d.cl)) ∧ W.cell? ⟨bh, 0, none⟩ = some (.int .u64 (uv hh)) ∧ W.cell? ⟨bh, 1, none⟩ = some (.int .u64 (uv hl)))) := fun W hb => ⟨hb, ((HC.out.on hb).cell 0).trans rfl, ((HC.out.on hb).cell 1).trans rfl, ((HC.out.on hb).cell 2).trans rfl, ((HC.out.on hb).cell 3).trans rfl, ((HD.out.on hb).cell 0).trans rfl, ((HD.out.on hb).cell 1).trans rfl, ((HD.out.on hb).cell 2).trans rfl, ((HD.out.on hb).cell 3).trans rfl, ((HH.out.on hb).cell 0).trans rfl, ((HH.out.on hb).cell 1).trans rfl⟩
              refine wp_region_held_drew (S := fun w' => Below wb.heap.size wb w' ∧ w'.cell? ⟨bc, 0, none⟩ = some (.int .u64 (uv c.vh)) ∧ w'.cell? ⟨bc, 1, none⟩ = some (.int .u64 (uv c.vl)) ∧ w'.cell? ⟨bc, 2, none⟩ = some (.int .u64 (uv c.ch)) ∧ w'.cell? ⟨bc, 3, none⟩ = some (.int .u64 (uv c.cl)) ∧ w'.cell? ⟨bd, 0, none⟩ = some (.int .u64 (uv d.vh)) ∧ w'.cell? ⟨bd, 1, none⟩ = some (.int .u64 (uv d.vl)) ∧ w'.cell? ⟨bd, 2, none⟩ = some (.int .u64 (uv d.ch)) ∧ w'.cell? ⟨bd, 3, none⟩ = some (.int .u64 (uv d.cl)) ∧ w'.cell? ⟨bh, 0, none⟩ = some (.int .u64 (uv hh)) ∧ w'.cell? ⟨bh, 1, none⟩ = some (.int .u64 (uv hl))) (by kernel_rfl) (HKP.out _ HB.out.drew) (fun hHeld => ?_)
              have hB := HB.out.drew
              have tT := HT.out.on ((Below.refl w6.heap.size w6).drew)
              clear HT HB
              generalize w6.drew = u0 at hHeld hB tT ⊢
              refine wpAnyH_take (i := 0) (oi := ⟨some 52, _, _, _, _, _⟩) (v := ?vva30_1) rfl (by kernel_rfl) (by kernel_rfl) (by kernel_rfl) (fun _ _ _ h => h) (Or.inl ⟨by rfl, ?yva30_1⟩) hHeld ?rva30_1
              case yva30_1 => (intro w' hSw; (try dsimp only at hSw); go_simp; try (with_reducible rfl))
              simp only [Act.put, List.setIfInBounds_toArray, List.set_cons_zero, List.set_cons_succ]
              refine wpAnyH_take (i := 1) (oi := ⟨some 53, _, _, _, _, _⟩) (v := ?vva31_2) rfl (by kernel_rfl) (by kernel_rfl) (by kernel_rfl) (fun _ _ _ h => h) (Or.inl ⟨by rfl, ?yva31_2⟩) hHeld ?rva31_2
              case yva31_2 => (intro w' hSw; (try dsimp only at hSw); go_simp; try (with_reducible rfl))
              simp only [Act.put, List.setIfInBounds_toArray, List.set_cons_zero, List.set_cons_succ]
              refine wpAnyH_take (i := 3) (oi := ⟨some 55, _, _, _, _, _⟩) (v := ?vva33_3) rfl (by kernel_rfl) (by kernel_rfl) (by kernel_rfl) (fun _ _ _ h => h) (Or.inl ⟨by rfl, ?yva33_3⟩) hHeld ?rva33_3
              case yva33_3 => (intro w' hSw; (try dsimp only at hSw); go_simp; try (with_reducible rfl))
              simp only [Act.put, List.setIfInBounds_toArray, List.set_cons_zero, List.set_cons_succ]
              refine wpAnyH_take (i := 4) (oi := ⟨some 56, _, _, _, _, _⟩) (v := ?vva34_4) rfl (by kernel_rfl) (by kernel_rfl) (by kernel_rfl) (fun _ _ _ h => h) (Or.inl ⟨by rfl, ?yva34_4⟩) hHeld ?rva34_4
              case yva34_4 => (intro w' hSw; (try dsimp only at hSw); go_simp; try (with_reducible rfl))
              simp only [Act.put, List.setIfInBounds_toArray, List.set_cons_zero, List.set_cons_succ]
              refine wpAnyH_take (i := 6) (oi := ⟨some 58, _, _, _, _, _⟩) (v := ?vva36_5) rfl (by kernel_rfl) (by kernel_rfl) (by kernel_rfl) (fun _ _ _ h => h) (Or.inl ⟨by rfl, ?yva36_5⟩) hHeld ?rva36_5
              case yva36_5 => (intro w' hSw; (try dsimp only at hSw); go_simp; try (with_reducible rfl))
              simp only [Act.put, List.setIfInBounds_toArray, List.set_cons_zero, List.set_cons_succ]
              refine wpAnyH_take (i := 7) (oi := ⟨some 59, _, _, _, _, _⟩) (v := ?vva37_6) rfl (by kernel_rfl) (by kernel_rfl) (by kernel_rfl) (fun _ _ _ h => h) (Or.inl ⟨by rfl, ?yva37_6⟩) hHeld ?rva37_6
              case yva37_6 => (intro w' hSw; (try dsimp only at hSw); go_simp; try (with_reducible rfl))
              simp only [Act.put, List.setIfInBounds_toArray, List.set_cons_zero, List.set_cons_succ]
              refine wpAnyH_ready (rs := [2]) (by kernel_rfl) (by simp) ?_
              refine AllReadyH.cons (o := ⟨some 54, _, _, _, _, _⟩) rfl (fun K hK => ?_) AllReadyH.nil
              go_simp
              (with_reducible refine (ov_c c B l S u0 HL.out tT.at_).mono ?_)
              rintro e u1 ⟨v1, rfl, hv1, hb⟩
              (try dsimp only)
              have hB2 := hB.trans (hb.mono hB.size)
              refine hK.out _ _ (HKP.out _ hB2) (fun hNext => ?_)
              clear hK K hHeld
              have hHeld := hNext
              clear hNext
              clear hB
              have hB := hB2
              clear hB2
              replace tT := tT.on hb
              have n1 := own_Nm hv1
              clear hv1
              clear hb
              try simp only [Act.put, List.setIfInBounds_toArray, List.set_cons_zero, List.set_cons_succ]
              refine wpAnyH_ready (rs := [5]) (by kernel_rfl) (by simp) ?_
              refine AllReadyH.cons (o := ⟨some 57, _, _, _, _, _⟩) rfl (fun K hK => ?_) AllReadyH.nil
              go_simp
              (with_reducible refine (ov_c d B l S u1 HL.out tT.at_).mono ?_)
              rintro e u2 ⟨v2, rfl, hv2, hb⟩
              (try dsimp only)
              have hB2 := hB.trans (hb.mono hB.size)
              refine hK.out _ _ (HKP.out _ hB2) (fun hNext => ?_)
              clear hK K hHeld
              have hHeld := hNext
              clear hNext
              clear hB
              have hB := hB2
              clear hB2
              replace tT := tT.on hb
              replace n1 := n1.on hb
              have n2 := own_Nm hv2
              clear hv2
              clear hb
              try simp only [Act.put, List.setIfInBounds_toArray, List.set_cons_zero, List.set_cons_succ]
              refine wpAnyH_ready (rs := [8]) (by kernel_rfl) (by simp) ?_
              refine AllReadyH.cons (o := ⟨some 60, _, _, _, _, _⟩) rfl (fun K hK => ?_) AllReadyH.nil
              go_simp
              (with_reducible refine (match_c hh hl B l S u2 HL.out tT.at_).mono ?_)
              rintro e u3 ⟨v3, rfl, hv3, hb⟩
              (try dsimp only)
              have hB2 := hB.trans (hb.mono hB.size)
              refine hK.out _ _ (HKP.out _ hB2) (fun hNext => ?_)
              clear hK K hHeld
              have hHeld := hNext
              clear hNext
              clear hB
              have hB := hB2
              clear hB2
              replace tT := tT.on hb
              replace n1 := n1.on hb
              replace n2 := n2.on hb
              have n3 := own_Nm hv3
              clear hv3
              clear hb
              try simp only [Act.put, List.setIfInBounds_toArray, List.set_cons_zero, List.set_cons_succ]
              refine wpAnyH_take (i := 9) (oi := ⟨some 15, _, _, _, _, _⟩) (v := ?vva39_7) rfl (by kernel_rfl) (by kernel_rfl) (by kernel_rfl) (fun _ _ _ h => h) (Or.inl ⟨by rfl, ?yva39_7⟩) hHeld ?rva39_7
              case yva39_7 => (intro w' hSw; (try dsimp only at hSw); go_simp; try (with_reducible rfl))
              simp only [Act.put, List.setIfInBounds_toArray, List.set_cons_zero, List.set_cons_succ]
              refine wpAnyH_take (i := 10) (oi := ⟨some 16, _, _, _, _, _⟩) (v := ?vva310_8) rfl (by kernel_rfl) (by kernel_rfl) (by kernel_rfl) (fun _ _ _ h => h) (Or.inl ⟨by rfl, ?yva310_8⟩) hHeld ?rva310_8
              case yva310_8 => (intro w' hSw; (try dsimp only at hSw); go_simp; try (with_reducible rfl))
              simp only [Act.put, List.setIfInBounds_toArray, List.set_cons_zero, List.set_cons_succ]
              refine wpAnyH_take (i := 11) (oi := ⟨some 17, _, _, _, _, _⟩) (v := ?vva311_9) rfl (by kernel_rfl) (by kernel_rfl) (by kernel_rfl) (fun _ _ _ h => h) (Or.inl ⟨by rfl, ?yva311_9⟩) hHeld ?rva311_9
              case yva311_9 => (intro w' hSw; (try dsimp only at hSw); go_simp; try (with_reducible rfl))
              simp only [Act.put, List.setIfInBounds_toArray, List.set_cons_zero, List.set_cons_succ]
              refine wpAnyH_done (by kernel_rfl) ?_ _
              go_wp2_with fail
              go_meet
              exact ⟨hB, n1, n2, n3⟩
            case rest =>
              obtain ⟨hB, m1, m2, m3⟩ := hcut
              have HM := Lib.hid (And.intro m1 (And.intro m2 m3))
              clear HB HT m1 m2 m3
              have HB := Lib.hid hB
              clear hB
              go_wp2
              go_ret
              exact ⟨rfl, HBW.out.trans (HB.out.mono HBW.out.size)⟩
          | false =>
            have HQ := Lib.hid hq
            clear hq
            have x0 := ((HD.out.on HB.out).cell 0).trans rfl
            have x1 := ((HD.out.on HB.out).cell 1).trans rfl
            have x2 := ((HD.out.on HB.out).cell 2).trans rfl
            have x3 := ((HD.out.on HB.out).cell 3).trans rfl
            simp only [List.getElem?_toArray, List.getElem?_cons_succ, List.getElem?_cons_zero] at x0 x1 x2 x3
            go_wp2_with fail
            (with_reducible refine (text_no d _ HQ.out).mono ?_)
            rintro e w6 ⟨rfl, hb⟩
            have hB := Lib.hid (HB.out.trans (hb.mono HB.out.size))
            have hT := Lib.hid (HT.out.on hb)
            clear hb HB HT x0 x1 x2 x3
            have HB := hB
            have HT := hT
            clear hB hT
            go_upto_region 10 with (fail)
            go_cut [15, 16, 17] (fun s15 s16 s17 wd => Below wb.heap.size wb wd ∧ Nm wd s15 (ovS l c) ∧ Nm wd s16 (ovS l d) ∧ Nm wd s17 (mtT l hh hl))
            case first =>
              have HKP : Hid (∀ W, Below wb.heap.size wb W → (Below wb.heap.size wb W ∧ W.cell? ⟨bc, 0, none⟩ = some (.int .u64 (uv c.vh)) ∧ W.cell? ⟨bc, 1, none⟩ = some (.int .u64 (uv c.vl)) ∧ W.cell? ⟨bc, 2, none⟩ = some (.int .u64 (uv c.ch)) ∧ W.cell? ⟨bc, 3, none⟩ = some (.int .u64 (uv c.cl)) ∧ W.cell? ⟨bd, 0, none⟩ = some (.int .u64 (uv d.vh)) ∧ W.cell? ⟨bd, 1, none⟩ = some (.int .u64 (uv d.vl)) ∧ W.cell? ⟨bd, 2, none⟩ = some (.int .u64 (uv d.ch)) ∧ W.cell? ⟨bd, 3, none⟩ = some (.int .u64 (uv d.cl)) ∧ W.cell? ⟨bh, 0, none⟩ = some (.int .u64 (uv hh)) ∧ W.cell? ⟨bh, 1, none⟩ = some (.int .u64 (uv hl)))) := fun W hb => ⟨hb, ((HC.out.on hb).cell 0).trans rfl, ((HC.out.on hb).cell 1).trans rfl, ((HC.out.on hb).cell 2).trans rfl, ((HC.out.on hb).cell 3).trans rfl, ((HD.out.on hb).cell 0).trans rfl, ((HD.out.on hb).cell 1).trans rfl, ((HD.out.on hb).cell 2).trans rfl, ((HD.out.on hb).cell 3).trans rfl, ((HH.out.on hb).cell 0).trans rfl, ((HH.out.on hb).cell 1).trans rfl⟩
              refine wp_region_held_drew (S := fun w' => Below wb.heap.size wb w' ∧ w'.cell? ⟨bc, 0, none⟩ = some (.int .u64 (uv c.vh)) ∧ w'.cell? ⟨bc, 1, none⟩ = some (.int .u64 (uv c.vl)) ∧ w'.cell? ⟨bc, 2, none⟩ = some (.int .u64 (uv c.ch)) ∧ w'.cell? ⟨bc, 3, none⟩ = some (.int .u64 (uv c.cl)) ∧ w'.cell? ⟨bd, 0, none⟩ = some (.int .u64 (uv d.vh)) ∧ w'.cell? ⟨bd, 1, none⟩ = some (.int .u64 (uv d.vl)) ∧ w'.cell? ⟨bd, 2, none⟩ = some (.int .u64 (uv d.ch)) ∧ w'.cell? ⟨bd, 3, none⟩ = some (.int .u64 (uv d.cl)) ∧ w'.cell? ⟨bh, 0, none⟩ = some (.int .u64 (uv hh)) ∧ w'.cell? ⟨bh, 1, none⟩ = some (.int .u64 (uv hl))) (by kernel_rfl) (HKP.out _ HB.out.drew) (fun hHeld => ?_)
              have hB := HB.out.drew
              have tT := HT.out.on ((Below.refl w6.heap.size w6).drew)
              clear HT HB
              generalize w6.drew = u0 at hHeld hB tT ⊢
              refine wpAnyH_take (i := 0) (oi := ⟨some 52, _, _, _, _, _⟩) (v := ?vva40_1) rfl (by kernel_rfl) (by kernel_rfl) (by kernel_rfl) (fun _ _ _ h => h) (Or.inl ⟨by rfl, ?yva40_1⟩) hHeld ?rva40_1
              case yva40_1 => (intro w' hSw; (try dsimp only at hSw); go_simp; try (with_reducible rfl))
              simp only [Act.put, List.setIfInBounds_toArray, List.set_cons_zero, List.set_cons_succ]
              refine wpAnyH_take (i := 1) (oi := ⟨some 53, _, _, _, _, _⟩) (v := ?vva41_2) rfl (by kernel_rfl) (by kernel_rfl) (by kernel_rfl) (fun _ _ _ h => h) (Or.inl ⟨by rfl, ?yva41_2⟩) hHeld ?rva41_2
              case yva41_2 => (intro w' hSw; (try dsimp only at hSw); go_simp; try (with_reducible rfl))
              simp only [Act.put, List.setIfInBounds_toArray, List.set_cons_zero, List.set_cons_succ]
              refine wpAnyH_take (i := 3) (oi := ⟨some 55, _, _, _, _, _⟩) (v := ?vva43_3) rfl (by kernel_rfl) (by kernel_rfl) (by kernel_rfl) (fun _ _ _ h => h) (Or.inl ⟨by rfl, ?yva43_3⟩) hHeld ?rva43_3
              case yva43_3 => (intro w' hSw; (try dsimp only at hSw); go_simp; try (with_reducible rfl))
              simp only [Act.put, List.setIfInBounds_toArray, List.set_cons_zero, List.set_cons_succ]
              refine wpAnyH_take (i := 4) (oi := ⟨some 56, _, _, _, _, _⟩) (v := ?vva44_4) rfl (by kernel_rfl) (by kernel_rfl) (by kernel_rfl) (fun _ _ _ h => h) (Or.inl ⟨by rfl, ?yva44_4⟩) hHeld ?rva44_4
              case yva44_4 => (intro w' hSw; (try dsimp only at hSw); go_simp; try (with_reducible rfl))
              simp only [Act.put, List.setIfInBounds_toArray, List.set_cons_zero, List.set_cons_succ]
              refine wpAnyH_take (i := 6) (oi := ⟨some 58, _, _, _, _, _⟩) (v := ?vva46_5) rfl (by kernel_rfl) (by kernel_rfl) (by kernel_rfl) (fun _ _ _ h => h) (Or.inl ⟨by rfl, ?yva46_5⟩) hHeld ?rva46_5
              case yva46_5 => (intro w' hSw; (try dsimp only at hSw); go_simp; try (with_reducible rfl))
              simp only [Act.put, List.setIfInBounds_toArray, List.set_cons_zero, List.set_cons_succ]
              refine wpAnyH_take (i := 7) (oi := ⟨some 59, _, _, _, _, _⟩) (v := ?vva47_6) rfl (by kernel_rfl) (by kernel_rfl) (by kernel_rfl) (fun _ _ _ h => h) (Or.inl ⟨by rfl, ?yva47_6⟩) hHeld ?rva47_6
              case yva47_6 => (intro w' hSw; (try dsimp only at hSw); go_simp; try (with_reducible rfl))
              simp only [Act.put, List.setIfInBounds_toArray, List.set_cons_zero, List.set_cons_succ]
              refine wpAnyH_ready (rs := [2]) (by kernel_rfl) (by simp) ?_
              refine AllReadyH.cons (o := ⟨some 54, _, _, _, _, _⟩) rfl (fun K hK => ?_) AllReadyH.nil
              go_simp
              (with_reducible refine (ov_c c B l S u0 HL.out tT.at_).mono ?_)
              rintro e u1 ⟨v1, rfl, hv1, hb⟩
              (try dsimp only)
              have hB2 := hB.trans (hb.mono hB.size)
              refine hK.out _ _ (HKP.out _ hB2) (fun hNext => ?_)
              clear hK K hHeld
              have hHeld := hNext
              clear hNext
              clear hB
              have hB := hB2
              clear hB2
              replace tT := tT.on hb
              have n1 := own_Nm hv1
              clear hv1
              clear hb
              try simp only [Act.put, List.setIfInBounds_toArray, List.set_cons_zero, List.set_cons_succ]
              refine wpAnyH_ready (rs := [5]) (by kernel_rfl) (by simp) ?_
              refine AllReadyH.cons (o := ⟨some 57, _, _, _, _, _⟩) rfl (fun K hK => ?_) AllReadyH.nil
              go_simp
              (with_reducible refine (ov_c d B l S u1 HL.out tT.at_).mono ?_)
              rintro e u2 ⟨v2, rfl, hv2, hb⟩
              (try dsimp only)
              have hB2 := hB.trans (hb.mono hB.size)
              refine hK.out _ _ (HKP.out _ hB2) (fun hNext => ?_)
              clear hK K hHeld
              have hHeld := hNext
              clear hNext
              clear hB
              have hB := hB2
              clear hB2
              replace tT := tT.on hb
              replace n1 := n1.on hb
              have n2 := own_Nm hv2
              clear hv2
              clear hb
              try simp only [Act.put, List.setIfInBounds_toArray, List.set_cons_zero, List.set_cons_succ]
              refine wpAnyH_ready (rs := [8]) (by kernel_rfl) (by simp) ?_
              refine AllReadyH.cons (o := ⟨some 60, _, _, _, _, _⟩) rfl (fun K hK => ?_) AllReadyH.nil
              go_simp
              (with_reducible refine (match_c hh hl B l S u2 HL.out tT.at_).mono ?_)
              rintro e u3 ⟨v3, rfl, hv3, hb⟩
              (try dsimp only)
              have hB2 := hB.trans (hb.mono hB.size)
              refine hK.out _ _ (HKP.out _ hB2) (fun hNext => ?_)
              clear hK K hHeld
              have hHeld := hNext
              clear hNext
              clear hB
              have hB := hB2
              clear hB2
              replace tT := tT.on hb
              replace n1 := n1.on hb
              replace n2 := n2.on hb
              have n3 := own_Nm hv3
              clear hv3
              clear hb
              try simp only [Act.put, List.setIfInBounds_toArray, List.set_cons_zero, List.set_cons_succ]
              refine wpAnyH_take (i := 9) (oi := ⟨some 15, _, _, _, _, _⟩) (v := ?vva49_7) rfl (by kernel_rfl) (by kernel_rfl) (by kernel_rfl) (fun _ _ _ h => h) (Or.inl ⟨by rfl, ?yva49_7⟩) hHeld ?rva49_7
              case yva49_7 => (intro w' hSw; (try dsimp only at hSw); go_simp; try (with_reducible rfl))
              simp only [Act.put, List.setIfInBounds_toArray, List.set_cons_zero, List.set_cons_succ]
              refine wpAnyH_take (i := 10) (oi := ⟨some 16, _, _, _, _, _⟩) (v := ?vva410_8) rfl (by kernel_rfl) (by kernel_rfl) (by kernel_rfl) (fun _ _ _ h => h) (Or.inl ⟨by rfl, ?yva410_8⟩) hHeld ?rva410_8
              case yva410_8 => (intro w' hSw; (try dsimp only at hSw); go_simp; try (with_reducible rfl))
              simp only [Act.put, List.setIfInBounds_toArray, List.set_cons_zero, List.set_cons_succ]
              refine wpAnyH_take (i := 11) (oi := ⟨some 17, _, _, _, _, _⟩) (v := ?vva411_9) rfl (by kernel_rfl) (by kernel_rfl) (by kernel_rfl) (fun _ _ _ h => h) (Or.inl ⟨by rfl, ?yva411_9⟩) hHeld ?rva411_9
              case yva411_9 => (intro w' hSw; (try dsimp only at hSw); go_simp; try (with_reducible rfl))
              simp only [Act.put, List.setIfInBounds_toArray, List.set_cons_zero, List.set_cons_succ]
              refine wpAnyH_done (by kernel_rfl) ?_ _
              go_wp2_with fail
              go_meet
              exact ⟨hB, n1, n2, n3⟩
            case rest =>
              obtain ⟨hB, m1, m2, m3⟩ := hcut
              have HM := Lib.hid (And.intro m1 (And.intro m2 m3))
              clear HB HT m1 m2 m3
              have HB := Lib.hid hB
              clear hB
              go_wp2
              go_ret
              exact ⟨rfl, HBW.out.trans (HB.out.mono HBW.out.size)⟩
    · have hltz : ¬ (k : Int) < (n : Int) := by omega
      clear HV HLK
      cases hp : c.snd with
      | true =>
        have HP := Lib.hid hp
        clear hp
        have x0 := ((HC.out.on HB.out).cell 0).trans rfl
        have x1 := ((HC.out.on HB.out).cell 1).trans rfl
        have x2 := ((HC.out.on HB.out).cell 2).trans rfl
        have x3 := ((HC.out.on HB.out).cell 3).trans rfl
        simp only [List.getElem?_toArray, List.getElem?_cons_succ, List.getElem?_cons_zero] at x0 x1 x2 x3
        go_wp2_with fail
        (with_reducible refine (text_yes c _ HP.out).mono ?_)
        rintro e w5 ⟨rfl, hb⟩
        have hB := Lib.hid (HB.out.trans (hb.mono HB.out.size))
        have hT := Lib.hid (HT.out.on hb)
        clear hb HB HT x0 x1 x2 x3
        have HB := hB
        have HT := hT
        clear hB hT
        obtain ⟨s, hs⟩ : ∃ s, txt c = s := ⟨_, rfl⟩
        rw [hs]
        have HTS := Lib.hid hs
        clear hs
        cases hq : d.snd with
        | true =>
          have HQ := Lib.hid hq
          clear hq
          have x0 := ((HD.out.on HB.out).cell 0).trans rfl
          have x1 := ((HD.out.on HB.out).cell 1).trans rfl
          have x2 := ((HD.out.on HB.out).cell 2).trans rfl
          have x3 := ((HD.out.on HB.out).cell 3).trans rfl
          simp only [List.getElem?_toArray, List.getElem?_cons_succ, List.getElem?_cons_zero] at x0 x1 x2 x3
          go_wp2_with fail
          (with_reducible refine (text_yes d _ HQ.out).mono ?_)
          rintro e w6 ⟨rfl, hb⟩
          have hB := Lib.hid (HB.out.trans (hb.mono HB.out.size))
          have hT := Lib.hid (HT.out.on hb)
          clear hb HB HT x0 x1 x2 x3
          have HB := hB
          have HT := hT
          clear hB hT
          obtain ⟨u, hu⟩ : ∃ u, txt d = u := ⟨_, rfl⟩
          rw [hu]
          have HTU := Lib.hid hu
          clear hu
          go_upto_region 10 with (fail)
          go_cut [15, 16, 17] (fun s15 s16 s17 wd => Below wb.heap.size wb wd ∧ Nm wd s15 (ovS l c) ∧ Nm wd s16 (ovS l d) ∧ Nm wd s17 (mtT l hh hl))
          case first =>
            have HKP : Hid (∀ W, Below wb.heap.size wb W → (Below wb.heap.size wb W ∧ W.cell? ⟨bc, 0, none⟩ = some (.int .u64 (uv c.vh)) ∧ W.cell? ⟨bc, 1, none⟩ = some (.int .u64 (uv c.vl)) ∧ W.cell? ⟨bc, 2, none⟩ = some (.int .u64 (uv c.ch)) ∧ W.cell? ⟨bc, 3, none⟩ = some (.int .u64 (uv c.cl)) ∧ W.cell? ⟨bd, 0, none⟩ = some (.int .u64 (uv d.vh)) ∧ W.cell? ⟨bd, 1, none⟩ = some (.int .u64 (uv d.vl)) ∧ W.cell? ⟨bd, 2, none⟩ = some (.int .u64 (uv d.ch)) ∧ W.cell? ⟨bd, 3, none⟩ = some (.int .u64 (uv d.cl)) ∧ W.cell? ⟨bh, 0, none⟩ = some (.int .u64 (uv hh)) ∧ W.cell? ⟨bh, 1, none⟩ = some (.int .u64 (uv hl)))) := fun W hb => ⟨hb, ((HC.out.on hb).cell 0).trans rfl, ((HC.out.on hb).cell 1).trans rfl, ((HC.out.on hb).cell 2).trans rfl, ((HC.out.on hb).cell 3).trans rfl, ((HD.out.on hb).cell 0).trans rfl, ((HD.out.on hb).cell 1).trans rfl, ((HD.out.on hb).cell 2).trans rfl, ((HD.out.on hb).cell 3).trans rfl, ((HH.out.on hb).cell 0).trans rfl, ((HH.out.on hb).cell 1).trans rfl⟩
            refine wp_region_held_drew (S := fun w' => Below wb.heap.size wb w' ∧ w'.cell? ⟨bc, 0, none⟩ = some (.int .u64 (uv c.vh)) ∧ w'.cell? ⟨bc, 1, none⟩ = some (.int .u64 (uv c.vl)) ∧ w'.cell? ⟨bc, 2, none⟩ = some (.int .u64 (uv c.ch)) ∧ w'.cell? ⟨bc, 3, none⟩ = some (.int .u64 (uv c.cl)) ∧ w'.cell? ⟨bd, 0, none⟩ = some (.int .u64 (uv d.vh)) ∧ w'.cell? ⟨bd, 1, none⟩ = some (.int .u64 (uv d.vl)) ∧ w'.cell? ⟨bd, 2, none⟩ = some (.int .u64 (uv d.ch)) ∧ w'.cell? ⟨bd, 3, none⟩ = some (.int .u64 (uv d.cl)) ∧ w'.cell? ⟨bh, 0, none⟩ = some (.int .u64 (uv hh)) ∧ w'.cell? ⟨bh, 1, none⟩ = some (.int .u64 (uv hl))) (by kernel_rfl) (HKP.out _ HB.out.drew) (fun hHeld => ?_)
            have hB := HB.out.drew
            have tT := HT.out.on ((Below.refl w6.heap.size w6).drew)
            clear HT HB
            generalize w6.drew = u0 at hHeld hB tT ⊢
            refine wpAnyH_take (i := 0) (oi := ⟨some 52, _, _, _, _, _⟩) (v := ?vvb50_1) rfl (by kernel_rfl) (by kernel_rfl) (by kernel_rfl) (fun _ _ _ h => h) (Or.inl ⟨by rfl, ?yvb50_1⟩) hHeld ?rvb50_1
            case yvb50_1 => (intro w' hSw; (try dsimp only at hSw); go_simp; try (with_reducible rfl))
            simp only [Act.put, List.setIfInBounds_toArray, List.set_cons_zero, List.set_cons_succ]
            refine wpAnyH_take (i := 1) (oi := ⟨some 53, _, _, _, _, _⟩) (v := ?vvb51_2) rfl (by kernel_rfl) (by kernel_rfl) (by kernel_rfl) (fun _ _ _ h => h) (Or.inl ⟨by rfl, ?yvb51_2⟩) hHeld ?rvb51_2
            case yvb51_2 => (intro w' hSw; (try dsimp only at hSw); go_simp; try (with_reducible rfl))
            simp only [Act.put, List.setIfInBounds_toArray, List.set_cons_zero, List.set_cons_succ]
            refine wpAnyH_take (i := 3) (oi := ⟨some 55, _, _, _, _, _⟩) (v := ?vvb53_3) rfl (by kernel_rfl) (by kernel_rfl) (by kernel_rfl) (fun _ _ _ h => h) (Or.inl ⟨by rfl, ?yvb53_3⟩) hHeld ?rvb53_3
            case yvb53_3 => (intro w' hSw; (try dsimp only at hSw); go_simp; try (with_reducible rfl))
            simp only [Act.put, List.setIfInBounds_toArray, List.set_cons_zero, List.set_cons_succ]
            refine wpAnyH_take (i := 4) (oi := ⟨some 56, _, _, _, _, _⟩) (v := ?vvb54_4) rfl (by kernel_rfl) (by kernel_rfl) (by kernel_rfl) (fun _ _ _ h => h) (Or.inl ⟨by rfl, ?yvb54_4⟩) hHeld ?rvb54_4
            case yvb54_4 => (intro w' hSw; (try dsimp only at hSw); go_simp; try (with_reducible rfl))
            simp only [Act.put, List.setIfInBounds_toArray, List.set_cons_zero, List.set_cons_succ]
            refine wpAnyH_take (i := 6) (oi := ⟨some 58, _, _, _, _, _⟩) (v := ?vvb56_5) rfl (by kernel_rfl) (by kernel_rfl) (by kernel_rfl) (fun _ _ _ h => h) (Or.inl ⟨by rfl, ?yvb56_5⟩) hHeld ?rvb56_5
            case yvb56_5 => (intro w' hSw; (try dsimp only at hSw); go_simp; try (with_reducible rfl))
            simp only [Act.put, List.setIfInBounds_toArray, List.set_cons_zero, List.set_cons_succ]
            refine wpAnyH_take (i := 7) (oi := ⟨some 59, _, _, _, _, _⟩) (v := ?vvb57_6) rfl (by kernel_rfl) (by kernel_rfl) (by kernel_rfl) (fun _ _ _ h => h) (Or.inl ⟨by rfl, ?yvb57_6⟩) hHeld ?rvb57_6
            case yvb57_6 => (intro w' hSw; (try dsimp only at hSw); go_simp; try (with_reducible rfl))
            simp only [Act.put, List.setIfInBounds_toArray, List.set_cons_zero, List.set_cons_succ]
            refine wpAnyH_ready (rs := [2]) (by kernel_rfl) (by simp) ?_
            refine AllReadyH.cons (o := ⟨some 54, _, _, _, _, _⟩) rfl (fun K hK => ?_) AllReadyH.nil
            go_simp
            (with_reducible refine (ov_c c B l S u0 HL.out tT.at_).mono ?_)
            rintro e u1 ⟨v1, rfl, hv1, hb⟩
            (try dsimp only)
            have hB2 := hB.trans (hb.mono hB.size)
            refine hK.out _ _ (HKP.out _ hB2) (fun hNext => ?_)
            clear hK K hHeld
            have hHeld := hNext
            clear hNext
            clear hB
            have hB := hB2
            clear hB2
            replace tT := tT.on hb
            have n1 := own_Nm hv1
            clear hv1
            clear hb
            try simp only [Act.put, List.setIfInBounds_toArray, List.set_cons_zero, List.set_cons_succ]
            refine wpAnyH_ready (rs := [5]) (by kernel_rfl) (by simp) ?_
            refine AllReadyH.cons (o := ⟨some 57, _, _, _, _, _⟩) rfl (fun K hK => ?_) AllReadyH.nil
            go_simp
            (with_reducible refine (ov_c d B l S u1 HL.out tT.at_).mono ?_)
            rintro e u2 ⟨v2, rfl, hv2, hb⟩
            (try dsimp only)
            have hB2 := hB.trans (hb.mono hB.size)
            refine hK.out _ _ (HKP.out _ hB2) (fun hNext => ?_)
            clear hK K hHeld
            have hHeld := hNext
            clear hNext
            clear hB
            have hB := hB2
            clear hB2
            replace tT := tT.on hb
            replace n1 := n1.on hb
            have n2 := own_Nm hv2
            clear hv2
            clear hb
            try simp only [Act.put, List.setIfInBounds_toArray, List.set_cons_zero, List.set_cons_succ]
            refine wpAnyH_ready (rs := [8]) (by kernel_rfl) (by simp) ?_
            refine AllReadyH.cons (o := ⟨some 60, _, _, _, _, _⟩) rfl (fun K hK => ?_) AllReadyH.nil
            go_simp
            (with_reducible refine (match_c hh hl B l S u2 HL.out tT.at_).mono ?_)
            rintro e u3 ⟨v3, rfl, hv3, hb⟩
            (try dsimp only)
            have hB2 := hB.trans (hb.mono hB.size)
            refine hK.out _ _ (HKP.out _ hB2) (fun hNext => ?_)
            clear hK K hHeld
            have hHeld := hNext
            clear hNext
            clear hB
            have hB := hB2
            clear hB2
            replace tT := tT.on hb
            replace n1 := n1.on hb
            replace n2 := n2.on hb
            have n3 := own_Nm hv3
            clear hv3
            clear hb
            try simp only [Act.put, List.setIfInBounds_toArray, List.set_cons_zero, List.set_cons_succ]
            refine wpAnyH_take (i := 9) (oi := ⟨some 15, _, _, _, _, _⟩) (v := ?vvb59_7) rfl (by kernel_rfl) (by kernel_rfl) (by kernel_rfl) (fun _ _ _ h => h) (Or.inl ⟨by rfl, ?yvb59_7⟩) hHeld ?rvb59_7
            case yvb59_7 => (intro w' hSw; (try dsimp only at hSw); go_simp; try (with_reducible rfl))
            simp only [Act.put, List.setIfInBounds_toArray, List.set_cons_zero, List.set_cons_succ]
            refine wpAnyH_take (i := 10) (oi := ⟨some 16, _, _, _, _, _⟩) (v := ?vvb510_8) rfl (by kernel_rfl) (by kernel_rfl) (by kernel_rfl) (fun _ _ _ h => h) (Or.inl ⟨by rfl, ?yvb510_8⟩) hHeld ?rvb510_8
            case yvb510_8 => (intro w' hSw; (try dsimp only at hSw); go_simp; try (with_reducible rfl))
            simp only [Act.put, List.setIfInBounds_toArray, List.set_cons_zero, List.set_cons_succ]
            refine wpAnyH_take (i := 11) (oi := ⟨some 17, _, _, _, _, _⟩) (v := ?vvb511_9) rfl (by kernel_rfl) (by kernel_rfl) (by kernel_rfl) (fun _ _ _ h => h) (Or.inl ⟨by rfl, ?yvb511_9⟩) hHeld ?rvb511_9
            case yvb511_9 => (intro w' hSw; (try dsimp only at hSw); go_simp; try (with_reducible rfl))
            simp only [Act.put, List.setIfInBounds_toArray, List.set_cons_zero, List.set_cons_succ]
            refine wpAnyH_done (by kernel_rfl) ?_ _
            go_wp2_with fail
            go_meet
            exact ⟨hB, n1, n2, n3⟩
          case rest =>
            obtain ⟨hB, m1, m2, m3⟩ := hcut
            have HM := Lib.hid (And.intro m1 (And.intro m2 m3))
            clear HB HT m1 m2 m3
            have HB := Lib.hid hB
            clear hB
            cases hhas : c.has hh hl with
            | true =>
              have hcall := fun W => rhas_s s c hh hl W HP.out HTS.out
              simp only [hhas] at hcall
              have HHAS := Lib.hid hhas
              clear hhas
              have y0 := ((HH.out.on HB.out).cell 0).trans rfl
              have y1 := ((HH.out.on HB.out).cell 1).trans rfl
              simp only [List.getElem?_toArray, List.getElem?_cons_succ, List.getElem?_cons_zero] at y0 y1
              go_wp2_with fail
              (with_reducible refine (hcall _).mono ?_)
              rintro e wx ⟨rfl, hb⟩
              have hB := Lib.hid (HB.out.trans (hb.mono HB.out.size))
              have HM2 := Lib.hid (And.intro (HM.out.1.on hb) (And.intro (HM.out.2.1.on hb) (HM.out.2.2.on hb)))
              clear hb hcall HB HM y0 y1
              have HB := hB
              have HM := HM2
              clear hB HM2
              have hcall := all_c _ _ _ _ wx (Nat.le_trans (mtT_le _ _ _) HL.out) (Nat.le_trans (ovS_len _ _) HL.out) (inc_mtT l hh hl) (mtT_ovS HP.out HHAS.out) HM.out.2.2 HM.out.1
              go_wp2_with fail
              (with_reducible refine hcall.mono ?_)
              rintro e wy ⟨rfl, hb⟩
              have hB := Lib.hid (HB.out.trans (hb.mono HB.out.size))
              have HM2 := Lib.hid (And.intro (HM.out.1.on hb) (And.intro (HM.out.2.1.on hb) (HM.out.2.2.on hb)))
              clear hb hcall HB HM
              have HB := hB
              have HM := HM2
              clear hB HM2
              cases hw : c.wit d with
              | true =>
                have hcall := fun W => rwithin_s s u c d W HP.out HQ.out HTS.out HTU.out
                simp only [hw] at hcall
                have HW := Lib.hid hw
                clear hw
                go_wp2_with fail
                (with_reducible refine (hcall _).mono ?_)
                rintro e wx ⟨rfl, hb⟩
                have hB := Lib.hid (HB.out.trans (hb.mono HB.out.size))
                have HM2 := Lib.hid (And.intro (HM.out.1.on hb) (And.intro (HM.out.2.1.on hb) (HM.out.2.2.on hb)))
                clear HM
                have HM := HM2
                clear HM2
                clear hb hcall HB
                have HB := hB
                clear hB
                have hcall := all_c _ _ _ _ wx (Nat.le_trans (ovS_len _ _) HL.out) (Nat.le_trans (ovS_len _ _) HL.out) (inc_ovS l c) (ovS_wit HP.out HQ.out HW.out) HM.out.1 HM.out.2.1
                go_wp2_with fail
                (with_reducible refine hcall.mono ?_)
                rintro e wy ⟨rfl, hb⟩
                have hB := Lib.hid (HB.out.trans (hb.mono HB.out.size))
                clear hb hcall HB HM
                have HB := hB
                clear hB
                go_wp2
                go_ret
                exact ⟨rfl, HBW.out.trans (HB.out.mono HBW.out.size)⟩
              | false =>
                have hcall := fun W => rwithin_s s u c d W HP.out HQ.out HTS.out HTU.out
                simp only [hw] at hcall
                clear hw
                go_wp2_with fail
                (with_reducible refine (hcall _).mono ?_)
                rintro e wx ⟨rfl, hb⟩
                have hB := Lib.hid (HB.out.trans (hb.mono HB.out.size))
                clear hb hcall HB
                have HB := hB
                clear hB
                go_wp2
                go_ret
                exact ⟨rfl, HBW.out.trans (HB.out.mono HBW.out.size)⟩
            | false =>
              have hcall := fun W => rhas_s s c hh hl W HP.out HTS.out
              simp only [hhas] at hcall
              have HHAS := Lib.hid hhas
              clear hhas
              have y0 := ((HH.out.on HB.out).cell 0).trans rfl
              have y1 := ((HH.out.on HB.out).cell 1).trans rfl
              simp only [List.getElem?_toArray, List.getElem?_cons_succ, List.getElem?_cons_zero] at y0 y1
              go_wp2_with fail
              (with_reducible refine (hcall _).mono ?_)
              rintro e wx ⟨rfl, hb⟩
              have hB := Lib.hid (HB.out.trans (hb.mono HB.out.size))
              have HM2 := Lib.hid (And.intro (HM.out.1.on hb) (And.intro (HM.out.2.1.on hb) (HM.out.2.2.on hb)))
              clear hb hcall HB HM y0 y1
              have HB := hB
              have HM := HM2
              clear hB HM2
              cases hw : c.wit d with
              | true =>
                have hcall := fun W => rwithin_s s u c d W HP.out HQ.out HTS.out HTU.out
                simp only [hw] at hcall
                have HW := Lib.hid hw
                clear hw
                go_wp2_with fail
                (with_reducible refine (hcall _).mono ?_)
                rintro e wx ⟨rfl, hb⟩
                have hB := Lib.hid (HB.out.trans (hb.mono HB.out.size))
                have HM2 := Lib.hid (And.intro (HM.out.1.on hb) (And.intro (HM.out.2.1.on hb) (HM.out.2.2.on hb)))
                clear HM
                have HM := HM2
                clear HM2
                clear hb hcall HB
                have HB := hB
                clear hB
                have hcall := all_c _ _ _ _ wx (Nat.le_trans (ovS_len _ _) HL.out) (Nat.le_trans (ovS_len _ _) HL.out) (inc_ovS l c) (ovS_wit HP.out HQ.out HW.out) HM.out.1 HM.out.2.1
                go_wp2_with fail
                (with_reducible refine hcall.mono ?_)
                rintro e wy ⟨rfl, hb⟩
                have hB := Lib.hid (HB.out.trans (hb.mono HB.out.size))
                clear hb hcall HB HM
                have HB := hB
                clear hB
                go_wp2
                go_ret
                exact ⟨rfl, HBW.out.trans (HB.out.mono HBW.out.size)⟩
              | false =>
                have hcall := fun W => rwithin_s s u c d W HP.out HQ.out HTS.out HTU.out
                simp only [hw] at hcall
                clear hw
                go_wp2_with fail
                (with_reducible refine (hcall _).mono ?_)
                rintro e wx ⟨rfl, hb⟩
                have hB := Lib.hid (HB.out.trans (hb.mono HB.out.size))
                clear hb hcall HB
                have HB := hB
                clear hB
                go_wp2
                go_ret
                exact ⟨rfl, HBW.out.trans (HB.out.mono HBW.out.size)⟩
        | false =>
          have HQ := Lib.hid hq
          clear hq
          have x0 := ((HD.out.on HB.out).cell 0).trans rfl
          have x1 := ((HD.out.on HB.out).cell 1).trans rfl
          have x2 := ((HD.out.on HB.out).cell 2).trans rfl
          have x3 := ((HD.out.on HB.out).cell 3).trans rfl
          simp only [List.getElem?_toArray, List.getElem?_cons_succ, List.getElem?_cons_zero] at x0 x1 x2 x3
          go_wp2_with fail
          (with_reducible refine (text_no d _ HQ.out).mono ?_)
          rintro e w6 ⟨rfl, hb⟩
          have hB := Lib.hid (HB.out.trans (hb.mono HB.out.size))
          have hT := Lib.hid (HT.out.on hb)
          clear hb HB HT x0 x1 x2 x3
          have HB := hB
          have HT := hT
          clear hB hT
          go_upto_region 10 with (fail)
          go_cut [15, 16, 17] (fun s15 s16 s17 wd => Below wb.heap.size wb wd ∧ Nm wd s15 (ovS l c) ∧ Nm wd s16 (ovS l d) ∧ Nm wd s17 (mtT l hh hl))
          case first =>
            have HKP : Hid (∀ W, Below wb.heap.size wb W → (Below wb.heap.size wb W ∧ W.cell? ⟨bc, 0, none⟩ = some (.int .u64 (uv c.vh)) ∧ W.cell? ⟨bc, 1, none⟩ = some (.int .u64 (uv c.vl)) ∧ W.cell? ⟨bc, 2, none⟩ = some (.int .u64 (uv c.ch)) ∧ W.cell? ⟨bc, 3, none⟩ = some (.int .u64 (uv c.cl)) ∧ W.cell? ⟨bd, 0, none⟩ = some (.int .u64 (uv d.vh)) ∧ W.cell? ⟨bd, 1, none⟩ = some (.int .u64 (uv d.vl)) ∧ W.cell? ⟨bd, 2, none⟩ = some (.int .u64 (uv d.ch)) ∧ W.cell? ⟨bd, 3, none⟩ = some (.int .u64 (uv d.cl)) ∧ W.cell? ⟨bh, 0, none⟩ = some (.int .u64 (uv hh)) ∧ W.cell? ⟨bh, 1, none⟩ = some (.int .u64 (uv hl)))) := fun W hb => ⟨hb, ((HC.out.on hb).cell 0).trans rfl, ((HC.out.on hb).cell 1).trans rfl, ((HC.out.on hb).cell 2).trans rfl, ((HC.out.on hb).cell 3).trans rfl, ((HD.out.on hb).cell 0).trans rfl, ((HD.out.on hb).cell 1).trans rfl, ((HD.out.on hb).cell 2).trans rfl, ((HD.out.on hb).cell 3).trans rfl, ((HH.out.on hb).cell 0).trans rfl, ((HH.out.on hb).cell 1).trans rfl⟩
            refine wp_region_held_drew (S := fun w' => Below wb.heap.size wb w' ∧ w'.cell? ⟨bc, 0, none⟩ = some (.int .u64 (uv c.vh)) ∧ w'.cell? ⟨bc, 1, none⟩ = some (.int .u64 (uv c.vl)) ∧ w'.cell? ⟨bc, 2, none⟩ = some (.int .u64 (uv c.ch)) ∧ w'.cell? ⟨bc, 3, none⟩ = some (.int .u64 (uv c.cl)) ∧ w'.cell? ⟨bd, 0, none⟩ = some (.int .u64 (uv d.vh)) ∧ w'.cell? ⟨bd, 1, none⟩ = some (.int .u64 (uv d.vl)) ∧ w'.cell? ⟨bd, 2, none⟩ = some (.int .u64 (uv d.ch)) ∧ w'.cell? ⟨bd, 3, none⟩ = some (.int .u64 (uv d.cl)) ∧ w'.cell? ⟨bh, 0, none⟩ = some (.int .u64 (uv hh)) ∧ w'.cell? ⟨bh, 1, none⟩ = some (.int .u64 (uv hl))) (by kernel_rfl) (HKP.out _ HB.out.drew) (fun hHeld => ?_)
            have hB := HB.out.drew
            have tT := HT.out.on ((Below.refl w6.heap.size w6).drew)
            clear HT HB
            generalize w6.drew = u0 at hHeld hB tT ⊢
            refine wpAnyH_take (i := 0) (oi := ⟨some 52, _, _, _, _, _⟩) (v := ?vvb60_1) rfl (by kernel_rfl) (by kernel_rfl) (by kernel_rfl) (fun _ _ _ h => h) (Or.inl ⟨by rfl, ?yvb60_1⟩) hHeld ?rvb60_1
            case yvb60_1 => (intro w' hSw; (try dsimp only at hSw); go_simp; try (with_reducible rfl))
            simp only [Act.put, List.setIfInBounds_toArray, List.set_cons_zero, List.set_cons_succ]
            refine wpAnyH_take (i := 1) (oi := ⟨some 53, _, _, _, _, _⟩) (v := ?vvb61_2) rfl (by kernel_rfl) (by kernel_rfl) (by kernel_rfl) (fun _ _ _ h => h) (Or.inl ⟨by rfl, ?yvb61_2⟩) hHeld ?rvb61_2
            case yvb61_2 => (intro w' hSw; (try dsimp only at hSw); go_simp; try (with_reducible rfl))
            simp only [Act.put, List.setIfInBounds_toArray, List.set_cons_zero, List.set_cons_succ]
            refine wpAnyH_take (i := 3) (oi := ⟨some 55, _, _, _, _, _⟩) (v := ?vvb63_3) rfl (by kernel_rfl) (by kernel_rfl) (by kernel_rfl) (fun _ _ _ h => h) (Or.inl ⟨by rfl, ?yvb63_3⟩) hHeld ?rvb63_3
            case yvb63_3 => (intro w' hSw; (try dsimp only at hSw); go_simp; try (with_reducible rfl))
            simp only [Act.put, List.setIfInBounds_toArray, List.set_cons_zero, List.set_cons_succ]
            refine wpAnyH_take (i := 4) (oi := ⟨some 56, _, _, _, _, _⟩) (v := ?vvb64_4) rfl (by kernel_rfl) (by kernel_rfl) (by kernel_rfl) (fun _ _ _ h => h) (Or.inl ⟨by rfl, ?yvb64_4⟩) hHeld ?rvb64_4
            case yvb64_4 => (intro w' hSw; (try dsimp only at hSw); go_simp; try (with_reducible rfl))
            simp only [Act.put, List.setIfInBounds_toArray, List.set_cons_zero, List.set_cons_succ]
            refine wpAnyH_take (i := 6) (oi := ⟨some 58, _, _, _, _, _⟩) (v := ?vvb66_5) rfl (by kernel_rfl) (by kernel_rfl) (by kernel_rfl) (fun _ _ _ h => h) (Or.inl ⟨by rfl, ?yvb66_5⟩) hHeld ?rvb66_5
            case yvb66_5 => (intro w' hSw; (try dsimp only at hSw); go_simp; try (with_reducible rfl))
            simp only [Act.put, List.setIfInBounds_toArray, List.set_cons_zero, List.set_cons_succ]
            refine wpAnyH_take (i := 7) (oi := ⟨some 59, _, _, _, _, _⟩) (v := ?vvb67_6) rfl (by kernel_rfl) (by kernel_rfl) (by kernel_rfl) (fun _ _ _ h => h) (Or.inl ⟨by rfl, ?yvb67_6⟩) hHeld ?rvb67_6
            case yvb67_6 => (intro w' hSw; (try dsimp only at hSw); go_simp; try (with_reducible rfl))
            simp only [Act.put, List.setIfInBounds_toArray, List.set_cons_zero, List.set_cons_succ]
            refine wpAnyH_ready (rs := [2]) (by kernel_rfl) (by simp) ?_
            refine AllReadyH.cons (o := ⟨some 54, _, _, _, _, _⟩) rfl (fun K hK => ?_) AllReadyH.nil
            go_simp
            (with_reducible refine (ov_c c B l S u0 HL.out tT.at_).mono ?_)
            rintro e u1 ⟨v1, rfl, hv1, hb⟩
            (try dsimp only)
            have hB2 := hB.trans (hb.mono hB.size)
            refine hK.out _ _ (HKP.out _ hB2) (fun hNext => ?_)
            clear hK K hHeld
            have hHeld := hNext
            clear hNext
            clear hB
            have hB := hB2
            clear hB2
            replace tT := tT.on hb
            have n1 := own_Nm hv1
            clear hv1
            clear hb
            try simp only [Act.put, List.setIfInBounds_toArray, List.set_cons_zero, List.set_cons_succ]
            refine wpAnyH_ready (rs := [5]) (by kernel_rfl) (by simp) ?_
            refine AllReadyH.cons (o := ⟨some 57, _, _, _, _, _⟩) rfl (fun K hK => ?_) AllReadyH.nil
            go_simp
            (with_reducible refine (ov_c d B l S u1 HL.out tT.at_).mono ?_)
            rintro e u2 ⟨v2, rfl, hv2, hb⟩
            (try dsimp only)
            have hB2 := hB.trans (hb.mono hB.size)
            refine hK.out _ _ (HKP.out _ hB2) (fun hNext => ?_)
            clear hK K hHeld
            have hHeld := hNext
            clear hNext
            clear hB
            have hB := hB2
            clear hB2
            replace tT := tT.on hb
            replace n1 := n1.on hb
            have n2 := own_Nm hv2
            clear hv2
            clear hb
            try simp only [Act.put, List.setIfInBounds_toArray, List.set_cons_zero, List.set_cons_succ]
            refine wpAnyH_ready (rs := [8]) (by kernel_rfl) (by simp) ?_
            refine AllReadyH.cons (o := ⟨some 60, _, _, _, _, _⟩) rfl (fun K hK => ?_) AllReadyH.nil
            go_simp
            (with_reducible refine (match_c hh hl B l S u2 HL.out tT.at_).mono ?_)
            rintro e u3 ⟨v3, rfl, hv3, hb⟩
            (try dsimp only)
            have hB2 := hB.trans (hb.mono hB.size)
            refine hK.out _ _ (HKP.out _ hB2) (fun hNext => ?_)
            clear hK K hHeld
            have hHeld := hNext
            clear hNext
            clear hB
            have hB := hB2
            clear hB2
            replace tT := tT.on hb
            replace n1 := n1.on hb
            replace n2 := n2.on hb
            have n3 := own_Nm hv3
            clear hv3
            clear hb
            try simp only [Act.put, List.setIfInBounds_toArray, List.set_cons_zero, List.set_cons_succ]
            refine wpAnyH_take (i := 9) (oi := ⟨some 15, _, _, _, _, _⟩) (v := ?vvb69_7) rfl (by kernel_rfl) (by kernel_rfl) (by kernel_rfl) (fun _ _ _ h => h) (Or.inl ⟨by rfl, ?yvb69_7⟩) hHeld ?rvb69_7
            case yvb69_7 => (intro w' hSw; (try dsimp only at hSw); go_simp; try (with_reducible rfl))
            simp only [Act.put, List.setIfInBounds_toArray, List.set_cons_zero, List.set_cons_succ]
            refine wpAnyH_take (i := 10) (oi := ⟨some 16, _, _, _, _, _⟩) (v := ?vvb610_8) rfl (by kernel_rfl) (by kernel_rfl) (by kernel_rfl) (fun _ _ _ h => h) (Or.inl ⟨by rfl, ?yvb610_8⟩) hHeld ?rvb610_8
            case yvb610_8 => (intro w' hSw; (try dsimp only at hSw); go_simp; try (with_reducible rfl))
            simp only [Act.put, List.setIfInBounds_toArray, List.set_cons_zero, List.set_cons_succ]
            refine wpAnyH_take (i := 11) (oi := ⟨some 17, _, _, _, _, _⟩) (v := ?vvb611_9) rfl (by kernel_rfl) (by kernel_rfl) (by kernel_rfl) (fun _ _ _ h => h) (Or.inl ⟨by rfl, ?yvb611_9⟩) hHeld ?rvb611_9
            case yvb611_9 => (intro w' hSw; (try dsimp only at hSw); go_simp; try (with_reducible rfl))
            simp only [Act.put, List.setIfInBounds_toArray, List.set_cons_zero, List.set_cons_succ]
            refine wpAnyH_done (by kernel_rfl) ?_ _
            go_wp2_with fail
            go_meet
            exact ⟨hB, n1, n2, n3⟩
          case rest =>
            obtain ⟨hB, m1, m2, m3⟩ := hcut
            have HM := Lib.hid (And.intro m1 (And.intro m2 m3))
            clear HB HT m1 m2 m3
            have HB := Lib.hid hB
            clear hB
            cases hhas : c.has hh hl with
            | true =>
              have hcall := fun W => rhas_s s c hh hl W HP.out HTS.out
              simp only [hhas] at hcall
              have HHAS := Lib.hid hhas
              clear hhas
              have y0 := ((HH.out.on HB.out).cell 0).trans rfl
              have y1 := ((HH.out.on HB.out).cell 1).trans rfl
              simp only [List.getElem?_toArray, List.getElem?_cons_succ, List.getElem?_cons_zero] at y0 y1
              go_wp2_with fail
              (with_reducible refine (hcall _).mono ?_)
              rintro e wx ⟨rfl, hb⟩
              have hB := Lib.hid (HB.out.trans (hb.mono HB.out.size))
              have HM2 := Lib.hid (And.intro (HM.out.1.on hb) (And.intro (HM.out.2.1.on hb) (HM.out.2.2.on hb)))
              clear hb hcall HB HM y0 y1
              have HB := hB
              have HM := HM2
              clear hB HM2
              have hcall := all_c _ _ _ _ wx (Nat.le_trans (mtT_le _ _ _) HL.out) (Nat.le_trans (ovS_len _ _) HL.out) (inc_mtT l hh hl) (mtT_ovS HP.out HHAS.out) HM.out.2.2 HM.out.1
              go_wp2_with fail
              (with_reducible refine hcall.mono ?_)
              rintro e wy ⟨rfl, hb⟩
              have hB := Lib.hid (HB.out.trans (hb.mono HB.out.size))
              have HM2 := Lib.hid (And.intro (HM.out.1.on hb) (And.intro (HM.out.2.1.on hb) (HM.out.2.2.on hb)))
              clear hb hcall HB HM
              have HB := hB
              have HM := HM2
              clear hB HM2
              go_wp2
              go_ret
              exact ⟨rfl, HBW.out.trans (HB.out.mono HBW.out.size)⟩
            | false =>
              have hcall := fun W => rhas_s s c hh hl W HP.out HTS.out
              simp only [hhas] at hcall
              have HHAS := Lib.hid hhas
              clear hhas
              have y0 := ((HH.out.on HB.out).cell 0).trans rfl
              have y1 := ((HH.out.on HB.out).cell 1).trans rfl
              simp only [List.getElem?_toArray, List.getElem?_cons_succ, List.getElem?_cons_zero] at y0 y1
              go_wp2_with fail
              (with_reducible refine (hcall _).mono ?_)
              rintro e wx ⟨rfl, hb⟩
              have hB := Lib.hid (HB.out.trans (hb.mono HB.out.size))
              have HM2 := Lib.hid (And.intro (HM.out.1.on hb) (And.intro (HM.out.2.1.on hb) (HM.out.2.2.on hb)))
              clear hb hcall HB HM y0 y1
              have HB := hB
              have HM := HM2
              clear hB HM2
              go_wp2
              go_ret
              exact ⟨rfl, HBW.out.trans (HB.out.mono HBW.out.size)⟩
      | false =>
        have HP := Lib.hid hp
        clear hp
        have x0 := ((HC.out.on HB.out).cell 0).trans rfl
        have x1 := ((HC.out.on HB.out).cell 1).trans rfl
        have x2 := ((HC.out.on HB.out).cell 2).trans rfl
        have x3 := ((HC.out.on HB.out).cell 3).trans rfl
        simp only [List.getElem?_toArray, List.getElem?_cons_succ, List.getElem?_cons_zero] at x0 x1 x2 x3
        go_wp2_with fail
        (with_reducible refine (text_no c _ HP.out).mono ?_)
        rintro e w5 ⟨rfl, hb⟩
        have hB := Lib.hid (HB.out.trans (hb.mono HB.out.size))
        have hT := Lib.hid (HT.out.on hb)
        clear hb HB HT x0 x1 x2 x3
        have HB := hB
        have HT := hT
        clear hB hT
        cases hq : d.snd with
        | true =>
          have HQ := Lib.hid hq
          clear hq
          have x0 := ((HD.out.on HB.out).cell 0).trans rfl
          have x1 := ((HD.out.on HB.out).cell 1).trans rfl
          have x2 := ((HD.out.on HB.out).cell 2).trans rfl
          have x3 := ((HD.out.on HB.out).cell 3).trans rfl
          simp only [List.getElem?_toArray, List.getElem?_cons_succ, List.getElem?_cons_zero] at x0 x1 x2 x3
          go_wp2_with fail
          (with_reducible refine (text_yes d _ HQ.out).mono ?_)
          rintro e w6 ⟨rfl, hb⟩
          have hB := Lib.hid (HB.out.trans (hb.mono HB.out.size))
          have hT := Lib.hid (HT.out.on hb)
          clear hb HB HT x0 x1 x2 x3
          have HB := hB
          have HT := hT
          clear hB hT
          obtain ⟨u, hu⟩ : ∃ u, txt d = u := ⟨_, rfl⟩
          rw [hu]
          have HTU := Lib.hid hu
          clear hu
          go_upto_region 10 with (fail)
          go_cut [15, 16, 17] (fun s15 s16 s17 wd => Below wb.heap.size wb wd ∧ Nm wd s15 (ovS l c) ∧ Nm wd s16 (ovS l d) ∧ Nm wd s17 (mtT l hh hl))
          case first =>
            have HKP : Hid (∀ W, Below wb.heap.size wb W → (Below wb.heap.size wb W ∧ W.cell? ⟨bc, 0, none⟩ = some (.int .u64 (uv c.vh)) ∧ W.cell? ⟨bc, 1, none⟩ = some (.int .u64 (uv c.vl)) ∧ W.cell? ⟨bc, 2, none⟩ = some (.int .u64 (uv c.ch)) ∧ W.cell? ⟨bc, 3, none⟩ = some (.int .u64 (uv c.cl)) ∧ W.cell? ⟨bd, 0, none⟩ = some (.int .u64 (uv d.vh)) ∧ W.cell? ⟨bd, 1, none⟩ = some (.int .u64 (uv d.vl)) ∧ W.cell? ⟨bd, 2, none⟩ = some (.int .u64 (uv d.ch)) ∧ W.cell? ⟨bd, 3, none⟩ = some (.int .u64 (uv d.cl)) ∧ W.cell? ⟨bh, 0, none⟩ = some (.int .u64 (uv hh)) ∧ W.cell? ⟨bh, 1, none⟩ = some (.int .u64 (uv hl)))) := fun W hb => ⟨hb, ((HC.out.on hb).cell 0).trans rfl, ((HC.out.on hb).cell 1).trans rfl, ((HC.out.on hb).cell 2).trans rfl, ((HC.out.on hb).cell 3).trans rfl, ((HD.out.on hb).cell 0).trans rfl, ((HD.out.on hb).cell 1).trans rfl, ((HD.out.on hb).cell 2).trans rfl, ((HD.out.on hb).cell 3).trans rfl, ((HH.out.on hb).cell 0).trans rfl, ((HH.out.on hb).cell 1).trans rfl⟩
            refine wp_region_held_drew (S := fun w' => Below wb.heap.size wb w' ∧ w'.cell? ⟨bc, 0, none⟩ = some (.int .u64 (uv c.vh)) ∧ w'.cell? ⟨bc, 1, none⟩ = some (.int .u64 (uv c.vl)) ∧ w'.cell? ⟨bc, 2, none⟩ = some (.int .u64 (uv c.ch)) ∧ w'.cell? ⟨bc, 3, none⟩ = some (.int .u64 (uv c.cl)) ∧ w'.cell? ⟨bd, 0, none⟩ = some (.int .u64 (uv d.vh)) ∧ w'.cell? ⟨bd, 1, none⟩ = some (.int .u64 (uv d.vl)) ∧ w'.cell? ⟨bd, 2, none⟩ = some (.int .u64 (uv d.ch)) ∧ w'.cell? ⟨bd, 3, none⟩ = some (.int .u64 (uv d.cl)) ∧ w'.cell? ⟨bh, 0, none⟩ = some (.int .u64 (uv hh)) ∧ w'.cell? ⟨bh, 1, none⟩ = some (.int .u64 (uv hl))) (by kernel_rfl) (HKP.out _ HB.out.drew) (fun hHeld => ?_)
            have hB := HB.out.drew
            have tT := HT.out.on ((Below.refl w6.heap.size w6).drew)
            clear HT HB
            generalize w6.drew = u0 at hHeld hB tT ⊢
            refine wpAnyH_take (i := 0) (oi := ⟨some 52, _, _, _, _, _⟩) (v := ?vvb70_1) rfl (by kernel_rfl) (by kernel_rfl) (by kernel_rfl) (fun _ _ _ h => h) (Or.inl ⟨by rfl, ?yvb70_1⟩) hHeld ?rvb70_1
            case yvb70_1 => (intro w' hSw; (try dsimp only at hSw); go_simp; try (with_reducible rfl))
            simp only [Act.put, List.setIfInBounds_toArray, List.set_cons_zero, List.set_cons_succ]
            refine wpAnyH_take (i := 1) (oi := ⟨some 53, _, _, _, _, _⟩) (v := ?vvb71_2) rfl (by kernel_rfl) (by kernel_rfl) (by kernel_rfl) (fun _ _ _ h => h) (Or.inl ⟨by rfl, ?yvb71_2⟩) hHeld ?rvb71_2
            case yvb71_2 => (intro w' hSw; (try dsimp only at hSw); go_simp; try (with_reducible rfl))
            simp only [Act.put, List.setIfInBounds_toArray, List.set_cons_zero, List.set_cons_succ]
            refine wpAnyH_take (i := 3) (oi := ⟨some 55, _, _, _, _, _⟩) (v := ?vvb73_3) rfl (by kernel_rfl) (by kernel_rfl) (by kernel_rfl) (fun _ _ _ h => h) (Or.inl ⟨by rfl, ?yvb73_3⟩) hHeld ?rvb73_3
            case yvb73_3 => (intro w' hSw; (try dsimp only at hSw); go_simp; try (with_reducible rfl))
            simp only [Act.put, List.setIfInBounds_toArray, List.set_cons_zero, List.set_cons_succ]
            refine wpAnyH_take (i := 4) (oi := ⟨some 56, _, _, _, _, _⟩) (v := ?vvb74_4) rfl (by kernel_rfl) (by kernel_rfl) (by kernel_rfl) (fun _ _ _ h => h) (Or.inl ⟨by rfl, ?yvb74_4⟩) hHeld ?rvb74_4
            case yvb74_4 => (intro w' hSw; (try dsimp only at hSw); go_simp; try (with_reducible rfl))
            simp only [Act.put, List.setIfInBounds_toArray, List.set_cons_zero, List.set_cons_succ]
            refine wpAnyH_take (i := 6) (oi := ⟨some 58, _, _, _, _, _⟩) (v := ?vvb76_5) rfl (by kernel_rfl) (by kernel_rfl) (by kernel_rfl) (fun _ _ _ h => h) (Or.inl ⟨by rfl, ?yvb76_5⟩) hHeld ?rvb76_5
            case yvb76_5 => (intro w' hSw; (try dsimp only at hSw); go_simp; try (with_reducible rfl))
            simp only [Act.put, List.setIfInBounds_toArray, List.set_cons_zero, List.set_cons_succ]
            refine wpAnyH_take (i := 7) (oi := ⟨some 59, _, _, _, _, _⟩) (v := ?vvb77_6) rfl (by kernel_rfl) (by kernel_rfl) (by kernel_rfl) (fun _ _ _ h => h) (Or.inl ⟨by rfl, ?yvb77_6⟩) hHeld ?rvb77_6
            case yvb77_6 => (intro w' hSw; (try dsimp only at hSw); go_simp; try (with_reducible rfl))
            simp only [Act.put, List.setIfInBounds_toArray, List.set_cons_zero, List.set_cons_succ]
            refine wpAnyH_ready (rs := [2]) (by kernel_rfl) (by simp) ?_
            refine AllReadyH.cons (o := ⟨some 54, _, _, _, _, _⟩) rfl (fun K hK => ?_) AllReadyH.nil
            go_simp
            (with_reducible refine (ov_c c B l S u0 HL.out tT.at_).mono ?_)
            rintro e u1 ⟨v1, rfl, hv1, hb⟩
            (try dsimp only)
            have hB2 := hB.trans (hb.mono hB.size)
            refine hK.out _ _ (HKP.out _ hB2) (fun hNext => ?_)
            clear hK K hHeld
            have hHeld := hNext
            clear hNext
            clear hB
            have hB := hB2
            clear hB2
            replace tT := tT.on hb
            have n1 := own_Nm hv1
            clear hv1
            clear hb
            try simp only [Act.put, List.setIfInBounds_toArray, List.set_cons_zero, List.set_cons_succ]
            refine wpAnyH_ready (rs := [5]) (by kernel_rfl) (by simp) ?_
            refine AllReadyH.cons (o := ⟨some 57, _, _, _, _, _⟩) rfl (fun K hK => ?_) AllReadyH.nil
            go_simp
            (with_reducible refine (ov_c d B l S u1 HL.out tT.at_).mono ?_)
            rintro e u2 ⟨v2, rfl, hv2, hb⟩
            (try dsimp only)
            have hB2 := hB.trans (hb.mono hB.size)
            refine hK.out _ _ (HKP.out _ hB2) (fun hNext => ?_)
            clear hK K hHeld
            have hHeld := hNext
            clear hNext
            clear hB
            have hB := hB2
            clear hB2
            replace tT := tT.on hb
            replace n1 := n1.on hb
            have n2 := own_Nm hv2
            clear hv2
            clear hb
            try simp only [Act.put, List.setIfInBounds_toArray, List.set_cons_zero, List.set_cons_succ]
            refine wpAnyH_ready (rs := [8]) (by kernel_rfl) (by simp) ?_
            refine AllReadyH.cons (o := ⟨some 60, _, _, _, _, _⟩) rfl (fun K hK => ?_) AllReadyH.nil
            go_simp
            (with_reducible refine (match_c hh hl B l S u2 HL.out tT.at_).mono ?_)
            rintro e u3 ⟨v3, rfl, hv3, hb⟩
            (try dsimp only)
            have hB2 := hB.trans (hb.mono hB.size)
            refine hK.out _ _ (HKP.out _ hB2) (fun hNext => ?_)
            clear hK K hHeld
            have hHeld := hNext
            clear hNext
            clear hB
            have hB := hB2
            clear hB2
            replace tT := tT.on hb
            replace n1 := n1.on hb
            replace n2 := n2.on hb
            have n3 := own_Nm hv3
            clear hv3
            clear hb
            try simp only [Act.put, List.setIfInBounds_toArray, List.set_cons_zero, List.set_cons_succ]
            refine wpAnyH_take (i := 9) (oi := ⟨some 15, _, _, _, _, _⟩) (v := ?vvb79_7) rfl (by kernel_rfl) (by kernel_rfl) (by kernel_rfl) (fun _ _ _ h => h) (Or.inl ⟨by rfl, ?yvb79_7⟩) hHeld ?rvb79_7
            case yvb79_7 => (intro w' hSw; (try dsimp only at hSw); go_simp; try (with_reducible rfl))
            simp only [Act.put, List.setIfInBounds_toArray, List.set_cons_zero, List.set_cons_succ]
            refine wpAnyH_take (i := 10) (oi := ⟨some 16, _, _, _, _, _⟩) (v := ?vvb710_8) rfl (by kernel_rfl) (by kernel_rfl) (by kernel_rfl) (fun _ _ _ h => h) (Or.inl ⟨by rfl, ?yvb710_8⟩) hHeld ?rvb710_8
            case yvb710_8 => (intro w' hSw; (try dsimp only at hSw); go_simp; try (with_reducible rfl))
            simp only [Act.put, List.setIfInBounds_toArray, List.set_cons_zero, List.set_cons_succ]
            refine wpAnyH_take (i := 11) (oi := ⟨some 17, _, _, _, _, _⟩) (v := ?vvb711_9) rfl (by kernel_rfl) (by kernel_rfl) (by kernel_rfl) (fun _ _ _ h => h) (Or.inl ⟨by rfl, ?yvb711_9⟩) hHeld ?rvb711_9
            case yvb711_9 => (intro w' hSw; (try dsimp only at hSw); go_simp; try (with_reducible rfl))
            simp only [Act.put, List.setIfInBounds_toArray, List.set_cons_zero, List.set_cons_succ]
            refine wpAnyH_done (by kernel_rfl) ?_ _
            go_wp2_with fail
            go_meet
            exact ⟨hB, n1, n2, n3⟩
          case rest =>
            obtain ⟨hB, m1, m2, m3⟩ := hcut
            have HM := Lib.hid (And.intro m1 (And.intro m2 m3))
            clear HB HT m1 m2 m3
            have HB := Lib.hid hB
            clear hB
            go_wp2
            go_ret
            exact ⟨rfl, HBW.out.trans (HB.out.mono HBW.out.size)⟩
        | false =>
          have HQ := Lib.hid hq
          clear hq
          have x0 := ((HD.out.on HB.out).cell 0).trans rfl
          have x1 := ((HD.out.on HB.out).cell 1).trans rfl
          have x2 := ((HD.out.on HB.out).cell 2).trans rfl
          have x3 := ((HD.out.on HB.out).cell 3).trans rfl
          simp only [List.getElem?_toArray, List.getElem?_cons_succ, List.getElem?_cons_zero] at x0 x1 x2 x3
          go_wp2_with fail
          (with_reducible refine (text_no d _ HQ.out).mono ?_)
          rintro e w6 ⟨rfl, hb⟩
          have hB := Lib.hid (HB.out.trans (hb.mono HB.out.size))
          have hT := Lib.hid (HT.out.on hb)
          clear hb HB HT x0 x1 x2 x3
          have HB := hB
          have HT := hT
          clear hB hT
          go_upto_region 10 with (fail)
          go_cut [15, 16, 17] (fun s15 s16 s17 wd => Below wb.heap.size wb wd ∧ Nm wd s15 (ovS l c) ∧ Nm wd s16 (ovS l d) ∧ Nm wd s17 (mtT l hh hl))
          case first =>
            have HKP : Hid (∀ W, Below wb.heap.size wb W → (Below wb.heap.size wb W ∧ W.cell? ⟨bc, 0, none⟩ = some (.int .u64 (uv c.vh)) ∧ W.cell? ⟨bc, 1, none⟩ = some (.int .u64 (uv c.vl)) ∧ W.cell? ⟨bc, 2, none⟩ = some (.int .u64 (uv c.ch)) ∧ W.cell? ⟨bc, 3, none⟩ = some (.int .u64 (uv c.cl)) ∧ W.cell? ⟨bd, 0, none⟩ = some (.int .u64 (uv d.vh)) ∧ W.cell? ⟨bd, 1, none⟩ = some (.int .u64 (uv d.vl)) ∧ W.cell? ⟨bd, 2, none⟩ = some (.int .u64 (uv d.ch)) ∧ W.cell? ⟨bd, 3, none⟩ = some (.int .u64 (uv d.cl)) ∧ W.cell? ⟨bh, 0, none⟩ = some (.int .u64 (uv hh)) ∧ W.cell? ⟨bh, 1, none⟩ = some (.int .u64 (uv hl)))) := fun W hb => ⟨hb, ((HC.out.on hb).cell 0).trans rfl, ((HC.out.on hb).cell 1).trans rfl, ((HC.out.on hb).cell 2).trans rfl, ((HC.out.on hb).cell 3).trans rfl, ((HD.out.on hb).cell 0).trans rfl, ((HD.out.on hb).cell 1).trans rfl, ((HD.out.on hb).cell 2).trans rfl, ((HD.out.on hb).cell 3).trans rfl, ((HH.out.on hb).cell 0).trans rfl, ((HH.out.on hb).cell 1).trans rfl⟩
            refine wp_region_held_drew (S := fun w' => Below wb.heap.size wb w' ∧ w'.cell? ⟨bc, 0, none⟩ = some (.int .u64 (uv c.vh)) ∧ w'.cell? ⟨bc, 1, none⟩ = some (.int .u64 (uv c.vl)) ∧ w'.cell? ⟨bc, 2, none⟩ = some (.int .u64 (uv c.ch)) ∧ w'.cell? ⟨bc, 3, none⟩ = some (.int .u64 (uv c.cl)) ∧ w'.cell? ⟨bd, 0, none⟩ = some (.int .u64 (uv d.vh)) ∧ w'.cell? ⟨bd, 1, none⟩ = some (.int .u64 (uv d.vl)) ∧ w'.cell? ⟨bd, 2, none⟩ = some (.int .u64 (uv d.ch)) ∧ w'.cell? ⟨bd, 3, none⟩ = some (.int .u64 (uv d.cl)) ∧ w'.cell? ⟨bh, 0, none⟩ = some (.int .u64 (uv hh)) ∧ w'.cell? ⟨bh, 1, none⟩ = some (.int .u64 (uv hl))) (by kernel_rfl) (HKP.out _ HB.out.drew) (fun hHeld => ?_)
            have hB := HB.out.drew
            have tT := HT.out.on ((Below.refl w6.heap.size w6).drew)
            clear HT HB
            generalize w6.drew = u0 at hHeld hB tT ⊢
            refine wpAnyH_take (i := 0) (oi := ⟨some 52, _, _, _, _, _⟩) (v := ?vvb80_1) rfl (by kernel_rfl) (by kernel_rfl) (by kernel_rfl) (fun _ _ _ h => h) (Or.inl ⟨by rfl, ?yvb80_1⟩) hHeld ?rvb80_1
            case yvb80_1 => (intro w' hSw; (try dsimp only at hSw); go_simp; try (with_reducible rfl))
            simp only [Act.put, List.setIfInBounds_toArray, List.set_cons_zero, List.set_cons_succ]
            refine wpAnyH_take (i := 1) (oi := ⟨some 53, _, _, _, _, _⟩) (v := ?vvb81_2) rfl (by kernel_rfl) (by kernel_rfl) (by kernel_rfl) (fun _ _ _ h => h) (Or.inl ⟨by rfl, ?yvb81_2⟩) hHeld ?rvb81_2
            case yvb81_2 => (intro w' hSw; (try dsimp only at hSw); go_simp; try (with_reducible rfl))
            simp only [Act.put, List.setIfInBounds_toArray, List.set_cons_zero, List.set_cons_succ]
            refine wpAnyH_take (i := 3) (oi := ⟨some 55, _, _, _, _, _⟩) (v := ?vvb83_3) rfl (by kernel_rfl) (by kernel_rfl) (by kernel_rfl) (fun _ _ _ h => h) (Or.inl ⟨by rfl, ?yvb83_3⟩) hHeld ?rvb83_3
            case yvb83_3 => (intro w' hSw; (try dsimp only at hSw); go_simp; try (with_reducible rfl))
            simp only [Act.put, List.setIfInBounds_toArray, List.set_cons_zero, List.set_cons_succ]
            refine wpAnyH_take (i := 4) (oi := ⟨some 56, _, _, _, _, _⟩) (v := ?vvb84_4) rfl (by kernel_rfl) (by kernel_rfl) (by kernel_rfl) (fun _ _ _ h => h) (Or.inl ⟨by rfl, ?yvb84_4⟩) hHeld ?rvb84_4
            case yvb84_4 => (intro w' hSw; (try dsimp only at hSw); go_simp; try (with_reducible rfl))
            simp only [Act.put, List.setIfInBounds_toArray, List.set_cons_zero, List.set_cons_succ]
            refine wpAnyH_take (i := 6) (oi := ⟨some 58, _, _, _, _, _⟩) (v := ?vvb86_5) rfl (by kernel_rfl) (by kernel_rfl) (by kernel_rfl) (fun _ _ _ h => h) (Or.inl ⟨by rfl, ?yvb86_5⟩) hHeld ?rvb86_5
            case yvb86_5 => (intro w' hSw; (try dsimp only at hSw); go_simp; try (with_reducible rfl))
            simp only [Act.put, List.setIfInBounds_toArray, List.set_cons_zero, List.set_cons_succ]
            refine wpAnyH_take (i := 7) (oi := ⟨some 59, _, _, _, _, _⟩) (v := ?vvb87_6) rfl (by kernel_rfl) (by kernel_rfl) (by kernel_rfl) (fun _ _ _ h => h) (Or.inl ⟨by rfl, ?yvb87_6⟩) hHeld ?rvb87_6
            case yvb87_6 => (intro w' hSw; (try dsimp only at hSw); go_simp; try (with_reducible rfl))
            simp only [Act.put, List.setIfInBounds_toArray, List.set_cons_zero, List.set_cons_succ]
            refine wpAnyH_ready (rs := [2]) (by kernel_rfl) (by simp) ?_
            refine AllReadyH.cons (o := ⟨some 54, _, _, _, _, _⟩) rfl (fun K hK => ?_) AllReadyH.nil
            go_simp
            (with_reducible refine (ov_c c B l S u0 HL.out tT.at_).mono ?_)
            rintro e u1 ⟨v1, rfl, hv1, hb⟩
            (try dsimp only)
            have hB2 := hB.trans (hb.mono hB.size)
            refine hK.out _ _ (HKP.out _ hB2) (fun hNext => ?_)
            clear hK K hHeld
            have hHeld := hNext
            clear hNext
            clear hB
            have hB := hB2
            clear hB2
            replace tT := tT.on hb
            have n1 := own_Nm hv1
            clear hv1
            clear hb
            try simp only [Act.put, List.setIfInBounds_toArray, List.set_cons_zero, List.set_cons_succ]
            refine wpAnyH_ready (rs := [5]) (by kernel_rfl) (by simp) ?_
            refine AllReadyH.cons (o := ⟨some 57, _, _, _, _, _⟩) rfl (fun K hK => ?_) AllReadyH.nil
            go_simp
            (with_reducible refine (ov_c d B l S u1 HL.out tT.at_).mono ?_)
            rintro e u2 ⟨v2, rfl, hv2, hb⟩
            (try dsimp only)
            have hB2 := hB.trans (hb.mono hB.size)
            refine hK.out _ _ (HKP.out _ hB2) (fun hNext => ?_)
            clear hK K hHeld
            have hHeld := hNext
            clear hNext
            clear hB
            have hB := hB2
            clear hB2
            replace tT := tT.on hb
            replace n1 := n1.on hb
            have n2 := own_Nm hv2
            clear hv2
            clear hb
            try simp only [Act.put, List.setIfInBounds_toArray, List.set_cons_zero, List.set_cons_succ]
            refine wpAnyH_ready (rs := [8]) (by kernel_rfl) (by simp) ?_
            refine AllReadyH.cons (o := ⟨some 60, _, _, _, _, _⟩) rfl (fun K hK => ?_) AllReadyH.nil
            go_simp
            (with_reducible refine (match_c hh hl B l S u2 HL.out tT.at_).mono ?_)
            rintro e u3 ⟨v3, rfl, hv3, hb⟩
            (try dsimp only)
            have hB2 := hB.trans (hb.mono hB.size)
            refine hK.out _ _ (HKP.out _ hB2) (fun hNext => ?_)
            clear hK K hHeld
            have hHeld := hNext
            clear hNext
            clear hB
            have hB := hB2
            clear hB2
            replace tT := tT.on hb
            replace n1 := n1.on hb
            replace n2 := n2.on hb
            have n3 := own_Nm hv3
            clear hv3
            clear hb
            try simp only [Act.put, List.setIfInBounds_toArray, List.set_cons_zero, List.set_cons_succ]
            refine wpAnyH_take (i := 9) (oi := ⟨some 15, _, _, _, _, _⟩) (v := ?vvb89_7) rfl (by kernel_rfl) (by kernel_rfl) (by kernel_rfl) (fun _ _ _ h => h) (Or.inl ⟨by rfl, ?yvb89_7⟩) hHeld ?rvb89_7
            case yvb89_7 => (intro w' hSw; (try dsimp only at hSw); go_simp; try (with_reducible rfl))
            simp only [Act.put, List.setIfInBounds_toArray, List.set_cons_zero, List.set_cons_succ]
            refine wpAnyH_take (i := 10) (oi := ⟨some 16, _, _, _, _, _⟩) (v := ?vvb810_8) rfl (by kernel_rfl) (by kernel_rfl) (by kernel_rfl) (fun _ _ _ h => h) (Or.inl ⟨by rfl, ?yvb810_8⟩) hHeld ?rvb810_8
            case yvb810_8 => (intro w' hSw; (try dsimp only at hSw); go_simp; try (with_reducible rfl))
            simp only [Act.put, List.setIfInBounds_toArray, List.set_cons_zero, List.set_cons_succ]
            refine wpAnyH_take (i := 11) (oi := ⟨some 17, _, _, _, _, _⟩) (v := ?vvb811_9) rfl (by kernel_rfl) (by kernel_rfl) (by kernel_rfl) (fun _ _ _ h => h) (Or.inl ⟨by rfl, ?yvb811_9⟩) hHeld ?rvb811_9
            case yvb811_9 => (intro w' hSw; (try dsimp only at hSw); go_simp; try (with_reducible rfl))
            simp only [Act.put, List.setIfInBounds_toArray, List.set_cons_zero, List.set_cons_succ]
            refine wpAnyH_done (by kernel_rfl) ?_ _
            go_wp2_with fail
            go_meet
            exact ⟨hB, n1, n2, n3⟩
          case rest =>
            obtain ⟨hB, m1, m2, m3⟩ := hcut
            have HM := Lib.hid (And.intro m1 (And.intro m2 m3))
            clear HB HT m1 m2 m3
            have HB := Lib.hid hB
            clear hB
            go_wp2
            go_ret
            exact ⟨rfl, HBW.out.trans (HB.out.mono HBW.out.size)⟩
end Go.Proofs
