/-
  Contract of atoms.Refine, where it refines. Conditions as the theorem lists them.
  What atoms.Split, Refine and Coarsen answer at the law's inputs, and where headers are found. Conditions as each theorem lists them.
-/
import Derived.Test.YtpmgbofnikmhgaaGreatJ9
namespace Go.Proofs
open Go.RowKit Go.Proofs.Hd Go.Lib Go.Shelf
attribute [local go_sem] uv_nonneg
set_option maxHeartbeats 2000000 in
set_option maxRecDepth 100000 in
theorem arefine_c (v : Value) (al : List AtC) (id : Int) (c : Cb) (w : World) (hl : al.length ≤ 300) (hil : ∀ a ∈ al, a.ids.length ≤ 4398046511104) (hi : ¬ id < 0) (hc : c.snd = true) (hs : sndA al = true) (ht : ofL al id al.length = []) (hv : At w v al) : Calls Tryz.prog 24 #[v, .int .i64 id, .agg #[.int .u64 (uv c.vh), .int .u64 (uv c.vl), .int .u64 (uv c.ch), .int .u64 (uv c.cl)]] w (OptT w (refG c id al)) := by
  have HV := Lib.hid hv
  obtain ⟨A, cap, rfl, -, -, -⟩ := hv
  have B0 := below1 w (.cells #[.int .u64 (uv c.vh), .int .u64 (uv c.vl), .int .u64 (uv c.ch), .int .u64 (uv c.cl)] 53)
  have X0 : Blk (w.alloc (.cells #[.int .u64 (uv c.vh), .int .u64 (uv c.vl), .int .u64 (uv c.ch), .int .u64 (uv c.cl)] 53)) w.heap.size 53 c.arr := Blk.new w _ _
  have hcon := csound true c (w.alloc (.cells #[.int .u64 (uv c.vh), .int .u64 (uv c.vl), .int .u64 (uv c.ch), .int .u64 (uv c.cl)] 53)) hc
  have HIL := Lib.hid hil
  have HLN := Lib.hid hl
  have HX0 := Lib.hid X0
  have HC := Lib.hid hc
  have HS := Lib.hid hs
  have HT := Lib.hid ht
  clear ht
  clear X0 hil hl hc hs
  go_enter Tryz.func24, Tryz.ntmps24
  go_wp2_with fail
  (with_reducible refine hcon.mono ?_)
  rintro e w1 ⟨rfl, hb⟩
  have B1 := B0.trans (hb.mono B0.size)
  have hcon2 := asound_c _ al w1 (HV.out.on B1)
  rw [HS.out] at hcon2
  have X1 := Lib.hid (HX0.out.on hb)
  clear hcon hb B0 HX0
  go_wp2_with fail
  (with_reducible refine hcon2.mono ?_)
  rintro e w2 ⟨rfl, hb⟩
  have B2 := Lib.hid (B1.trans (hb.mono B1.size))
  have X2 := Lib.hid (X1.out.on hb)
  have hcon3 := of_c _ al id w2 (by have := HLN.out; omega) (fun a ha => by have := HIL.out a ha; omega) (HV.out.on B2.out)
  clear hcon2 hb B1 X1
  go_wp2_with fail
  (with_reducible refine hcon3.mono ?_)
  rintro e w3 ⟨v3, rfl, hO, hb⟩
  have B3 := Lib.hid (B2.out.trans (hb.mono B2.out.size))
  have X3 := Lib.hid (X2.out.on hb)
  have ON := own_Nm hO
  obtain ⟨O1, O3, rfl, -⟩ := ON
  have hz : (ofL al id al.length).length = 0 := by rw [HT.out]; rfl
  rw [hz]
  clear hcon3 hb hO B2 X2 HT hz
  obtain ⟨x0, x1, x2, x3⟩ : At4 w3 w.heap.size 0 c := ⟨X3.out.cell 0, X3.out.cell 1, X3.out.cell 2, X3.out.cell 3⟩
  have hsp := split_c _ al id c w3 HLN.out HS.out (fun a ha => by have := HIL.out a ha; omega) HC.out (HV.out.on B3.out)
  go_wp2_with fail
  (with_reducible refine hsp.mono ?_)
  rintro e w4 hq
  cases hpq : splG c id al with
  | none =>
    obtain ⟨rfl, hb2⟩ := hq.2 hpq
    have HN : Hid (refG c id al = none) := by show _ = _; unfold refG; rw [hpq]; rfl
    have B4 := Lib.hid (B3.out.trans (hb2.mono B3.out.size))
    clear hsp hq hpq hb2 x0 x1 x2 x3 B3 X3
    go_wp2
    refine wp_loop_rounds 1 ?_
    rw [rounds_succ]
    go_wp2
    go_ret2
    exact OptT.no HN.out rfl B4.out
  | some bs =>
    obtain ⟨v4, rfl, ⟨E0, hE0, hO⟩, hb2⟩ := hq.1 bs hpq
    have HM := Lib.hid (splG_mem HS.out HIL.out hpq)
    have HR : Hid (refG c id al = some (bs.map nrm)) := by show _ = _; unfold refG; rw [hpq]; rfl
    have B4 := Lib.hid (B3.out.trans (hb2.mono B3.out.size))
    have hlE : E0.length = bs.length := by rw [← hE0, List.length_map]
    obtain ⟨A4, c4, e4, -⟩ := hO.sl0
    have e5 : v4 = .slice A4 bs.length c4 := by rw [e4, hlE]
    clear e4
    subst e5
    have HO4 := Lib.hid hO
    have hbz : (bs.length : Int) ≤ 600 := by have := HM.out.1; have := HLN.out; omega
    have HE0 := Lib.hid hE0
    have HLE := Lib.hid hlE
    have hw3 := Lib.hid B3.out.size
    clear hsp hq hpq hb2 x0 x1 x2 x3 B3 X3 hO hE0 hlE
    go_wp2
    go_loopg [10, 36] bs.length (fun gk _ s36 wr => ∃ (k : Nat) (E : List AtX), k ≤ bs.length ∧ gk = bs.length - k ∧ s36 = .int .i64 k ∧ Hid (Below w.heap.size w wr) ∧ Hid (OwX w3.heap.size wr (.slice A4 bs.length c4) E) ∧ Hid (E.map AtX.a = (bs.take k).map nrm ++ bs.drop k))
    case atStart => exact ⟨0, E0, Nat.zero_le _, rfl, rfl, B4, HO4, by show _ = _; rw [HE0.out]; rfl⟩
    case round =>
      clear B4 HO4 HE0 HLE
      obtain ⟨k, E, hk, rfl, rfl, B0, O0, HE⟩ := hrel
      have hEl : Hid (E.length = bs.length) := by
        have e := congrArg List.length HE.out
        rw [List.length_map, List.length_append, List.length_map, List.length_take, List.length_drop] at e
        show _ = _
        omega
      by_cases hlt : k < bs.length
      · have hltz : (k : Int) < (bs.length : Int) := by omega
        obtain ⟨x, hx⟩ : ∃ x, E[k]? = some x := ⟨_, List.getElem?_eq_getElem (by have := hEl.out; omega)⟩
        have hbk : bs[k]? = some x.a := by
          have e := congrArg (fun L => L[k]?) HE.out
          simp only [List.getElem?_map, hx] at e
          rw [nrm_at] at e
          exact e.symm
        obtain ⟨g, rfl⟩ : ∃ g, A4 = some ⟨g, 0, none⟩ := by
          obtain ⟨A5, c5, e, h⟩ := O0.out.sl0
          injection e with e1 e2 e3
          subst e1
          exact h (ne_nil_of hx)
        obtain ⟨h1, h2, h3⟩ := HM.out.2 x.a (List.mem_of_getElem? hbk)
        have hxm := O0.out.2 x (List.mem_of_getElem? hx)
        obtain ⟨c0, c1, c2, c3⟩ := O0.out.cells hEl.out.symm hx
        obtain ⟨xiv, a, xpv⟩ := x
        dsimp only at hbk h1 h2 h3 hxm c0 c1 c2 c3
        obtain ⟨hxi, hxp⟩ := hxm
        have hxi1 := hxi.1
        obtain ⟨I1, I3, rfl, -⟩ := hxi1
        obtain ⟨P1, P3, rfl, -, -⟩ := hxp.1.form
        have b1 := below1 wr (.cells #[.slice I1 a.ids.length I3, .int .u64 (uv a.hd.1), .int .u64 (uv a.hd.2), .slice P1 a.pl.length P3] 42)
        have n1 : Blk (wr.alloc (.cells #[.slice I1 a.ids.length I3, .int .u64 (uv a.hd.1), .int .u64 (uv a.hd.2), .slice P1 a.pl.length P3] 42)) wr.heap.size 42 #[.slice I1 a.ids.length I3, .int .u64 (uv a.hd.1), .int .u64 (uv a.hd.2), .slice P1 a.pl.length P3] := Blk.new wr _ _
        have B1 := Lib.hid (B0.out.trans (b1.mono B0.out.size))
        have O1 := Lib.hid (O0.out.on b1)
        have t_ni0 := Lib.hid (hxi.on b1)
        have t_pl0 := Lib.hid (hxp.on b1)
        have N1 := Lib.hid n1
        have hbg : Hid (g ≠ wr.heap.size) := fun e => by have := (own_tbA O0.out.1).2.2; omega
        have HX := Lib.hid hx
        have HBK := Lib.hid hbk
        have HPS := Lib.hid (And.intro h1 (And.intro h2 h3))
        clear hx hbk h1 h2 h3 hxi hxp b1 n1 B0 O0
        go_upto_region 11 with (fail)
        generalize (wr.alloc (.cells #[.slice I1 a.ids.length I3, .int .u64 (uv a.hd.1), .int .u64 (uv a.hd.2), .slice P1 a.pl.length P3] 42)) = wb at B1 O1 t_ni0 t_pl0 N1 ⊢
        generalize wr.heap.size = bx at N1 hbg ⊢
        have HKP : Hid (∀ W, Below wb.heap.size wb W → (W.cell? ⟨bx, 0, none⟩ = some (.slice I1 a.ids.length I3) ∧ W.cell? ⟨bx, 3, none⟩ = some (.slice P1 a.pl.length P3))) := fun W hb => ⟨((N1.out.on hb).cell 0).trans rfl, ((N1.out.on hb).cell 3).trans rfl⟩
        refine wp_region_held_drew (S := fun w' => w'.cell? ⟨bx, 0, none⟩ = some (.slice I1 a.ids.length I3) ∧ w'.cell? ⟨bx, 3, none⟩ = some (.slice P1 a.pl.length P3)) (by kernel_rfl) (HKP.out _ (Below.refl _ wb).drew) (fun hHeld => ?_)
        have hB := (Below.refl wb.heap.size wb).drew
        have t_ni : NmB w3.heap.size wb.drew _ a.ids := t_ni0.out.on (Below.refl _ wb).drew
        have t_pl : PlB w3.heap.size wb.drew _ a.pl := t_pl0.out.on (Below.refl _ wb).drew
        clear t_ni0 t_pl0
        generalize wb.drew = u0 at hHeld hB t_ni t_pl ⊢
        refine wpAnyH_take (i := 0) (oi := ⟨some 41, _, _, _, _, _⟩) (v := ?vrf0_1) rfl (by kernel_rfl) (by kernel_rfl) (by kernel_rfl) (fun _ _ _ h => h) (Or.inl ⟨by rfl, ?yrf0_1⟩) hHeld ?rrf0_1
        case yrf0_1 => (intro w' hSw; (try dsimp only at hSw); go_simp; try (with_reducible rfl))
        simp only [Act.put, List.setIfInBounds_toArray, List.set_cons_zero, List.set_cons_succ]
        refine wpAnyH_take (i := 1) (oi := ⟨some 42, _, _, _, _, _⟩) (v := ?vrf1_2) rfl (by kernel_rfl) (by kernel_rfl) (by kernel_rfl) (fun _ _ _ h => h) (Or.inl ⟨by rfl, ?yrf1_2⟩) hHeld ?rrf1_2
        case yrf1_2 => (intro w' hSw; (try dsimp only at hSw); go_simp; try (with_reducible rfl))
        simp only [Act.put, List.setIfInBounds_toArray, List.set_cons_zero, List.set_cons_succ]
        refine wpAnyH_take (i := 2) (oi := ⟨some 43, _, _, _, _, _⟩) (v := ?vrf2_3) rfl (by kernel_rfl) (by kernel_rfl) (by kernel_rfl) (fun _ _ _ h => h) (Or.inl ⟨by rfl, ?yrf2_3⟩) hHeld ?rrf2_3
        case yrf2_3 => (intro w' hSw; (try dsimp only at hSw); go_simp; try (with_reducible rfl))
        simp only [Act.put, List.setIfInBounds_toArray, List.set_cons_zero, List.set_cons_succ]
        refine wpAnyH_take (i := 3) (oi := ⟨some 44, _, _, _, _, _⟩) (v := ?vrf3_4) rfl (by kernel_rfl) (by kernel_rfl) (by kernel_rfl) (fun _ _ _ h => h) (Or.inl ⟨by rfl, ?yrf3_4⟩) hHeld ?rrf3_4
        case yrf3_4 => (intro w' hSw; (try dsimp only at hSw); go_simp; try (with_reducible rfl))
        simp only [Act.put, List.setIfInBounds_toArray, List.set_cons_zero, List.set_cons_succ]
        refine wpAnyH_take (i := 5) (oi := ⟨some 46, _, _, _, _, _⟩) (v := ?vrf5_5) rfl (by kernel_rfl) (by kernel_rfl) (by kernel_rfl) (fun _ _ _ h => h) (Or.inl ⟨by rfl, ?yrf5_5⟩) hHeld ?rrf5_5
        case yrf5_5 => (intro w' hSw; (try dsimp only at hSw); go_simp; try (with_reducible rfl))
        simp only [Act.put, List.setIfInBounds_toArray, List.set_cons_zero, List.set_cons_succ]
        refine wpAnyH_take (i := 6) (oi := ⟨some 47, _, _, _, _, _⟩) (v := ?vrf6_6) rfl (by kernel_rfl) (by kernel_rfl) (by kernel_rfl) (fun _ _ _ h => h) (Or.inl ⟨by rfl, ?yrf6_6⟩) hHeld ?rrf6_6
        case yrf6_6 => (intro w' hSw; (try dsimp only at hSw); go_simp; try (with_reducible rfl))
        simp only [Act.put, List.setIfInBounds_toArray, List.set_cons_zero, List.set_cons_succ]
        refine wpAnyH_ready (rs := [4]) (by kernel_rfl) (by simp) ?_
        refine AllReadyH.cons (o := ⟨some 45, _, _, _, _, _⟩) rfl (fun K hK => ?_) AllReadyH.nil
        go_simp
        (with_reducible refine (idmakeo_c _ a.ids u0 (by have := HPS.out.2.2; omega) t_ni.nm).mono ?_)
        rintro e u1 ⟨vj, rfl, OJ, hb⟩
        have t_j : NmB w3.heap.size u1 vj (setI a.ids) := own_nmb OJ
        have hjf := t_j.nm
        obtain ⟨J1, J3, rfl, -⟩ := hjf
        clear OJ
        (try dsimp only)
        have hB2 := hB.trans (hb.mono hB.size)
        refine hK.out _ _ (HKP.out _ hB2) (fun hNext => ?_)
        clear hK K hHeld
        have hHeld := hNext
        clear hNext
        clear hB
        have hB := hB2
        clear hB2
        replace t_ni := t_ni.on hb
        replace t_pl := t_pl.on hb
        clear hb
        try simp only [Act.put, List.setIfInBounds_toArray, List.set_cons_zero, List.set_cons_succ]
        refine wpAnyH_ready (rs := [7]) (by kernel_rfl) (by simp) ?_
        refine AllReadyH.cons (o := ⟨some 48, _, _, _, _, _⟩) rfl (fun K hK => ?_) AllReadyH.nil
        go_simp
        (with_reducible refine (plean_c _ a.pl u1 (by have := sndL_len HPS.out.2.1; omega) t_pl.pl).mono ?_)
        rintro e u2 ⟨vl, rfl, OL, hb⟩
        have t_l : PlB w3.heap.size u2 vl (leanS a.pl) := own_plb OL
        obtain ⟨L1, L3, rfl, -, -⟩ := t_l.pl.form
        clear OL
        (try dsimp only)
        have hB2 := hB.trans (hb.mono hB.size)
        refine hK.out _ _ (HKP.out _ hB2) (fun hNext => ?_)
        clear hK K hHeld
        have hHeld := hNext
        clear hNext
        clear hB
        have hB := hB2
        clear hB2
        replace t_ni := t_ni.on hb
        replace t_pl := t_pl.on hb
        replace t_j := t_j.on hb
        clear hb
        try simp only [Act.put, List.setIfInBounds_toArray, List.set_cons_zero, List.set_cons_succ]
        refine wpAnyH_ready (rs := [8]) (by kernel_rfl) (by simp) ?_
        refine AllReadyH.cons (o := ⟨some 49, _, _, _, _, _⟩) rfl (fun K hK => ?_) AllReadyH.nil
        go_simp
        (with_reducible refine (atomOf_c J1 (setI a.ids).length J3 (.slice L1 (leanS a.pl).length L3) (leanS a.pl) u2 (lean_ne (sndL_all HPS.out.2.1) HPS.out.1) (leanS_snd _) (by have := leanS_short a.pl; have := sndL_len HPS.out.2.1; omega) t_l.pl).mono ?_)
        rintro e u3 ⟨rfl, hb⟩
        (try dsimp only)
        have hB2 := hB.trans (hb.mono hB.size)
        refine hK.out _ _ (HKP.out _ hB2) (fun hNext => ?_)
        clear hK K hHeld
        have hHeld := hNext
        clear hNext
        clear hB
        have hB := hB2
        clear hB2
        replace t_ni := t_ni.on hb
        replace t_pl := t_pl.on hb
        replace t_j := t_j.on hb
        replace t_l := t_l.on hb
        clear hb
        try simp only [Act.put, List.setIfInBounds_toArray, List.set_cons_zero, List.set_cons_succ]
        refine wpAnyH_take (i := 9) (oi := ⟨some 50, _, _, _, _, _⟩) (v := ?vrf9_7) rfl (by kernel_rfl) (by kernel_rfl) (by kernel_rfl) (fun _ _ _ h => h) (Or.inl ⟨by rfl, ?yrf9_7⟩) hHeld ?rrf9_7
        case yrf9_7 => (intro w' hSw; (try dsimp only at hSw); go_simp; try (with_reducible rfl))
        simp only [Act.put, List.setIfInBounds_toArray, List.set_cons_zero, List.set_cons_succ]
        refine wpAnyH_ready (rs := [10]) (by kernel_rfl) (by simp) ?_
        refine AllReadyH.cons (o := ⟨none, _, _, _, _, _⟩) rfl (fun K hK => ?_) AllReadyH.nil
        have OB := O1.out.on hB
        have hgB := own_tbA OB.1
        rw [if_pos (by rfl)]
        refine wp_store_mid 42 _ _ rfl g (k * 4) #[.slice J1 (setI a.ids).length J3, .int .u64 (uv (topP (leanS a.pl)).1), .int .u64 (uv (topP (leanS a.pl)).2), .slice L1 (leanS a.pl).length L3] rfl rfl (OB.there hEl.out.symm (by have := hEl.out; omega)) infoAtomS (by simp [Value.oneCell']) ?_
        (try dsimp only)
        have OP : OwX w3.heap.size (World.setCells u3 g (k * 4) [.slice J1 (setI a.ids).length J3, .int .u64 (uv (topP (leanS a.pl)).1), .int .u64 (uv (topP (leanS a.pl)).2), .slice L1 (leanS a.pl).length L3]) (.slice (some ⟨g, 0, none⟩) bs.length c4) (E.set k ⟨.slice J1 (setI a.ids).length J3, ⟨setI a.ids, topP (leanS a.pl), leanS a.pl⟩, .slice L1 (leanS a.pl).length L3⟩) := OB.put (x := ⟨.slice J1 (setI a.ids).length J3, ⟨setI a.ids, topP (leanS a.pl), leanS a.pl⟩, .slice L1 (leanS a.pl).length L3⟩) hEl.out.symm (by have := hEl.out; omega) t_j t_l
        have hB5 : Below w.heap.size w (World.setCells u3 g (k * 4) [.slice J1 (setI a.ids).length J3, .int .u64 (uv (topP (leanS a.pl)).1), .int .u64 (uv (topP (leanS a.pl)).2), .slice L1 (leanS a.pl).length L3]) := Below.setCells [.slice J1 (setI a.ids).length J3, .int .u64 (uv (topP (leanS a.pl)).1), .int .u64 (uv (topP (leanS a.pl)).2), .slice L1 (leanS a.pl).length L3] (k * 4) _ (B1.out.trans (hB.mono B1.out.size)) (by have := hw3.out; omega)
        refine hK.out _ _ ⟨(cellX hbg.out _ _ _).trans hHeld.1, (cellX hbg.out _ _ _).trans hHeld.2⟩ (fun hNext => ?_)
        clear hK K hHeld
        have hHeld := hNext
        clear hNext
        clear hB
        generalize hgen : (World.setCells u3 g (k * 4) [.slice J1 (setI a.ids).length J3, .int .u64 (uv (topP (leanS a.pl)).1), .int .u64 (uv (topP (leanS a.pl)).2), .slice L1 (leanS a.pl).length L3]) = u4 at hHeld OP hB5 ⊢
        clear hgen
        try simp only [Act.put]
        refine wpAnyH_done (by kernel_rfl) ?_ _
        have HE5 : Hid ((E.set k ⟨.slice J1 (setI a.ids).length J3, ⟨setI a.ids, topP (leanS a.pl), leanS a.pl⟩, .slice L1 (leanS a.pl).length L3⟩).map AtX.a = (bs.take (k + 1)).map nrm ++ bs.drop (k + 1)) := by
          show _ = _
          rw [set_map, HE.out]
          exact nrm_set HBK.out
        have O5 := Lib.hid OP
        have B5 := Lib.hid hB5
        clear hHeld OP hB5 OB t_j t_l t_ni t_pl HKP O1 B1 N1 hgB
        go_wp2
        go_roundg (bs.length - (k + 1))
        case measure => omega
        case rel => exact ⟨k + 1, _, by omega, rfl, by go_num, B5, O5, HE5⟩
      · have hltz : ¬ (k : Int) < (bs.length : Int) := by omega
        obtain rfl : k = bs.length := by omega
        have HE2 : Hid (E.map AtX.a = bs.map nrm) := by
          show _ = _
          have := HE.out
          rw [List.take_length, List.drop_length, List.append_nil] at this
          exact this
        go_wp2
        go_ret2
        exact OptT.yes HR.out rfl (HE2.out ▸ O0.out.at) B0.out
end Go.Proofs

namespace Go.Proofs.Hd
open Go.RowKit
/-- What Split answers. -/
inductive SpR (w : World) (cs : List Cb) : Ending → World → Prop
  | form {w' : World} : cs.all Cb.snd = false → Below w.heap.size w w' → SpR w cs (.returned (.tuple #[.slice none 0 0, .int .i64 2])) w'
  | many {w' : World} : cs.all Cb.snd = true → Below w.heap.size w w' → SpR w cs (.returned (.tuple #[.slice none 0 0, .int .i64 10])) w'
  | some {w' : World} (v : Value) (bs : List AtC) : cs.all Cb.snd = true → spsC 0 cs atm0 = Option.some bs → At w' v bs → Below w.heap.size w w' → SpR w cs (.returned (.tuple #[v, .int .i64 0])) w'
/-- What Refine answers. -/
inductive RfR (w : World) (al : List AtC) (id : Int) (c : Cb) : Ending → World → Prop
  | err {w' : World} (k : Int) : (k = 1 ∧ id < 0 ∨ k = 2 ∧ ¬ id < 0 ∧ (c.snd && sndA al) = false ∨ k = 8 ∧ ¬ id < 0 ∧ (c.snd && sndA al) = true ∧ ofL al id al.length ≠ [] ∨ k = 10 ∧ ¬ id < 0 ∧ (c.snd && sndA al) = true ∧ ofL al id al.length = []) → Below w.heap.size w w' → RfR w al id c (.returned (.tuple #[.slice none 0 0, .int .i64 k])) w'
  | some {w' : World} (v : Value) (bs : List AtC) : ¬ id < 0 → (c.snd && sndA al) = true → ofL al id al.length = [] → refG c id al = Option.some bs → At w' v bs → Below w.heap.size w w' → RfR w al id c (.returned (.tuple #[v, .int .i64 0])) w'
/-- What Coarsen answers. -/
inductive CrR (w : World) (al : List AtC) (id : Int) : Ending → World → Prop
  | err {w' : World} (k : Int) : (k = 2 ∧ sndA al = false ∨ k = 10 ∧ sndA al = true) → Below w.heap.size w w' → CrR w al id (.returned (.tuple #[.slice none 0 0, .int .i64 k])) w'
  | some {w' : World} (v : Value) (bs : List AtC) : sndA al = true → crsG id al = Option.some bs → At w' v bs → Below w.heap.size w w' → CrR w al id (.returned (.tuple #[v, .int .i64 0])) w'
theorem fndR_at {al : List AtC} {x : Hx} {I : List Int} (h : idsAt hasP al x = [I]) : ∃ (n : Nat) (a : AtC), fndR al x = ((n : Int), true) ∧ fndA hasP al x = some n ∧ al[n]? = some a ∧ a.ids = I ∧ hasP a.pl x = true := by
  obtain ⟨n, a, h1, h2, h3, h4⟩ := fnd_ids h
  exact ⟨n, a, by unfold fndR; rw [h1], h1, h2, h3, h4⟩
/-- Where two headers are found in two lists of atoms that tell the same apart. -/
theorem fnd_two {al bl : List AtC} {J K : Hx → List Int} (d1 : Dst al) (d2 : Dst bl) (h1 : ∀ x, idsAt hasP al x = [J x]) (h2 : ∀ x, idsAt hasP bl x = [K x]) (g h : Hx) (hJK : J g = J h ↔ K g = K h) :
    ∃ x y u v : Nat, fndR al g = ((x : Int), true) ∧ fndR al h = ((y : Int), true) ∧ fndR bl g = ((u : Int), true) ∧ fndR bl h = ((v : Int), true) ∧ (x = y ↔ u = v) := by
  obtain ⟨x, _, e1, f1, _⟩ := fndR_at (h1 g)
  obtain ⟨y, _, e2, f2, _⟩ := fndR_at (h1 h)
  obtain ⟨u, _, e3, f3, _⟩ := fndR_at (h2 g)
  obtain ⟨v, _, e4, f4, _⟩ := fndR_at (h2 h)
  refine ⟨x, y, u, v, e1, e2, e3, e4, ?_⟩
  rw [fnd_same d1 (h1 g) (h1 h) f1 f2, fnd_same d2 (h2 g) (h2 h) f3 f4]
  exact hJK
theorem all_of {cs : List Cb} (h : cs.all Cb.snd = true) : ∀ c ∈ cs, c.snd = true := List.all_eq_true.1 h
theorem atm0_inc : ∀ a ∈ atm0, Inc a.ids := by
  intro a ha
  simp only [atm0, List.mem_singleton] at ha
  subst ha
  exact List.Pairwise.nil
/-- What is known of the atoms of few cubes. -/
structure SpK (cs : List Cb) (bs : List AtC) : Prop where
  inv : AtInv cs.length bs
  ids : ∀ x, idsAt hasP bs x = [inF x 0 cs]
  inc : ∀ a ∈ bs, Inc a.ids
  len : bs.length ≤ 2 ^ cs.length
  few : ∀ a ∈ bs, a.ids.length ≤ cs.length
theorem SpK.of {cs : List Cb} {bs : List AtC} (hs : cs.all Cb.snd = true) (h : spsC 0 cs atm0 = some bs) : SpK cs bs := by
  have hs' := all_of hs
  obtain ⟨h1, h2⟩ := sps_right hs' h
  have h3 := sps_len h
  have e : atm0.length = 1 := rfl
  rw [e, Nat.mul_one] at h3
  exact ⟨h1, h2, sps_inc atm0_inv atm0_inc hs' h, h3, sps_ids hs' h⟩
theorem SpK.le {cs : List Cb} {bs : List AtC} (h : SpK cs bs) (hl : cs.length ≤ 7) : bs.length ≤ 128 := by
  have h1 := h.len
  have h2 : 2 ^ cs.length ≤ 2 ^ 7 := Nat.pow_le_pow_right (by omega) hl
  omega
theorem SpK.le8 {cs : List Cb} {bs : List AtC} (h : SpK cs bs) (hl : cs.length ≤ 8) : bs.length ≤ 256 := by
  have h1 := h.len
  have h2 : 2 ^ cs.length ≤ 2 ^ 8 := Nat.pow_le_pow_right (by omega) hl
  omega
theorem ofL_nil {al : List AtC} {id : Int} (h : ∀ a ∈ al, id ∉ a.ids) : ∀ k, k ≤ al.length → ofL al id k = []
  | 0, _ => rfl
  | k + 1, hk => by
    have ha : al[k]? = some al[k] := List.getElem?_eq_getElem (by omega)
    rw [ofL_succ ha, ofL_nil h k (by omega), if_neg (h _ (List.getElem_mem _))]
    rfl
theorem ofL_none {al : List AtC} {id : Int} (h : ofL al id al.length = []) : ∀ a ∈ al, id ∉ a.ids := by
  intro a ha hid
  obtain ⟨k, hk⟩ := List.mem_iff_getElem?.1 ha
  obtain ⟨hkl, e⟩ := List.getElem?_eq_some_iff.1 hk
  unfold ofL at h
  have h2 := List.map_eq_nil_iff.1 h
  exact List.eq_nil_iff_forall_not_mem.1 h2 k (List.mem_filter.2 ⟨List.mem_range.2 hkl, by simp [hk, hid]⟩)
/-- One cube more, with a number that none has. -/
structure RfK (cs : List Cb) (c : Cb) (al : List AtC) : Prop where
  good : ∀ a ∈ al, GoodA a
  dst : Dst al
  inc : ∀ a ∈ al, Inc a.ids
  ids : ∀ x, idsAt hasP al x = [if c.has x.1 x.2 = true then inF x 0 cs ++ [100] else inF x 0 cs]
  len : al.length ≤ 256
  few : ∀ a ∈ al, a.ids.length ≤ cs.length + 1
theorem SpK.low {cs : List Cb} {bs : List AtC} (h : SpK cs bs) (hl : cs.length ≤ 8) : ∀ a ∈ bs, ∀ n ∈ a.ids, n < (100 : Int) := fun a ha n hn => by
  have := h.inv.below a ha n hn
  omega
theorem SpK.ref {cs : List Cb} {bs al : List AtC} {c : Cb} (h : SpK cs bs) (hl : cs.length ≤ 7) (hc : c.snd = true) (hr : refG c 100 bs = some al) : splC c 100 bs = some al ∧ RfK cs c al := by
  have e : splC c 100 bs = some al := by rw [← refG_good hc h.inv.good h.inc (h.low (by omega))]; exact hr
  have hn : ∀ a ∈ bs, (100 : Int) ∉ a.ids := fun a ha hi => by have := h.low (by omega) a ha _ hi; omega
  refine ⟨e, spl_good e, spl_dst h.inv.dst hn e, spl_inc h.inc (h.low (by omega)) e, spl_out hc h.inv.good h.ids e, ?_, fun b hb => ?_⟩
  · have h1 := spl_len e
    have h2 := h.le hl
    omega
  · obtain ⟨a, ha, h1, _, _⟩ := spl_mem e b hb
    have h2 := h.few a ha
    rcases h1 with ⟨h1, _⟩ | ⟨h1, _⟩
    · rw [h1, List.length_append]; simpa using h2
    · rw [h1]; omega
theorem inF_not {x : Hx} {cs : List Cb} {id : Int} (hl : (cs.length : Int) ≤ id) : id ∉ inF x 0 cs := fun h => by
  have := inF_ge h
  omega
end Go.Proofs.Hd
namespace Go.Proofs
open Go.RowKit Go.Proofs.Hd Go.Lib Go.Shelf
theorem asplit_r (v : Value) (cs : List Cb) (w : World) (hl : cs.length ≤ 8) (hv : Pl w v cs) : Calls Tryz.prog 11 #[v] w (SpR w cs) := by
  cases hs : cs.all Cb.snd with
  | false =>
    refine (asplit_bad v cs w (by omega) hs hv).mono fun e w' h => ?_
    obtain ⟨rfl, hb⟩ := h
    exact .form hs hb
  | true =>
    refine (asplit_c v cs w hl (all_of hs) hv).mono fun e w' h => ?_
    cases hq : spsC 0 cs atm0 with
    | none =>
      obtain ⟨rfl, hb⟩ := h.2 hq
      exact .many hs hb
    | some bs =>
      obtain ⟨v', rfl, hA, hb⟩ := h.1 bs hq
      exact .some v' bs hs hq hA hb
theorem arefine_r (v : Value) (al : List AtC) (id : Int) (c : Cb) (w : World) (hl : al.length ≤ 300) (hi : ∀ a ∈ al, a.ids.length ≤ 4398046511104) (hv : At w v al) : Calls Tryz.prog 24 #[v, .int .i64 id, .agg #[.int .u64 (uv c.vh), .int .u64 (uv c.vl), .int .u64 (uv c.ch), .int .u64 (uv c.cl)]] w (RfR w al id c) := by
  by_cases h0 : id < 0
  · refine (arefine_arg v al id c w h0 hv).mono fun e w' h => ?_
    obtain ⟨rfl, hb⟩ := h
    exact .err 1 (.inl ⟨rfl, h0⟩) hb
  cases hs : (c.snd && sndA al) with
  | false =>
    refine (arefine_form v al id c w h0 hs hv).mono fun e w' h => ?_
    obtain ⟨rfl, hb⟩ := h
    exact .err 2 (.inr (.inl ⟨rfl, h0, hs⟩)) hb
  | true =>
    have hc : c.snd = true := by revert hs; cases c.snd <;> simp
    have ha : sndA al = true := by revert hs; cases sndA al <;> simp
    by_cases ht : ofL al id al.length = []
    · refine (arefine_c v al id c w hl hi h0 hc ha ht hv).mono fun e w' h => ?_
      cases hq : refG c id al with
      | none =>
        obtain ⟨rfl, hb⟩ := h.2 hq
        exact .err 10 (.inr (.inr (.inr ⟨rfl, h0, hs, ht⟩))) hb
      | some bs =>
        obtain ⟨v', rfl, hA, hb⟩ := h.1 bs hq
        exact .some v' bs h0 hs ht hq hA hb
    · refine (arefine_there v al id c w hl hi h0 hc ha ht hv).mono fun e w' h => ?_
      obtain ⟨rfl, hb⟩ := h
      exact .err 8 (.inr (.inr (.inl ⟨rfl, h0, hs, ht⟩))) hb
theorem acoarsen_r (v : Value) (al : List AtC) (id : Int) (w : World) (hl : al.length ≤ 300) (hi : ∀ a ∈ al, a.ids.length ≤ 4398046511104) (hv : At w v al) : Calls Tryz.prog 25 #[v, .int .i64 id] w (CrR w al id) := by
  cases hs : sndA al with
  | false =>
    refine (acoarsen_bad v al id w hs hv).mono fun e w' h => ?_
    obtain ⟨rfl, hb⟩ := h
    exact .err 2 (.inl ⟨rfl, hs⟩) hb
  | true =>
    refine (acoarsen_c v al id w hl hi hs hv).mono fun e w' h => ?_
    cases hq : crsG id al with
    | none =>
      obtain ⟨rfl, hb⟩ := h.2 hq
      exact .err 10 (.inr ⟨rfl, hs⟩) hb
    | some bs =>
      obtain ⟨v', rfl, hA, hb⟩ := h.1 bs hq
      exact .some v' bs hs hq hA hb
end Go.Proofs
