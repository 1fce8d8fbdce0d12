/-
  Contracts of (*walker).follow. Conditions as each theorem lists them.
-/
import Derived.Test.YtgoenjpllepdjaaJ8
namespace Go.Proofs
open Go.RowKit Go.Proofs.Hd Go.Lib
attribute [local go_sem] uv_nonneg
theorem infoSpotS : (Try.prog.info? 51).map (·.size) = some 2 := by kernel_rfl
theorem other_yes {tv : Value} {T : List (List Pt)} {n j m : Nat} {L : List Pt} {q : Pt} {w : World} (hT : PsT w tv T) (hz : sTp T = 0) (hL : T[n]? = some L) (hq : L[j]? = some q) (h2 : q.kind = 2) (hm : q.peer = (m : Int)) : Calls Try.prog 63 #[.agg #[tv], .agg #[.int .i64 (n : Int), .int .i64 (j : Int)]] w fun e w' => e = .returned (.tuple #[.agg #[.int .i64 (m : Int), .int .i64 q.spot], .bool true]) ∧ Below w.heap.size w w' := by
  have h := other_c tv T n j w hT
  have e : othT T n j = some ((m : Int), q.spot) := by unfold othT; rw [ptAt_nat hL hq]; simp only; rw [if_pos ⟨h2, hz⟩, hm]
  rw [e] at h
  exact h
set_option maxRecDepth 100000 in
set_option maxHeartbeats 4000000 in
theorem follow_drop {T : List (List Pt)} {BB : List (List (List Rl))} {tA pA wA bA : Option Addr} {tc pn pc wn wcp bc : Nat} {ten : Int} {n : Nat} {t port tab : Int} {hh hl svh svl sch scl : BitVec 64} {hv : Value} {w wb : World} {p : Nat} (hBb : Below wb.heap.size wb w) (hp : wb.heap.size ≤ p) (hW : Blk w p 81 #[.slice tA T.length tc, .int .i64 ten, .slice pA pn pc, .slice wA wn wcp, .slice bA BB.length bc, .int .i64 (n : Int), .int .i64 t, .int .u64 (uv hh), .int .u64 (uv hl), .int .i64 0, .int .i64 0, .int .i64 0, hv]) :
    Calls Try.prog 43 #[.pointer (some ⟨p, 0, none⟩), .agg #[.int .i64 1, .int .i64 port, .int .i64 tab, .int .u64 (uv svh), .int .u64 (uv svl), .int .u64 (uv sch), .int .u64 (uv scl)]] w fun e w' => e = .returned (.bool false) ∧ Blk w' p 81 #[.slice tA T.length tc, .int .i64 ten, .slice pA pn pc, .slice wA wn wcp, .slice bA BB.length bc, .int .i64 (n : Int), .int .i64 t, .int .u64 (uv hh), .int .u64 (uv hl), .int .i64 1, .int .i64 0, .int .i64 0, hv] ∧ Ch (fun k => k = p) w w' := by
  have hb1 := below1 w (.cells #[.int .i64 1, .int .i64 port, .int .i64 tab, .int .u64 (uv svh), .int .u64 (uv svl), .int .u64 (uv sch), .int .u64 (uv scl)] 36)
  have HW1 := Lib.hid (hW.on hb1)
  have HC1 := Lib.hid (Ch.of_below hb1 : Ch (fun k => k = p) w _)
  have HBB := Lib.hid (hBb.trans (hb1.mono hBb.size))
  have HD1 : Hid (Blk (w.alloc (.cells #[.int .i64 1, .int .i64 port, .int .i64 tab, .int .u64 (uv svh), .int .u64 (uv svl), .int .u64 (uv sch), .int .u64 (uv scl)] 36)) w.heap.size 36 #[.int .i64 1, .int .i64 port, .int .i64 tab, .int .u64 (uv svh), .int .u64 (uv svl), .int .u64 (uv sch), .int .u64 (uv scl)]) := Blk.new w _ _
  have hpl : p < w.heap.size := hW.lt
  have _ := hp
  clear hW hBb hb1
  go_enter Try.func43, Try.ntmps43
  go_upto_region 1 with (fail)
  generalize (w.alloc (.cells #[.int .i64 1, .int .i64 port, .int .i64 tab, .int .u64 (uv svh), .int .u64 (uv svl), .int .u64 (uv sch), .int .u64 (uv scl)] 36)) = w1 at HW1 HC1 HBB HD1 ⊢
  have HKP : Hid (∀ W, Below w1.heap.size w1 W → (Below w1.heap.size w1 W ∧ W.cell? ⟨p, 5, none⟩ = some (.int .i64 (n : Int)) ∧ W.cell? ⟨w.heap.size, 1, none⟩ = some (.int .i64 port))) := fun W hb => ⟨hb, ((HW1.out.on hb).cell 5).trans rfl, ((HD1.out.on hb).cell 1).trans rfl⟩
  refine wp_region_held_drew (S := fun w' => Below w1.heap.size w1 w' ∧ w'.cell? ⟨p, 5, none⟩ = some (.int .i64 (n : Int)) ∧ w'.cell? ⟨w.heap.size, 1, none⟩ = some (.int .i64 port)) (by kernel_rfl) (HKP.out _ (Below.refl _ w1).drew) (fun hHeld => ?_)
  have hB := (Below.refl w1.heap.size w1).drew
  generalize w1.drew = u0 at hHeld hB ⊢
  refine wpAnyH_take (i := 0) (oi := ⟨some 8, _, _, _, _, _⟩) (v := ?vfa0_1) rfl (by kernel_rfl) (by kernel_rfl) (by kernel_rfl) (fun _ _ _ h => h) (Or.inl ⟨by rfl, ?yfa0_1⟩) hHeld ?rfa0_1
  case yfa0_1 => (intro w' hSw; (try dsimp only at hSw); go_simp; try (with_reducible rfl))
  simp only [Act.put, List.setIfInBounds_toArray, List.set_cons_zero, List.set_cons_succ]
  refine wpAnyH_take (i := 1) (oi := ⟨some 9, _, _, _, _, _⟩) (v := ?vfa1_2) rfl (by kernel_rfl) (by kernel_rfl) (by kernel_rfl) (fun _ _ _ h => h) (Or.inl ⟨by rfl, ?yfa1_2⟩) hHeld ?rfa1_2
  case yfa1_2 => (intro w' hSw; (try dsimp only at hSw); go_simp; try (with_reducible rfl))
  simp only [Act.put, List.setIfInBounds_toArray, List.set_cons_zero, List.set_cons_succ]
  refine wpAnyH_take (i := 2) (oi := ⟨some 10, _, _, _, _, _⟩) (v := ?vfa2_3) rfl (by kernel_rfl) (by kernel_rfl) (by kernel_rfl) (fun _ _ _ h => h) (Or.inl ⟨by rfl, ?yfa2_3⟩) hHeld ?rfa2_3
  case yfa2_3 => (intro w' hSw; (try dsimp only at hSw); go_simp; try (with_reducible rfl))
  simp only [Act.put, List.setIfInBounds_toArray, List.set_cons_zero, List.set_cons_succ]
  refine wpAnyH_take (i := 3) (oi := ⟨some 11, _, _, _, _, _⟩) (v := ?vfa3_4) rfl (by kernel_rfl) (by kernel_rfl) (by kernel_rfl) (fun _ _ _ h => h) (Or.inl ⟨by rfl, ?yfa3_4⟩) hHeld ?rfa3_4
  case yfa3_4 => (intro w' hSw; (try dsimp only at hSw); go_simp; try (with_reducible rfl))
  simp only [Act.put, List.setIfInBounds_toArray, List.set_cons_zero, List.set_cons_succ]
  refine wpAnyH_take (i := 4) (oi := ⟨some 12, _, _, _, _, _⟩) (v := ?vfa4_5) rfl (by kernel_rfl) (by kernel_rfl) (by kernel_rfl) (fun _ _ _ h => h) (Or.inl ⟨by rfl, ?yfa4_5⟩) hHeld ?rfa4_5
  case yfa4_5 => (intro w' hSw; (try dsimp only at hSw); go_simp; try (with_reducible rfl))
  simp only [Act.put, List.setIfInBounds_toArray, List.set_cons_zero, List.set_cons_succ]
  refine wpAnyH_take (i := 5) (oi := ⟨some 13, _, _, _, _, _⟩) (v := ?vfa5_6) rfl (by kernel_rfl) (by kernel_rfl) (by kernel_rfl) (fun _ _ _ h => h) (Or.inl ⟨by rfl, ?yfa5_6⟩) hHeld ?rfa5_6
  case yfa5_6 => (intro w' hSw; (try dsimp only at hSw); go_simp; try (with_reducible rfl))
  simp only [Act.put, List.setIfInBounds_toArray, List.set_cons_zero, List.set_cons_succ]
  refine wpAnyH_take (i := 6) (oi := ⟨some 14, _, _, _, _, _⟩) (v := ?vfa6_7) rfl (by kernel_rfl) (by kernel_rfl) (by kernel_rfl) (fun _ _ _ h => h) (Or.inl ⟨by rfl, ?yfa6_7⟩) hHeld ?rfa6_7
  case yfa6_7 => (intro w' hSw; (try dsimp only at hSw); go_simp; try (with_reducible rfl))
  simp only [Act.put, List.setIfInBounds_toArray, List.set_cons_zero, List.set_cons_succ]
  refine wpAnyH_ready (rs := [7]) (by kernel_rfl) (by simp) ?_
  refine AllReadyH.cons (o := ⟨some 5, _, _, _, _, _⟩) rfl (fun K hK => ?_) AllReadyH.nil
  go_simp
  have hb := below1 u0 (.cells #[.int .i64 0, .int .i64 0] 51)
  have hB2 := hB.trans (hb.mono hB.size)
  refine hK.out _ _ (HKP.out _ hB2) (fun hNext => ?_)
  have t_h : Nb w1.heap.size (u0.alloc (.cells #[.int .i64 0, .int .i64 0] 51)) u0.heap.size 51 #[.int .i64 0, .int .i64 0] := Nb.top u0 hB.size
  clear hK K hHeld
  have hHeld := hNext
  clear hNext
  clear hB
  have hB := hB2
  clear hB2
  clear hb
  generalize hgen : (u0.alloc (.cells #[.int .i64 0, .int .i64 0] 51)) = u1 at hHeld hB  t_h ⊢
  clear hgen
  generalize hgen : u0.heap.size = b_h at t_h  ⊢
  clear hgen
  try simp only [Act.put, List.setIfInBounds_toArray, List.set_cons_zero, List.set_cons_succ]
  refine wpAnyH_ready (rs := [8]) (by kernel_rfl) (by simp) ?_
  refine AllReadyH.cons (o := ⟨none, _, _, _, _, _⟩) rfl (fun K hK => ?_) AllReadyH.nil
  rw [if_pos (by rfl)]
  refine wp_store_mid 51 _ _ rfl b_h 0 #[.int .i64 (n : Int), .int .i64 port] rfl rfl t_h.there infoSpotS (by simp [Value.oneCell']) ?_
  (try dsimp only)
  have hB2 := (Below.setCells [.int .i64 (n : Int), .int .i64 port] 0 _ hB t_h.2)
  refine hK.out _ _ (HKP.out _ hB2) (fun hNext => ?_)
  clear hK K hHeld
  have hHeld := hNext
  clear hNext
  clear hB
  have hB := hB2
  clear hB2
  replace t_h := t_h.put [.int .i64 (n : Int), .int .i64 port] rfl
  generalize hgen : (World.setCells u1 b_h 0 [.int .i64 (n : Int), .int .i64 port]) = u2 at hHeld hB t_h ⊢
  clear hgen
  try simp only [Act.put]
  refine wpAnyH_done (by kernel_rfl) ?_ _
  have HW2 := Lib.hid (HW1.out.on hB)
  have HC2 := Lib.hid (HC1.out.trans (Ch.of_below hB))
  have HBB2 := Lib.hid (HBB.out.trans (hB.mono HBB.out.size))
  have HD2 := Lib.hid (HD1.out.on hB)
  have HS2 := Lib.hid t_h.1
  have hbh : b_h ≠ p := fun e => by have := t_h.2; have := HW1.out.lt; omega
  clear hHeld hB t_h HKP HW1 HC1 HBB HD1
  have d0 := (HD2.out.cell 0).trans rfl
  have d2 := (HD2.out.cell 2).trans rfl
  have k9 := (HW2.out.cell 9).trans rfl
  have g9 := HW2.out.free 9
  simp only [List.getElem?_toArray, List.getElem?_cons_succ, List.getElem?_cons_zero] at d0 d2 k9
  have HE := Lib.hid (HW2.out.set 9 (.int .i64 1))
  have HCE := Lib.hid (HC2.out.trans ((Ch.set u2 ⟨p, 9, none⟩ (.int .i64 1)).mono fun k _ h => h))
  go_wp2
  go_ret
  exact ⟨rfl, HE.out, HCE.out⟩
set_option maxRecDepth 100000 in
set_option maxHeartbeats 4000000 in
theorem follow_goto {T : List (List Pt)} {BB : List (List (List Rl))} {tA pA wA bA : Option Addr} {tc pn pc wn wcp bc : Nat} {ten : Int} {n : Nat} {t port tab : Int} {hh hl svh svl sch scl : BitVec 64} {hv : Value} {w wb : World} {p : Nat} (hBb : Below wb.heap.size wb w) (hp : wb.heap.size ≤ p) (hW : Blk w p 81 #[.slice tA T.length tc, .int .i64 ten, .slice pA pn pc, .slice wA wn wcp, .slice bA BB.length bc, .int .i64 (n : Int), .int .i64 t, .int .u64 (uv hh), .int .u64 (uv hl), .int .i64 0, .int .i64 0, .int .i64 0, hv]) :
    Calls Try.prog 43 #[.pointer (some ⟨p, 0, none⟩), .agg #[.int .i64 4, .int .i64 port, .int .i64 tab, .int .u64 (uv svh), .int .u64 (uv svl), .int .u64 (uv sch), .int .u64 (uv scl)]] w fun e w' => e = .returned (.bool true) ∧ Blk w' p 81 #[.slice tA T.length tc, .int .i64 ten, .slice pA pn pc, .slice wA wn wcp, .slice bA BB.length bc, .int .i64 (n : Int), .int .i64 tab, .int .u64 (uv hh), .int .u64 (uv hl), .int .i64 0, .int .i64 0, .int .i64 0, hv] ∧ Ch (fun k => k = p) w w' := by
  have hb1 := below1 w (.cells #[.int .i64 4, .int .i64 port, .int .i64 tab, .int .u64 (uv svh), .int .u64 (uv svl), .int .u64 (uv sch), .int .u64 (uv scl)] 36)
  have HW1 := Lib.hid (hW.on hb1)
  have HC1 := Lib.hid (Ch.of_below hb1 : Ch (fun k => k = p) w _)
  have HBB := Lib.hid (hBb.trans (hb1.mono hBb.size))
  have HD1 : Hid (Blk (w.alloc (.cells #[.int .i64 4, .int .i64 port, .int .i64 tab, .int .u64 (uv svh), .int .u64 (uv svl), .int .u64 (uv sch), .int .u64 (uv scl)] 36)) w.heap.size 36 #[.int .i64 4, .int .i64 port, .int .i64 tab, .int .u64 (uv svh), .int .u64 (uv svl), .int .u64 (uv sch), .int .u64 (uv scl)]) := Blk.new w _ _
  have hpl : p < w.heap.size := hW.lt
  have _ := hp
  clear hW hBb hb1
  go_enter Try.func43, Try.ntmps43
  go_upto_region 1 with (fail)
  generalize (w.alloc (.cells #[.int .i64 4, .int .i64 port, .int .i64 tab, .int .u64 (uv svh), .int .u64 (uv svl), .int .u64 (uv sch), .int .u64 (uv scl)] 36)) = w1 at HW1 HC1 HBB HD1 ⊢
  have HKP : Hid (∀ W, Below w1.heap.size w1 W → (Below w1.heap.size w1 W ∧ W.cell? ⟨p, 5, none⟩ = some (.int .i64 (n : Int)) ∧ W.cell? ⟨w.heap.size, 1, none⟩ = some (.int .i64 port))) := fun W hb => ⟨hb, ((HW1.out.on hb).cell 5).trans rfl, ((HD1.out.on hb).cell 1).trans rfl⟩
  refine wp_region_held_drew (S := fun w' => Below w1.heap.size w1 w' ∧ w'.cell? ⟨p, 5, none⟩ = some (.int .i64 (n : Int)) ∧ w'.cell? ⟨w.heap.size, 1, none⟩ = some (.int .i64 port)) (by kernel_rfl) (HKP.out _ (Below.refl _ w1).drew) (fun hHeld => ?_)
  have hB := (Below.refl w1.heap.size w1).drew
  generalize w1.drew = u0 at hHeld hB ⊢
  refine wpAnyH_take (i := 0) (oi := ⟨some 8, _, _, _, _, _⟩) (v := ?vfa0_1) rfl (by kernel_rfl) (by kernel_rfl) (by kernel_rfl) (fun _ _ _ h => h) (Or.inl ⟨by rfl, ?yfa0_1⟩) hHeld ?rfa0_1
  case yfa0_1 => (intro w' hSw; (try dsimp only at hSw); go_simp; try (with_reducible rfl))
  simp only [Act.put, List.setIfInBounds_toArray, List.set_cons_zero, List.set_cons_succ]
  refine wpAnyH_take (i := 1) (oi := ⟨some 9, _, _, _, _, _⟩) (v := ?vfa1_2) rfl (by kernel_rfl) (by kernel_rfl) (by kernel_rfl) (fun _ _ _ h => h) (Or.inl ⟨by rfl, ?yfa1_2⟩) hHeld ?rfa1_2
  case yfa1_2 => (intro w' hSw; (try dsimp only at hSw); go_simp; try (with_reducible rfl))
  simp only [Act.put, List.setIfInBounds_toArray, List.set_cons_zero, List.set_cons_succ]
  refine wpAnyH_take (i := 2) (oi := ⟨some 10, _, _, _, _, _⟩) (v := ?vfa2_3) rfl (by kernel_rfl) (by kernel_rfl) (by kernel_rfl) (fun _ _ _ h => h) (Or.inl ⟨by rfl, ?yfa2_3⟩) hHeld ?rfa2_3
  case yfa2_3 => (intro w' hSw; (try dsimp only at hSw); go_simp; try (with_reducible rfl))
  simp only [Act.put, List.setIfInBounds_toArray, List.set_cons_zero, List.set_cons_succ]
  refine wpAnyH_take (i := 3) (oi := ⟨some 11, _, _, _, _, _⟩) (v := ?vfa3_4) rfl (by kernel_rfl) (by kernel_rfl) (by kernel_rfl) (fun _ _ _ h => h) (Or.inl ⟨by rfl, ?yfa3_4⟩) hHeld ?rfa3_4
  case yfa3_4 => (intro w' hSw; (try dsimp only at hSw); go_simp; try (with_reducible rfl))
  simp only [Act.put, List.setIfInBounds_toArray, List.set_cons_zero, List.set_cons_succ]
  refine wpAnyH_take (i := 4) (oi := ⟨some 12, _, _, _, _, _⟩) (v := ?vfa4_5) rfl (by kernel_rfl) (by kernel_rfl) (by kernel_rfl) (fun _ _ _ h => h) (Or.inl ⟨by rfl, ?yfa4_5⟩) hHeld ?rfa4_5
  case yfa4_5 => (intro w' hSw; (try dsimp only at hSw); go_simp; try (with_reducible rfl))
  simp only [Act.put, List.setIfInBounds_toArray, List.set_cons_zero, List.set_cons_succ]
  refine wpAnyH_take (i := 5) (oi := ⟨some 13, _, _, _, _, _⟩) (v := ?vfa5_6) rfl (by kernel_rfl) (by kernel_rfl) (by kernel_rfl) (fun _ _ _ h => h) (Or.inl ⟨by rfl, ?yfa5_6⟩) hHeld ?rfa5_6
  case yfa5_6 => (intro w' hSw; (try dsimp only at hSw); go_simp; try (with_reducible rfl))
  simp only [Act.put, List.setIfInBounds_toArray, List.set_cons_zero, List.set_cons_succ]
  refine wpAnyH_take (i := 6) (oi := ⟨some 14, _, _, _, _, _⟩) (v := ?vfa6_7) rfl (by kernel_rfl) (by kernel_rfl) (by kernel_rfl) (fun _ _ _ h => h) (Or.inl ⟨by rfl, ?yfa6_7⟩) hHeld ?rfa6_7
  case yfa6_7 => (intro w' hSw; (try dsimp only at hSw); go_simp; try (with_reducible rfl))
  simp only [Act.put, List.setIfInBounds_toArray, List.set_cons_zero, List.set_cons_succ]
  refine wpAnyH_ready (rs := [7]) (by kernel_rfl) (by simp) ?_
  refine AllReadyH.cons (o := ⟨some 5, _, _, _, _, _⟩) rfl (fun K hK => ?_) AllReadyH.nil
  go_simp
  have hb := below1 u0 (.cells #[.int .i64 0, .int .i64 0] 51)
  have hB2 := hB.trans (hb.mono hB.size)
  refine hK.out _ _ (HKP.out _ hB2) (fun hNext => ?_)
  have t_h : Nb w1.heap.size (u0.alloc (.cells #[.int .i64 0, .int .i64 0] 51)) u0.heap.size 51 #[.int .i64 0, .int .i64 0] := Nb.top u0 hB.size
  clear hK K hHeld
  have hHeld := hNext
  clear hNext
  clear hB
  have hB := hB2
  clear hB2
  clear hb
  generalize hgen : (u0.alloc (.cells #[.int .i64 0, .int .i64 0] 51)) = u1 at hHeld hB  t_h ⊢
  clear hgen
  generalize hgen : u0.heap.size = b_h at t_h  ⊢
  clear hgen
  try simp only [Act.put, List.setIfInBounds_toArray, List.set_cons_zero, List.set_cons_succ]
  refine wpAnyH_ready (rs := [8]) (by kernel_rfl) (by simp) ?_
  refine AllReadyH.cons (o := ⟨none, _, _, _, _, _⟩) rfl (fun K hK => ?_) AllReadyH.nil
  rw [if_pos (by rfl)]
  refine wp_store_mid 51 _ _ rfl b_h 0 #[.int .i64 (n : Int), .int .i64 port] rfl rfl t_h.there infoSpotS (by simp [Value.oneCell']) ?_
  (try dsimp only)
  have hB2 := (Below.setCells [.int .i64 (n : Int), .int .i64 port] 0 _ hB t_h.2)
  refine hK.out _ _ (HKP.out _ hB2) (fun hNext => ?_)
  clear hK K hHeld
  have hHeld := hNext
  clear hNext
  clear hB
  have hB := hB2
  clear hB2
  replace t_h := t_h.put [.int .i64 (n : Int), .int .i64 port] rfl
  generalize hgen : (World.setCells u1 b_h 0 [.int .i64 (n : Int), .int .i64 port]) = u2 at hHeld hB t_h ⊢
  clear hgen
  try simp only [Act.put]
  refine wpAnyH_done (by kernel_rfl) ?_ _
  have HW2 := Lib.hid (HW1.out.on hB)
  have HC2 := Lib.hid (HC1.out.trans (Ch.of_below hB))
  have HBB2 := Lib.hid (HBB.out.trans (hB.mono HBB.out.size))
  have HD2 := Lib.hid (HD1.out.on hB)
  have HS2 := Lib.hid t_h.1
  have hbh : b_h ≠ p := fun e => by have := t_h.2; have := HW1.out.lt; omega
  clear hHeld hB t_h HKP HW1 HC1 HBB HD1
  have d0 := (HD2.out.cell 0).trans rfl
  have d2 := (HD2.out.cell 2).trans rfl
  have k9 := (HW2.out.cell 9).trans rfl
  have g9 := HW2.out.free 9
  simp only [List.getElem?_toArray, List.getElem?_cons_succ, List.getElem?_cons_zero] at d0 d2 k9
  have k7 := HW2.out.free 6
  have HE := Lib.hid (HW2.out.set 6 (.int .i64 tab))
  have HCE := Lib.hid (HC2.out.trans ((Ch.set u2 ⟨p, 6, none⟩ (.int .i64 tab)).mono fun k _ h => h))
  have k6 := (HW2.out.cell 6).trans rfl
  simp only [List.getElem?_toArray, List.getElem?_cons_succ, List.getElem?_cons_zero] at k6
  go_wp2
  go_ret
  exact ⟨rfl, HE.out, HCE.out⟩
set_option maxRecDepth 100000 in
set_option maxHeartbeats 4000000 in
theorem follow_deliver {T : List (List Pt)} {BB : List (List (List Rl))} {tA pA wA bA : Option Addr} {tc pn pc wn wcp bc : Nat} {ten : Int} {n : Nat} {t port tab : Int} {hh hl svh svl sch scl : BitVec 64} {hv : Value} {w wb : World} {p : Nat} (hBb : Below wb.heap.size wb w) (hp : wb.heap.size ≤ p) (hW : Blk w p 81 #[.slice tA T.length tc, .int .i64 ten, .slice pA pn pc, .slice wA wn wcp, .slice bA BB.length bc, .int .i64 (n : Int), .int .i64 t, .int .u64 (uv hh), .int .u64 (uv hl), .int .i64 0, .int .i64 0, .int .i64 0, hv]) :
    Calls Try.prog 43 #[.pointer (some ⟨p, 0, none⟩), .agg #[.int .i64 2, .int .i64 port, .int .i64 tab, .int .u64 (uv svh), .int .u64 (uv svl), .int .u64 (uv sch), .int .u64 (uv scl)]] w fun e w' => e = .returned (.bool false) ∧ Blk w' p 81 #[.slice tA T.length tc, .int .i64 ten, .slice pA pn pc, .slice wA wn wcp, .slice bA BB.length bc, .int .i64 (n : Int), .int .i64 t, .int .u64 (uv hh), .int .u64 (uv hl), .int .i64 2, .int .i64 (n : Int), .int .i64 port, hv] ∧ Ch (fun k => k = p) w w' := by
  have hb1 := below1 w (.cells #[.int .i64 2, .int .i64 port, .int .i64 tab, .int .u64 (uv svh), .int .u64 (uv svl), .int .u64 (uv sch), .int .u64 (uv scl)] 36)
  have HW1 := Lib.hid (hW.on hb1)
  have HC1 := Lib.hid (Ch.of_below hb1 : Ch (fun k => k = p) w _)
  have HBB := Lib.hid (hBb.trans (hb1.mono hBb.size))
  have HD1 : Hid (Blk (w.alloc (.cells #[.int .i64 2, .int .i64 port, .int .i64 tab, .int .u64 (uv svh), .int .u64 (uv svl), .int .u64 (uv sch), .int .u64 (uv scl)] 36)) w.heap.size 36 #[.int .i64 2, .int .i64 port, .int .i64 tab, .int .u64 (uv svh), .int .u64 (uv svl), .int .u64 (uv sch), .int .u64 (uv scl)]) := Blk.new w _ _
  have hpl : p < w.heap.size := hW.lt
  have _ := hp
  clear hW hBb hb1
  go_enter Try.func43, Try.ntmps43
  go_upto_region 1 with (fail)
  generalize (w.alloc (.cells #[.int .i64 2, .int .i64 port, .int .i64 tab, .int .u64 (uv svh), .int .u64 (uv svl), .int .u64 (uv sch), .int .u64 (uv scl)] 36)) = w1 at HW1 HC1 HBB HD1 ⊢
  have HKP : Hid (∀ W, Below w1.heap.size w1 W → (Below w1.heap.size w1 W ∧ W.cell? ⟨p, 5, none⟩ = some (.int .i64 (n : Int)) ∧ W.cell? ⟨w.heap.size, 1, none⟩ = some (.int .i64 port))) := fun W hb => ⟨hb, ((HW1.out.on hb).cell 5).trans rfl, ((HD1.out.on hb).cell 1).trans rfl⟩
  refine wp_region_held_drew (S := fun w' => Below w1.heap.size w1 w' ∧ w'.cell? ⟨p, 5, none⟩ = some (.int .i64 (n : Int)) ∧ w'.cell? ⟨w.heap.size, 1, none⟩ = some (.int .i64 port)) (by kernel_rfl) (HKP.out _ (Below.refl _ w1).drew) (fun hHeld => ?_)
  have hB := (Below.refl w1.heap.size w1).drew
  generalize w1.drew = u0 at hHeld hB ⊢
  refine wpAnyH_take (i := 0) (oi := ⟨some 8, _, _, _, _, _⟩) (v := ?vfa0_1) rfl (by kernel_rfl) (by kernel_rfl) (by kernel_rfl) (fun _ _ _ h => h) (Or.inl ⟨by rfl, ?yfa0_1⟩) hHeld ?rfa0_1
  case yfa0_1 => (intro w' hSw; (try dsimp only at hSw); go_simp; try (with_reducible rfl))
  simp only [Act.put, List.setIfInBounds_toArray, List.set_cons_zero, List.set_cons_succ]
  refine wpAnyH_take (i := 1) (oi := ⟨some 9, _, _, _, _, _⟩) (v := ?vfa1_2) rfl (by kernel_rfl) (by kernel_rfl) (by kernel_rfl) (fun _ _ _ h => h) (Or.inl ⟨by rfl, ?yfa1_2⟩) hHeld ?rfa1_2
  case yfa1_2 => (intro w' hSw; (try dsimp only at hSw); go_simp; try (with_reducible rfl))
  simp only [Act.put, List.setIfInBounds_toArray, List.set_cons_zero, List.set_cons_succ]
  refine wpAnyH_take (i := 2) (oi := ⟨some 10, _, _, _, _, _⟩) (v := ?vfa2_3) rfl (by kernel_rfl) (by kernel_rfl) (by kernel_rfl) (fun _ _ _ h => h) (Or.inl ⟨by rfl, ?yfa2_3⟩) hHeld ?rfa2_3
  case yfa2_3 => (intro w' hSw; (try dsimp only at hSw); go_simp; try (with_reducible rfl))
  simp only [Act.put, List.setIfInBounds_toArray, List.set_cons_zero, List.set_cons_succ]
  refine wpAnyH_take (i := 3) (oi := ⟨some 11, _, _, _, _, _⟩) (v := ?vfa3_4) rfl (by kernel_rfl) (by kernel_rfl) (by kernel_rfl) (fun _ _ _ h => h) (Or.inl ⟨by rfl, ?yfa3_4⟩) hHeld ?rfa3_4
  case yfa3_4 => (intro w' hSw; (try dsimp only at hSw); go_simp; try (with_reducible rfl))
  simp only [Act.put, List.setIfInBounds_toArray, List.set_cons_zero, List.set_cons_succ]
  refine wpAnyH_take (i := 4) (oi := ⟨some 12, _, _, _, _, _⟩) (v := ?vfa4_5) rfl (by kernel_rfl) (by kernel_rfl) (by kernel_rfl) (fun _ _ _ h => h) (Or.inl ⟨by rfl, ?yfa4_5⟩) hHeld ?rfa4_5
  case yfa4_5 => (intro w' hSw; (try dsimp only at hSw); go_simp; try (with_reducible rfl))
  simp only [Act.put, List.setIfInBounds_toArray, List.set_cons_zero, List.set_cons_succ]
  refine wpAnyH_take (i := 5) (oi := ⟨some 13, _, _, _, _, _⟩) (v := ?vfa5_6) rfl (by kernel_rfl) (by kernel_rfl) (by kernel_rfl) (fun _ _ _ h => h) (Or.inl ⟨by rfl, ?yfa5_6⟩) hHeld ?rfa5_6
  case yfa5_6 => (intro w' hSw; (try dsimp only at hSw); go_simp; try (with_reducible rfl))
  simp only [Act.put, List.setIfInBounds_toArray, List.set_cons_zero, List.set_cons_succ]
  refine wpAnyH_take (i := 6) (oi := ⟨some 14, _, _, _, _, _⟩) (v := ?vfa6_7) rfl (by kernel_rfl) (by kernel_rfl) (by kernel_rfl) (fun _ _ _ h => h) (Or.inl ⟨by rfl, ?yfa6_7⟩) hHeld ?rfa6_7
  case yfa6_7 => (intro w' hSw; (try dsimp only at hSw); go_simp; try (with_reducible rfl))
  simp only [Act.put, List.setIfInBounds_toArray, List.set_cons_zero, List.set_cons_succ]
  refine wpAnyH_ready (rs := [7]) (by kernel_rfl) (by simp) ?_
  refine AllReadyH.cons (o := ⟨some 5, _, _, _, _, _⟩) rfl (fun K hK => ?_) AllReadyH.nil
  go_simp
  have hb := below1 u0 (.cells #[.int .i64 0, .int .i64 0] 51)
  have hB2 := hB.trans (hb.mono hB.size)
  refine hK.out _ _ (HKP.out _ hB2) (fun hNext => ?_)
  have t_h : Nb w1.heap.size (u0.alloc (.cells #[.int .i64 0, .int .i64 0] 51)) u0.heap.size 51 #[.int .i64 0, .int .i64 0] := Nb.top u0 hB.size
  clear hK K hHeld
  have hHeld := hNext
  clear hNext
  clear hB
  have hB := hB2
  clear hB2
  clear hb
  generalize hgen : (u0.alloc (.cells #[.int .i64 0, .int .i64 0] 51)) = u1 at hHeld hB  t_h ⊢
  clear hgen
  generalize hgen : u0.heap.size = b_h at t_h  ⊢
  clear hgen
  try simp only [Act.put, List.setIfInBounds_toArray, List.set_cons_zero, List.set_cons_succ]
  refine wpAnyH_ready (rs := [8]) (by kernel_rfl) (by simp) ?_
  refine AllReadyH.cons (o := ⟨none, _, _, _, _, _⟩) rfl (fun K hK => ?_) AllReadyH.nil
  rw [if_pos (by rfl)]
  refine wp_store_mid 51 _ _ rfl b_h 0 #[.int .i64 (n : Int), .int .i64 port] rfl rfl t_h.there infoSpotS (by simp [Value.oneCell']) ?_
  (try dsimp only)
  have hB2 := (Below.setCells [.int .i64 (n : Int), .int .i64 port] 0 _ hB t_h.2)
  refine hK.out _ _ (HKP.out _ hB2) (fun hNext => ?_)
  clear hK K hHeld
  have hHeld := hNext
  clear hNext
  clear hB
  have hB := hB2
  clear hB2
  replace t_h := t_h.put [.int .i64 (n : Int), .int .i64 port] rfl
  generalize hgen : (World.setCells u1 b_h 0 [.int .i64 (n : Int), .int .i64 port]) = u2 at hHeld hB t_h ⊢
  clear hgen
  try simp only [Act.put]
  refine wpAnyH_done (by kernel_rfl) ?_ _
  have HW2 := Lib.hid (HW1.out.on hB)
  have HC2 := Lib.hid (HC1.out.trans (Ch.of_below hB))
  have HBB2 := Lib.hid (HBB.out.trans (hB.mono HBB.out.size))
  have HD2 := Lib.hid (HD1.out.on hB)
  have HS2 := Lib.hid t_h.1
  have hbh : b_h ≠ p := fun e => by have := t_h.2; have := HW1.out.lt; omega
  clear hHeld hB t_h HKP HW1 HC1 HBB HD1
  have d0 := (HD2.out.cell 0).trans rfl
  have d2 := (HD2.out.cell 2).trans rfl
  have k9 := (HW2.out.cell 9).trans rfl
  have g9 := HW2.out.free 9
  simp only [List.getElem?_toArray, List.getElem?_cons_succ, List.getElem?_cons_zero] at d0 d2 k9
  go_upto_region 6 with (fail)
  have HKP : Hid (∀ W, Below wb.heap.size wb W → Below wb.heap.size wb W) := fun W hb => hb
  refine wp_region_held_drew (S := fun w' => Below wb.heap.size wb w') (by kernel_rfl) (HKP.out _ HBB2.out.drew) (fun hHeld => ?_)
  have hB := HBB2.out.drew
  have hC : Ch (fun k => k = p) w u2.drew := HC2.out.trans (Ch.of_below (Below.refl _ u2).drew)
  have hW : Blk u2.drew p 81 _ := HW2.out
  have hS : Blk u2.drew b_h 51 _ := HS2.out
  clear HC2 HBB2 HD2 HW2 HS2 d0 d2 k9 g9
  generalize u2.drew = u3 at hHeld hB hC hW hS ⊢
  refine wpAnyH_take (i := 0) (oi := ⟨some 25, _, _, _, _, _⟩) (v := ?vfd0_1) rfl (by kernel_rfl) (by kernel_rfl) (by kernel_rfl) (fun _ _ _ h => h) (Or.inl ⟨by rfl, ?yfd0_1⟩) hHeld ?rfd0_1
  case yfd0_1 => (intro w' hSw; (try dsimp only at hSw); go_simp; try (with_reducible rfl))
  simp only [Act.put, List.setIfInBounds_toArray, List.set_cons_zero, List.set_cons_succ]
  refine wpAnyH_take (i := 1) (oi := ⟨some 26, _, _, _, _, _⟩) (v := ?vfd1_2) rfl (by kernel_rfl) (by kernel_rfl) (by kernel_rfl) (fun _ _ _ h => h) (Or.inl ⟨by rfl, ?yfd1_2⟩) hHeld ?rfd1_2
  case yfd1_2 => (intro w' hSw; (try dsimp only at hSw); go_simp; try (with_reducible rfl))
  simp only [Act.put, List.setIfInBounds_toArray, List.set_cons_zero, List.set_cons_succ]
  refine wpAnyH_take (i := 3) (oi := ⟨some 28, _, _, _, _, _⟩) (v := ?vfd3_3) rfl (by kernel_rfl) (by kernel_rfl) (by kernel_rfl) (fun _ _ _ h => h) (Or.inl ⟨by rfl, ?yfd3_3⟩) hHeld ?rfd3_3
  case yfd3_3 => (intro w' hSw; (try dsimp only at hSw); go_simp; try (with_reducible rfl))
  simp only [Act.put, List.setIfInBounds_toArray, List.set_cons_zero, List.set_cons_succ]
  refine wpAnyH_take (i := 4) (oi := ⟨some 29, _, _, _, _, _⟩) (v := ?vfd4_4) rfl (by kernel_rfl) (by kernel_rfl) (by kernel_rfl) (fun _ _ _ h => h) (Or.inl ⟨by rfl, ?yfd4_4⟩) hHeld ?rfd4_4
  case yfd4_4 => (intro w' hSw; (try dsimp only at hSw); go_simp; try (with_reducible rfl))
  simp only [Act.put, List.setIfInBounds_toArray, List.set_cons_zero, List.set_cons_succ]
  refine wpAnyH_take (i := 5) (oi := ⟨some 30, _, _, _, _, _⟩) (v := ?vfd5_5) rfl (by kernel_rfl) (by kernel_rfl) (by kernel_rfl) (fun _ _ _ h => h) (Or.inl ⟨by rfl, ?yfd5_5⟩) hHeld ?rfd5_5
  case yfd5_5 => (intro w' hSw; (try dsimp only at hSw); go_simp; try (with_reducible rfl))
  simp only [Act.put, List.setIfInBounds_toArray, List.set_cons_zero, List.set_cons_succ]
  refine wpAnyH_ready (rs := [2, 6]) (by kernel_rfl) (by simp) ?_
  refine AllReadyH.cons (o := ⟨some 27, _, _, _, _, _⟩) rfl (fun K hK => ?_) ?_
  · obtain ⟨s0, s1⟩ := hS.both
    go_simp
    refine hK.out _ _ hHeld (fun hNext => ?_)
    clear hK K hHeld
    have hHeld := hNext
    clear hNext
    clear s0 s1
    try simp only [Act.put, List.setIfInBounds_toArray, List.set_cons_zero, List.set_cons_succ]
    refine wpAnyH_ready (rs := [6]) (by kernel_rfl) (by simp) ?_
    refine AllReadyH.cons (o := ⟨none, _, _, _, _, _⟩) rfl (fun K hK => ?_) AllReadyH.nil
    have k9 := (hW.cell 9).trans rfl
    have g9 := hW.free 9
    simp only [List.getElem?_toArray, List.getElem?_cons_succ, List.getElem?_cons_zero] at k9
    go_simp
    clear k9 g9
    have hB2 := hB.setCell (p := ⟨p, 9, none⟩) hp (.int .i64 2)
    refine hK.out _ _ (HKP.out _ hB2) (fun hNext => ?_)
    clear hK K hHeld
    have hHeld := hNext
    clear hNext
    clear hB
    have hB := hB2
    clear hB2
    have hC2 := hC.trans ((Ch.set u3 ⟨p, 9, none⟩ (.int .i64 2)).mono fun k _ h => h)
    clear hC
    have hC := hC2
    clear hC2
    replace hS := hS.far (p := ⟨p, 9, none⟩) hbh (.int .i64 2)
    replace hW := hW.set 9 (.int .i64 2)
    simp only [List.setIfInBounds_toArray, List.set_cons_succ, List.set_cons_zero] at hW
    generalize hgen : u3.setCell ⟨p, 9, none⟩ (.int .i64 2) = v1 at hHeld hB hC hW hS ⊢
    clear hgen
    try simp only [Act.put]
    refine wpAnyH_take (i := 7) (oi := ⟨some 31, _, _, _, _, _⟩) (v := ?vfd7_6) rfl (by kernel_rfl) (by kernel_rfl) (by kernel_rfl) (fun _ _ _ h => h) (Or.inl ⟨by rfl, ?yfd7_6⟩) hHeld ?rfd7_6
    case yfd7_6 => (intro w' hSw; (try dsimp only at hSw); go_simp; try (with_reducible rfl))
    simp only [Act.put, List.setIfInBounds_toArray, List.set_cons_zero, List.set_cons_succ]
    refine wpAnyH_take (i := 8) (oi := ⟨some 32, _, _, _, _, _⟩) (v := ?vfd8_7) rfl (by kernel_rfl) (by kernel_rfl) (by kernel_rfl) (fun _ _ _ h => h) (Or.inl ⟨by rfl, ?yfd8_7⟩) hHeld ?rfd8_7
    case yfd8_7 => (intro w' hSw; (try dsimp only at hSw); go_simp; try (with_reducible rfl))
    simp only [Act.put, List.setIfInBounds_toArray, List.set_cons_zero, List.set_cons_succ]
    refine wpAnyH_take (i := 9) (oi := ⟨some 33, _, _, _, _, _⟩) (v := ?vfd9_8) rfl (by kernel_rfl) (by kernel_rfl) (by kernel_rfl) (fun _ _ _ h => h) (Or.inl ⟨by rfl, ?yfd9_8⟩) hHeld ?rfd9_8
    case yfd9_8 => (intro w' hSw; (try dsimp only at hSw); go_simp; try (with_reducible rfl))
    simp only [Act.put, List.setIfInBounds_toArray, List.set_cons_zero, List.set_cons_succ]
    refine wpAnyH_ready (rs := [10]) (by kernel_rfl) (by simp) ?_
    refine AllReadyH.cons (o := ⟨none, _, _, _, _, _⟩) rfl (fun K hK => ?_) AllReadyH.nil
    have x0 := (hW.cell 10).trans rfl
    have x1 := (hW.cell 11).trans rfl
    have y0 := hW.free 10
    have y1 := hW.free 11
    simp only [List.getElem?_toArray, List.getElem?_cons_succ, List.getElem?_cons_zero] at x0 x1
    go_simp
    have hB2 := (hB.setCell (p := ⟨p, 10, none⟩) hp (.int .i64 (n : Int))).setCell (p := ⟨p, 11, none⟩) hp (.int .i64 port)
    refine hK.out _ _ (HKP.out _ hB2) (fun hNext => ?_)
    clear hK K hHeld
    have hHeld := hNext
    clear hNext
    clear hB x0 x1 y0 y1
    have hB := hB2
    clear hB2
    have hC2 := hC.trans (((Ch.set v1 ⟨p, 10, none⟩ (.int .i64 (n : Int))).trans (Ch.set _ ⟨p, 11, none⟩ (.int .i64 port))).mono fun k _ h => h)
    clear hC
    have hC := hC2
    clear hC2
    clear hS
    replace hW := (hW.set 10 (.int .i64 (n : Int))).set 11 (.int .i64 port)
    simp only [List.setIfInBounds_toArray, List.set_cons_succ, List.set_cons_zero] at hW
    generalize hgen : ((v1.setCell ⟨p, 10, none⟩ (.int .i64 (n : Int))).setCell ⟨p, 11, none⟩ (.int .i64 port)) = v2 at hHeld hB hC hW ⊢
    clear hgen
    try simp only [Act.put]
    refine wpAnyH_done (by kernel_rfl) ?_ _
    have k9 := (hW.cell 9).trans rfl
    simp only [List.getElem?_toArray, List.getElem?_cons_succ, List.getElem?_cons_zero] at k9
    have HE := Lib.hid hW
    have HCE := Lib.hid hC
    clear hW hC hB hHeld HKP
    go_wp2
    go_ret
    exact ⟨rfl, HE.out, HCE.out⟩
  refine AllReadyH.cons (o := ⟨none, _, _, _, _, _⟩) rfl (fun K hK => ?_) AllReadyH.nil
  have k9 := (hW.cell 9).trans rfl
  have g9 := hW.free 9
  simp only [List.getElem?_toArray, List.getElem?_cons_succ, List.getElem?_cons_zero] at k9
  go_simp
  clear k9 g9
  have hB2 := hB.setCell (p := ⟨p, 9, none⟩) hp (.int .i64 2)
  refine hK.out _ _ (HKP.out _ hB2) (fun hNext => ?_)
  clear hK K hHeld
  have hHeld := hNext
  clear hNext
  clear hB
  have hB := hB2
  clear hB2
  have hC2 := hC.trans ((Ch.set u3 ⟨p, 9, none⟩ (.int .i64 2)).mono fun k _ h => h)
  clear hC
  have hC := hC2
  clear hC2
  replace hS := hS.far (p := ⟨p, 9, none⟩) hbh (.int .i64 2)
  replace hW := hW.set 9 (.int .i64 2)
  simp only [List.setIfInBounds_toArray, List.set_cons_succ, List.set_cons_zero] at hW
  generalize hgen : u3.setCell ⟨p, 9, none⟩ (.int .i64 2) = v3 at hHeld hB hC hW hS ⊢
  clear hgen
  try simp only [Act.put]
  refine wpAnyH_ready (rs := [2]) (by kernel_rfl) (by simp) ?_
  refine AllReadyH.cons (o := ⟨some 27, _, _, _, _, _⟩) rfl (fun K hK => ?_) AllReadyH.nil
  obtain ⟨s0, s1⟩ := hS.both
  go_simp
  refine hK.out _ _ hHeld (fun hNext => ?_)
  clear hK K hHeld
  have hHeld := hNext
  clear hNext
  clear s0 s1
  try simp only [Act.put, List.setIfInBounds_toArray, List.set_cons_zero, List.set_cons_succ]
  refine wpAnyH_take (i := 7) (oi := ⟨some 31, _, _, _, _, _⟩) (v := ?vfd7_9) rfl (by kernel_rfl) (by kernel_rfl) (by kernel_rfl) (fun _ _ _ h => h) (Or.inl ⟨by rfl, ?yfd7_9⟩) hHeld ?rfd7_9
  case yfd7_9 => (intro w' hSw; (try dsimp only at hSw); go_simp; try (with_reducible rfl))
  simp only [Act.put, List.setIfInBounds_toArray, List.set_cons_zero, List.set_cons_succ]
  refine wpAnyH_take (i := 8) (oi := ⟨some 32, _, _, _, _, _⟩) (v := ?vfd8_10) rfl (by kernel_rfl) (by kernel_rfl) (by kernel_rfl) (fun _ _ _ h => h) (Or.inl ⟨by rfl, ?yfd8_10⟩) hHeld ?rfd8_10
  case yfd8_10 => (intro w' hSw; (try dsimp only at hSw); go_simp; try (with_reducible rfl))
  simp only [Act.put, List.setIfInBounds_toArray, List.set_cons_zero, List.set_cons_succ]
  refine wpAnyH_take (i := 9) (oi := ⟨some 33, _, _, _, _, _⟩) (v := ?vfd9_11) rfl (by kernel_rfl) (by kernel_rfl) (by kernel_rfl) (fun _ _ _ h => h) (Or.inl ⟨by rfl, ?yfd9_11⟩) hHeld ?rfd9_11
  case yfd9_11 => (intro w' hSw; (try dsimp only at hSw); go_simp; try (with_reducible rfl))
  simp only [Act.put, List.setIfInBounds_toArray, List.set_cons_zero, List.set_cons_succ]
  refine wpAnyH_ready (rs := [10]) (by kernel_rfl) (by simp) ?_
  refine AllReadyH.cons (o := ⟨none, _, _, _, _, _⟩) rfl (fun K hK => ?_) AllReadyH.nil
  have x0 := (hW.cell 10).trans rfl
  have x1 := (hW.cell 11).trans rfl
  have y0 := hW.free 10
  have y1 := hW.free 11
  simp only [List.getElem?_toArray, List.getElem?_cons_succ, List.getElem?_cons_zero] at x0 x1
  go_simp
  have hB2 := (hB.setCell (p := ⟨p, 10, none⟩) hp (.int .i64 (n : Int))).setCell (p := ⟨p, 11, none⟩) hp (.int .i64 port)
  refine hK.out _ _ (HKP.out _ hB2) (fun hNext => ?_)
  clear hK K hHeld
  have hHeld := hNext
  clear hNext
  clear hB x0 x1 y0 y1
  have hB := hB2
  clear hB2
  have hC2 := hC.trans (((Ch.set v3 ⟨p, 10, none⟩ (.int .i64 (n : Int))).trans (Ch.set _ ⟨p, 11, none⟩ (.int .i64 port))).mono fun k _ h => h)
  clear hC
  have hC := hC2
  clear hC2
  clear hS
  replace hW := (hW.set 10 (.int .i64 (n : Int))).set 11 (.int .i64 port)
  simp only [List.setIfInBounds_toArray, List.set_cons_succ, List.set_cons_zero] at hW
  generalize hgen : ((v3.setCell ⟨p, 10, none⟩ (.int .i64 (n : Int))).setCell ⟨p, 11, none⟩ (.int .i64 port)) = v4 at hHeld hB hC hW ⊢
  clear hgen
  try simp only [Act.put]
  refine wpAnyH_done (by kernel_rfl) ?_ _
  have k9 := (hW.cell 9).trans rfl
  simp only [List.getElem?_toArray, List.getElem?_cons_succ, List.getElem?_cons_zero] at k9
  have HE := Lib.hid hW
  have HCE := Lib.hid hC
  clear hW hC hB hHeld HKP
  go_wp2
  go_ret
  exact ⟨rfl, HE.out, HCE.out⟩
set_option maxRecDepth 100000 in
set_option maxHeartbeats 4000000 in
theorem follow_forward {T : List (List Pt)} {BB : List (List (List Rl))} {tA pA wA bA : Option Addr} {tc pn pc wn wcp bc : Nat} {ten : Int} {n : Nat} {t port tab : Int} {hh hl svh svl sch scl : BitVec 64} {hv : Value} {w wb : World} {p : Nat} (hBb : Below wb.heap.size wb w) (hp : wb.heap.size ≤ p) (hW : Blk w p 81 #[.slice tA T.length tc, .int .i64 ten, .slice pA pn pc, .slice wA wn wcp, .slice bA BB.length bc, .int .i64 (n : Int), .int .i64 t, .int .u64 (uv hh), .int .u64 (uv hl), .int .i64 0, .int .i64 0, .int .i64 0, hv]) (hT : PsT wb (.slice tA T.length tc) T) (hz : sTp T = 0) {L : List Pt} {j m : Nat} {q : Pt} (hL : T[n]? = some L) (hq : L[j]? = some q) (hq2 : q.kind = 2) (hqm : q.peer = (m : Int)) (hj : port = (j : Int)) :
    Calls Try.prog 43 #[.pointer (some ⟨p, 0, none⟩), .agg #[.int .i64 3, .int .i64 port, .int .i64 tab, .int .u64 (uv svh), .int .u64 (uv svl), .int .u64 (uv sch), .int .u64 (uv scl)]] w fun e w' => e = .returned (.bool true) ∧ Blk w' p 81 #[.slice tA T.length tc, .int .i64 ten, .slice pA pn pc, .slice wA wn wcp, .slice bA BB.length bc, .int .i64 (m : Int), .int .i64 0, .int .u64 (uv hh), .int .u64 (uv hl), .int .i64 0, .int .i64 0, .int .i64 0, hv] ∧ Ch (fun k => k = p) w w' := by
  subst hj
  have HT := Lib.hid hT
  have HZ := Lib.hid hz
  have HL := Lib.hid hL
  have HQ := Lib.hid hq
  clear hT hz hL hq
  have hb1 := below1 w (.cells #[.int .i64 3, .int .i64 (j : Int), .int .i64 tab, .int .u64 (uv svh), .int .u64 (uv svl), .int .u64 (uv sch), .int .u64 (uv scl)] 36)
  have HW1 := Lib.hid (hW.on hb1)
  have HC1 := Lib.hid (Ch.of_below hb1 : Ch (fun k => k = p) w _)
  have HBB := Lib.hid (hBb.trans (hb1.mono hBb.size))
  have HD1 : Hid (Blk (w.alloc (.cells #[.int .i64 3, .int .i64 (j : Int), .int .i64 tab, .int .u64 (uv svh), .int .u64 (uv svl), .int .u64 (uv sch), .int .u64 (uv scl)] 36)) w.heap.size 36 #[.int .i64 3, .int .i64 (j : Int), .int .i64 tab, .int .u64 (uv svh), .int .u64 (uv svl), .int .u64 (uv sch), .int .u64 (uv scl)]) := Blk.new w _ _
  have hpl : p < w.heap.size := hW.lt
  have _ := hp
  clear hW hBb hb1
  go_enter Try.func43, Try.ntmps43
  go_upto_region 1 with (fail)
  generalize (w.alloc (.cells #[.int .i64 3, .int .i64 (j : Int), .int .i64 tab, .int .u64 (uv svh), .int .u64 (uv svl), .int .u64 (uv sch), .int .u64 (uv scl)] 36)) = w1 at HW1 HC1 HBB HD1 ⊢
  have HKP : Hid (∀ W, Below w1.heap.size w1 W → (Below w1.heap.size w1 W ∧ W.cell? ⟨p, 5, none⟩ = some (.int .i64 (n : Int)) ∧ W.cell? ⟨w.heap.size, 1, none⟩ = some (.int .i64 (j : Int)))) := fun W hb => ⟨hb, ((HW1.out.on hb).cell 5).trans rfl, ((HD1.out.on hb).cell 1).trans rfl⟩
  refine wp_region_held_drew (S := fun w' => Below w1.heap.size w1 w' ∧ w'.cell? ⟨p, 5, none⟩ = some (.int .i64 (n : Int)) ∧ w'.cell? ⟨w.heap.size, 1, none⟩ = some (.int .i64 (j : Int))) (by kernel_rfl) (HKP.out _ (Below.refl _ w1).drew) (fun hHeld => ?_)
  have hB := (Below.refl w1.heap.size w1).drew
  generalize w1.drew = u0 at hHeld hB ⊢
  refine wpAnyH_take (i := 0) (oi := ⟨some 8, _, _, _, _, _⟩) (v := ?vfa0_1) rfl (by kernel_rfl) (by kernel_rfl) (by kernel_rfl) (fun _ _ _ h => h) (Or.inl ⟨by rfl, ?yfa0_1⟩) hHeld ?rfa0_1
  case yfa0_1 => (intro w' hSw; (try dsimp only at hSw); go_simp; try (with_reducible rfl))
  simp only [Act.put, List.setIfInBounds_toArray, List.set_cons_zero, List.set_cons_succ]
  refine wpAnyH_take (i := 1) (oi := ⟨some 9, _, _, _, _, _⟩) (v := ?vfa1_2) rfl (by kernel_rfl) (by kernel_rfl) (by kernel_rfl) (fun _ _ _ h => h) (Or.inl ⟨by rfl, ?yfa1_2⟩) hHeld ?rfa1_2
  case yfa1_2 => (intro w' hSw; (try dsimp only at hSw); go_simp; try (with_reducible rfl))
  simp only [Act.put, List.setIfInBounds_toArray, List.set_cons_zero, List.set_cons_succ]
  refine wpAnyH_take (i := 2) (oi := ⟨some 10, _, _, _, _, _⟩) (v := ?vfa2_3) rfl (by kernel_rfl) (by kernel_rfl) (by kernel_rfl) (fun _ _ _ h => h) (Or.inl ⟨by rfl, ?yfa2_3⟩) hHeld ?rfa2_3
  case yfa2_3 => (intro w' hSw; (try dsimp only at hSw); go_simp; try (with_reducible rfl))
  simp only [Act.put, List.setIfInBounds_toArray, List.set_cons_zero, List.set_cons_succ]
  refine wpAnyH_take (i := 3) (oi := ⟨some 11, _, _, _, _, _⟩) (v := ?vfa3_4) rfl (by kernel_rfl) (by kernel_rfl) (by kernel_rfl) (fun _ _ _ h => h) (Or.inl ⟨by rfl, ?yfa3_4⟩) hHeld ?rfa3_4
  case yfa3_4 => (intro w' hSw; (try dsimp only at hSw); go_simp; try (with_reducible rfl))
  simp only [Act.put, List.setIfInBounds_toArray, List.set_cons_zero, List.set_cons_succ]
  refine wpAnyH_take (i := 4) (oi := ⟨some 12, _, _, _, _, _⟩) (v := ?vfa4_5) rfl (by kernel_rfl) (by kernel_rfl) (by kernel_rfl) (fun _ _ _ h => h) (Or.inl ⟨by rfl, ?yfa4_5⟩) hHeld ?rfa4_5
  case yfa4_5 => (intro w' hSw; (try dsimp only at hSw); go_simp; try (with_reducible rfl))
  simp only [Act.put, List.setIfInBounds_toArray, List.set_cons_zero, List.set_cons_succ]
  refine wpAnyH_take (i := 5) (oi := ⟨some 13, _, _, _, _, _⟩) (v := ?vfa5_6) rfl (by kernel_rfl) (by kernel_rfl) (by kernel_rfl) (fun _ _ _ h => h) (Or.inl ⟨by rfl, ?yfa5_6⟩) hHeld ?rfa5_6
  case yfa5_6 => (intro w' hSw; (try dsimp only at hSw); go_simp; try (with_reducible rfl))
  simp only [Act.put, List.setIfInBounds_toArray, List.set_cons_zero, List.set_cons_succ]
  refine wpAnyH_take (i := 6) (oi := ⟨some 14, _, _, _, _, _⟩) (v := ?vfa6_7) rfl (by kernel_rfl) (by kernel_rfl) (by kernel_rfl) (fun _ _ _ h => h) (Or.inl ⟨by rfl, ?yfa6_7⟩) hHeld ?rfa6_7
  case yfa6_7 => (intro w' hSw; (try dsimp only at hSw); go_simp; try (with_reducible rfl))
  simp only [Act.put, List.setIfInBounds_toArray, List.set_cons_zero, List.set_cons_succ]
  refine wpAnyH_ready (rs := [7]) (by kernel_rfl) (by simp) ?_
  refine AllReadyH.cons (o := ⟨some 5, _, _, _, _, _⟩) rfl (fun K hK => ?_) AllReadyH.nil
  go_simp
  have hb := below1 u0 (.cells #[.int .i64 0, .int .i64 0] 51)
  have hB2 := hB.trans (hb.mono hB.size)
  refine hK.out _ _ (HKP.out _ hB2) (fun hNext => ?_)
  have t_h : Nb w1.heap.size (u0.alloc (.cells #[.int .i64 0, .int .i64 0] 51)) u0.heap.size 51 #[.int .i64 0, .int .i64 0] := Nb.top u0 hB.size
  clear hK K hHeld
  have hHeld := hNext
  clear hNext
  clear hB
  have hB := hB2
  clear hB2
  clear hb
  generalize hgen : (u0.alloc (.cells #[.int .i64 0, .int .i64 0] 51)) = u1 at hHeld hB  t_h ⊢
  clear hgen
  generalize hgen : u0.heap.size = b_h at t_h  ⊢
  clear hgen
  try simp only [Act.put, List.setIfInBounds_toArray, List.set_cons_zero, List.set_cons_succ]
  refine wpAnyH_ready (rs := [8]) (by kernel_rfl) (by simp) ?_
  refine AllReadyH.cons (o := ⟨none, _, _, _, _, _⟩) rfl (fun K hK => ?_) AllReadyH.nil
  rw [if_pos (by rfl)]
  refine wp_store_mid 51 _ _ rfl b_h 0 #[.int .i64 (n : Int), .int .i64 (j : Int)] rfl rfl t_h.there infoSpotS (by simp [Value.oneCell']) ?_
  (try dsimp only)
  have hB2 := (Below.setCells [.int .i64 (n : Int), .int .i64 (j : Int)] 0 _ hB t_h.2)
  refine hK.out _ _ (HKP.out _ hB2) (fun hNext => ?_)
  clear hK K hHeld
  have hHeld := hNext
  clear hNext
  clear hB
  have hB := hB2
  clear hB2
  replace t_h := t_h.put [.int .i64 (n : Int), .int .i64 (j : Int)] rfl
  generalize hgen : (World.setCells u1 b_h 0 [.int .i64 (n : Int), .int .i64 (j : Int)]) = u2 at hHeld hB t_h ⊢
  clear hgen
  try simp only [Act.put]
  refine wpAnyH_done (by kernel_rfl) ?_ _
  have HW2 := Lib.hid (HW1.out.on hB)
  have HC2 := Lib.hid (HC1.out.trans (Ch.of_below hB))
  have HBB2 := Lib.hid (HBB.out.trans (hB.mono HBB.out.size))
  have HD2 := Lib.hid (HD1.out.on hB)
  have HS2 := Lib.hid t_h.1
  have hbh : b_h ≠ p := fun e => by have := t_h.2; have := HW1.out.lt; omega
  clear hHeld hB t_h HKP HW1 HC1 HBB HD1
  have d0 := (HD2.out.cell 0).trans rfl
  have d2 := (HD2.out.cell 2).trans rfl
  have k9 := (HW2.out.cell 9).trans rfl
  have g9 := HW2.out.free 9
  simp only [List.getElem?_toArray, List.getElem?_cons_succ, List.getElem?_cons_zero] at d0 d2 k9
  go_upto_region 8 with (fail)
  go_cut [6, 7] (fun i o wc => ∃ b6 : Nat, i = .pointer (some ⟨b6, 0, none⟩) ∧ o = .bool true ∧ Below u2.heap.size u2 wc ∧ Blk wc b6 51 #[.int .i64 (m : Int), .int .i64 q.spot] ∧ u2.heap.size ≤ b6)
  case first =>
    have HKP : Hid (∀ W, Below u2.heap.size u2 W → (Below u2.heap.size u2 W ∧ W.cell? ⟨p, 0, none⟩ = some (.slice tA T.length tc) ∧ W.cell? ⟨b_h, 0, none⟩ = some (.int .i64 (n : Int)) ∧ W.cell? ⟨b_h, 1, none⟩ = some (.int .i64 (j : Int)))) := fun W hb => ⟨hb, ((HW2.out.on hb).cell 0).trans rfl, (HS2.out.on hb).both⟩
    clear d0 d2 k9 g9
    refine wp_region_held_drew (S := fun w' => Below u2.heap.size u2 w' ∧ w'.cell? ⟨p, 0, none⟩ = some (.slice tA T.length tc) ∧ w'.cell? ⟨b_h, 0, none⟩ = some (.int .i64 (n : Int)) ∧ w'.cell? ⟨b_h, 1, none⟩ = some (.int .i64 (j : Int))) (by kernel_rfl) (HKP.out _ (Below.refl _ u2).drew) (fun hHeld => ?_)
    have hB := (Below.refl u2.heap.size u2).drew
    generalize u2.drew = u3 at hHeld hB ⊢
    refine wpAnyH_take (i := 0) (oi := ⟨some 37, _, _, _, _, _⟩) (v := ?vfo0_1) rfl (by kernel_rfl) (by kernel_rfl) (by kernel_rfl) (fun _ _ _ h => h) (Or.inl ⟨by rfl, ?yfo0_1⟩) hHeld ?rfo0_1
    case yfo0_1 => (intro w' hSw; (try dsimp only at hSw); go_simp; try (with_reducible rfl))
    simp only [Act.put, List.setIfInBounds_toArray, List.set_cons_zero, List.set_cons_succ]
    refine wpAnyH_take (i := 1) (oi := ⟨some 38, _, _, _, _, _⟩) (v := ?vfo1_2) rfl (by kernel_rfl) (by kernel_rfl) (by kernel_rfl) (fun _ _ _ h => h) (Or.inl ⟨by rfl, ?yfo1_2⟩) hHeld ?rfo1_2
    case yfo1_2 => (intro w' hSw; (try dsimp only at hSw); go_simp; try (with_reducible rfl))
    simp only [Act.put, List.setIfInBounds_toArray, List.set_cons_zero, List.set_cons_succ]
    refine wpAnyH_take (i := 2) (oi := ⟨some 39, _, _, _, _, _⟩) (v := ?vfo2_3) rfl (by kernel_rfl) (by kernel_rfl) (by kernel_rfl) (fun _ _ _ h => h) (Or.inl ⟨by rfl, ?yfo2_3⟩) hHeld ?rfo2_3
    case yfo2_3 => (intro w' hSw; (try dsimp only at hSw); go_simp; try (with_reducible rfl))
    simp only [Act.put, List.setIfInBounds_toArray, List.set_cons_zero, List.set_cons_succ]
    refine wpAnyH_take (i := 3) (oi := ⟨some 40, _, _, _, _, _⟩) (v := ?vfo3_4) rfl (by kernel_rfl) (by kernel_rfl) (by kernel_rfl) (fun _ _ _ h => h) (Or.inl ⟨by rfl, ?yfo3_4⟩) hHeld ?rfo3_4
    case yfo3_4 => (intro w' hSw; (try dsimp only at hSw); go_simp; try (with_reducible rfl))
    simp only [Act.put, List.setIfInBounds_toArray, List.set_cons_zero, List.set_cons_succ]
    refine wpAnyH_take (i := 4) (oi := ⟨some 41, _, _, _, _, _⟩) (v := ?vfo4_5) rfl (by kernel_rfl) (by kernel_rfl) (by kernel_rfl) (fun _ _ _ h => h) (Or.inl ⟨by rfl, ?yfo4_5⟩) hHeld ?rfo4_5
    case yfo4_5 => (intro w' hSw; (try dsimp only at hSw); go_simp; try (with_reducible rfl))
    simp only [Act.put, List.setIfInBounds_toArray, List.set_cons_zero, List.set_cons_succ]
    refine wpAnyH_take (i := 5) (oi := ⟨some 42, _, _, _, _, _⟩) (v := ?vfo5_6) rfl (by kernel_rfl) (by kernel_rfl) (by kernel_rfl) (fun _ _ _ h => h) (Or.inl ⟨by rfl, ?yfo5_6⟩) hHeld ?rfo5_6
    case yfo5_6 => (intro w' hSw; (try dsimp only at hSw); go_simp; try (with_reducible rfl))
    simp only [Act.put, List.setIfInBounds_toArray, List.set_cons_zero, List.set_cons_succ]
    refine wpAnyH_ready (rs := [6, 10]) (by kernel_rfl) (by simp) ?_
    refine AllReadyH.cons (o := ⟨some 43, _, _, _, _, _⟩) rfl (fun K hK => ?_) ?_
    · go_simp
      (with_reducible refine (other_yes (HT.out.on (HBB2.out.trans (hB.mono HBB2.out.size))) HZ.out HL.out HQ.out hq2 hqm).mono ?_)
      rintro e u1 ⟨rfl, hb⟩
      (try dsimp only)
      have hB2 := hB.trans (hb.mono hB.size)
      refine hK.out _ _ (HKP.out _ hB2) (fun hNext => ?_)
      clear hK K hHeld
      have hHeld := hNext
      clear hNext
      clear hB
      have hB := hB2
      clear hB2
      clear hb
      try simp only [Act.put, List.setIfInBounds_toArray, List.set_cons_zero, List.set_cons_succ]
      refine wpAnyH_take (i := 7) (oi := ⟨some 36, _, _, _, _, _⟩) (v := ?vfo7_7) rfl (by kernel_rfl) (by kernel_rfl) (by kernel_rfl) (fun _ _ _ h => h) (Or.inl ⟨by rfl, ?yfo7_7⟩) hHeld ?rfo7_7
      case yfo7_7 => (intro w' hSw; (try dsimp only at hSw); go_simp; try (with_reducible rfl))
      simp only [Act.put, List.setIfInBounds_toArray, List.set_cons_zero, List.set_cons_succ]
      refine wpAnyH_take (i := 8) (oi := ⟨some 44, _, _, _, _, _⟩) (v := ?vfo8_8) rfl (by kernel_rfl) (by kernel_rfl) (by kernel_rfl) (fun _ _ _ h => h) (Or.inl ⟨by rfl, ?yfo8_8⟩) hHeld ?rfo8_8
      case yfo8_8 => (intro w' hSw; (try dsimp only at hSw); go_simp; try (with_reducible rfl))
      simp only [Act.put, List.setIfInBounds_toArray, List.set_cons_zero, List.set_cons_succ]
      refine wpAnyH_take (i := 9) (oi := ⟨some 45, _, _, _, _, _⟩) (v := ?vfo9_9) rfl (by kernel_rfl) (by kernel_rfl) (by kernel_rfl) (fun _ _ _ h => h) (Or.inl ⟨by rfl, ?yfo9_9⟩) hHeld ?rfo9_9
      case yfo9_9 => (intro w' hSw; (try dsimp only at hSw); go_simp; try (with_reducible rfl))
      simp only [Act.put, List.setIfInBounds_toArray, List.set_cons_zero, List.set_cons_succ]
      refine wpAnyH_ready (rs := [10]) (by kernel_rfl) (by simp) ?_
      refine AllReadyH.cons (o := ⟨some 6, _, _, _, _, _⟩) rfl (fun K hK => ?_) AllReadyH.nil
      go_simp
      have hb := below1 u1 (.cells #[.int .i64 0, .int .i64 0] 51)
      have hB2 := hB.trans (hb.mono hB.size)
      refine hK.out _ _ (HKP.out _ hB2) (fun hNext => ?_)
      have t_o : Nb u2.heap.size (u1.alloc (.cells #[.int .i64 0, .int .i64 0] 51)) u1.heap.size 51 #[.int .i64 0, .int .i64 0] := Nb.top u1 hB.size
      clear hK K hHeld
      have hHeld := hNext
      clear hNext
      clear hB
      have hB := hB2
      clear hB2
      clear hb
      generalize hgen : (u1.alloc (.cells #[.int .i64 0, .int .i64 0] 51)) = u2 at hHeld hB  t_o ⊢
      clear hgen
      generalize hgen : u1.heap.size = b_o at t_o  ⊢
      clear hgen
      try simp only [Act.put, List.setIfInBounds_toArray, List.set_cons_zero, List.set_cons_succ]
      refine wpAnyH_ready (rs := [11]) (by kernel_rfl) (by simp) ?_
      refine AllReadyH.cons (o := ⟨none, _, _, _, _, _⟩) rfl (fun K hK => ?_) AllReadyH.nil
      rw [if_pos (by rfl)]
      refine wp_store_mid 51 _ _ rfl b_o 0 #[.int .i64 (m : Int), .int .i64 q.spot] rfl rfl t_o.there infoSpotS (by simp [Value.oneCell']) ?_
      (try dsimp only)
      have hB2 := (Below.setCells [.int .i64 (m : Int), .int .i64 q.spot] 0 _ hB t_o.2)
      refine hK.out _ _ (HKP.out _ hB2) (fun hNext => ?_)
      clear hK K hHeld
      have hHeld := hNext
      clear hNext
      clear hB
      have hB := hB2
      clear hB2
      replace t_o := t_o.put [.int .i64 (m : Int), .int .i64 q.spot] rfl
      generalize hgen : (World.setCells u2 b_o 0 [.int .i64 (m : Int), .int .i64 q.spot]) = u3 at hHeld hB t_o ⊢
      clear hgen
      try simp only [Act.put]
      refine wpAnyH_take (i := 12) (oi := ⟨some 7, _, _, _, _, _⟩) (v := ?vfo12_10) rfl (by kernel_rfl) (by kernel_rfl) (by kernel_rfl) (fun _ _ _ h => h) (Or.inl ⟨by rfl, ?yfo12_10⟩) hHeld ?rfo12_10
      case yfo12_10 => (intro w' hSw; (try dsimp only at hSw); go_simp; try (with_reducible rfl))
      simp only [Act.put, List.setIfInBounds_toArray, List.set_cons_zero, List.set_cons_succ]
      refine wpAnyH_done (by kernel_rfl) ?_ _
      go_wp2_with fail
      go_meet
      exact ⟨b_o, rfl, rfl, hB, t_o.1, t_o.2⟩
    refine AllReadyH.cons (o := ⟨some 6, _, _, _, _, _⟩) rfl (fun K hK => ?_) AllReadyH.nil
    go_simp
    have hb := below1 u3 (.cells #[.int .i64 0, .int .i64 0] 51)
    have hB2 := hB.trans (hb.mono hB.size)
    refine hK.out _ _ (HKP.out _ hB2) (fun hNext => ?_)
    have t_o : Nb u2.heap.size (u3.alloc (.cells #[.int .i64 0, .int .i64 0] 51)) u3.heap.size 51 #[.int .i64 0, .int .i64 0] := Nb.top u3 hB.size
    clear hK K hHeld
    have hHeld := hNext
    clear hNext
    clear hB
    have hB := hB2
    clear hB2
    clear hb
    generalize hgen : (u3.alloc (.cells #[.int .i64 0, .int .i64 0] 51)) = u4 at hHeld hB  t_o ⊢
    clear hgen
    generalize hgen : u3.heap.size = b_o at t_o  ⊢
    clear hgen
    try simp only [Act.put, List.setIfInBounds_toArray, List.set_cons_zero, List.set_cons_succ]
    refine wpAnyH_ready (rs := [6]) (by kernel_rfl) (by simp) ?_
    refine AllReadyH.cons (o := ⟨some 43, _, _, _, _, _⟩) rfl (fun K hK => ?_) AllReadyH.nil
    go_simp
    (with_reducible refine (other_yes (HT.out.on (HBB2.out.trans (hB.mono HBB2.out.size))) HZ.out HL.out HQ.out hq2 hqm).mono ?_)
    rintro e u5 ⟨rfl, hb⟩
    (try dsimp only)
    have hB2 := hB.trans (hb.mono hB.size)
    refine hK.out _ _ (HKP.out _ hB2) (fun hNext => ?_)
    clear hK K hHeld
    have hHeld := hNext
    clear hNext
    clear hB
    have hB := hB2
    clear hB2
    replace t_o := t_o.on hb
    clear hb
    try simp only [Act.put, List.setIfInBounds_toArray, List.set_cons_zero, List.set_cons_succ]
    refine wpAnyH_take (i := 7) (oi := ⟨some 36, _, _, _, _, _⟩) (v := ?vfo7_11) rfl (by kernel_rfl) (by kernel_rfl) (by kernel_rfl) (fun _ _ _ h => h) (Or.inl ⟨by rfl, ?yfo7_11⟩) hHeld ?rfo7_11
    case yfo7_11 => (intro w' hSw; (try dsimp only at hSw); go_simp; try (with_reducible rfl))
    simp only [Act.put, List.setIfInBounds_toArray, List.set_cons_zero, List.set_cons_succ]
    refine wpAnyH_take (i := 8) (oi := ⟨some 44, _, _, _, _, _⟩) (v := ?vfo8_12) rfl (by kernel_rfl) (by kernel_rfl) (by kernel_rfl) (fun _ _ _ h => h) (Or.inl ⟨by rfl, ?yfo8_12⟩) hHeld ?rfo8_12
    case yfo8_12 => (intro w' hSw; (try dsimp only at hSw); go_simp; try (with_reducible rfl))
    simp only [Act.put, List.setIfInBounds_toArray, List.set_cons_zero, List.set_cons_succ]
    refine wpAnyH_take (i := 9) (oi := ⟨some 45, _, _, _, _, _⟩) (v := ?vfo9_13) rfl (by kernel_rfl) (by kernel_rfl) (by kernel_rfl) (fun _ _ _ h => h) (Or.inl ⟨by rfl, ?yfo9_13⟩) hHeld ?rfo9_13
    case yfo9_13 => (intro w' hSw; (try dsimp only at hSw); go_simp; try (with_reducible rfl))
    simp only [Act.put, List.setIfInBounds_toArray, List.set_cons_zero, List.set_cons_succ]
    refine wpAnyH_ready (rs := [11]) (by kernel_rfl) (by simp) ?_
    refine AllReadyH.cons (o := ⟨none, _, _, _, _, _⟩) rfl (fun K hK => ?_) AllReadyH.nil
    rw [if_pos (by rfl)]
    refine wp_store_mid 51 _ _ rfl b_o 0 #[.int .i64 (m : Int), .int .i64 q.spot] rfl rfl t_o.there infoSpotS (by simp [Value.oneCell']) ?_
    (try dsimp only)
    have hB2 := (Below.setCells [.int .i64 (m : Int), .int .i64 q.spot] 0 _ hB t_o.2)
    refine hK.out _ _ (HKP.out _ hB2) (fun hNext => ?_)
    clear hK K hHeld
    have hHeld := hNext
    clear hNext
    clear hB
    have hB := hB2
    clear hB2
    replace t_o := t_o.put [.int .i64 (m : Int), .int .i64 q.spot] rfl
    generalize hgen : (World.setCells u5 b_o 0 [.int .i64 (m : Int), .int .i64 q.spot]) = u6 at hHeld hB t_o ⊢
    clear hgen
    try simp only [Act.put]
    refine wpAnyH_take (i := 12) (oi := ⟨some 7, _, _, _, _, _⟩) (v := ?vfo12_14) rfl (by kernel_rfl) (by kernel_rfl) (by kernel_rfl) (fun _ _ _ h => h) (Or.inl ⟨by rfl, ?yfo12_14⟩) hHeld ?rfo12_14
    case yfo12_14 => (intro w' hSw; (try dsimp only at hSw); go_simp; try (with_reducible rfl))
    simp only [Act.put, List.setIfInBounds_toArray, List.set_cons_zero, List.set_cons_succ]
    refine wpAnyH_done (by kernel_rfl) ?_ _
    go_wp2_with fail
    go_meet
    exact ⟨b_o, rfl, rfl, hB, t_o.1, t_o.2⟩
  case rest =>
    obtain ⟨b6, rfl, rfl, hB, hO, hb6⟩ := hcut
    clear d0 d2 k9 g9
    have hbp : b6 ≠ p := fun e => by have := HW2.out.lt; omega
    have hW := HW2.out.on hB
    have hC := HC2.out.trans (Ch.of_below hB)
    have hW2 := (hW.set 5 (.int .i64 (m : Int))).set 6 (.int .i64 0)
    simp only [List.setIfInBounds_toArray, List.set_cons_succ, List.set_cons_zero] at hW2
    have HE := Lib.hid hW2
    have HCE := Lib.hid (hC.trans (((Ch.set wc ⟨p, 5, none⟩ (.int .i64 (m : Int))).trans (Ch.set _ ⟨p, 6, none⟩ (.int .i64 0))).mono fun k _ h => h))
    have k5 := (hW.cell 5).trans rfl
    have k6 := (hW.cell 6).trans rfl
    have k9 := (hW.cell 9).trans rfl
    have g5 := hW.free 5
    have g6 := hW.free 6
    obtain ⟨o0, o1⟩ := hO.both
    simp only [List.getElem?_toArray, List.getElem?_cons_succ, List.getElem?_cons_zero] at k5 k6 k9
    clear hW hC hW2 hB hO HW2 HC2 HBB2 HD2 HS2
    go_wp2
    go_ret
    exact ⟨rfl, HE.out, HCE.out⟩
end Go.Proofs
