/-
  customhouselaw05.RuleKeeps returns true for every input, and each argument reads behind the call as before. No conditions.
  The walk of customhouselaw05.RuleKeeps: it returns true. Conditions as each theorem lists them.
-/
import Derived.Test.YtkbeppknmdejnaaJ6
import Derived.OrdersHeld
import Derived.Test.YtkbeppknmdejnaaRows
import Derived.Below
namespace Go.Proofs
open Go.RowKit Go.Proofs.Hd Go.Sort Go.Shelf Go.Lib
attribute [local go_sem] uv_nonneg uv_and uv_or uv_xor uv_andNot eq2_self
attribute [local go_sem high] run_eq2 run_eqR
theorem bkeep1 (h v c : BitVec 64) : ((h &&& ~~~c ||| v &&& c) ^^^ h) &&& ~~~c = 0#64 := by
  apply BitVec.eq_of_getLsbD_eq
  intro i hi
  simp [hi]
  cases h[i] <;> cases v[i] <;> cases c[i] <;> simp
theorem bkeep2 (h v c : BitVec 64) : ((h &&& ~~~c ||| v &&& c) ^^^ v) &&& c = 0#64 := by
  apply BitVec.eq_of_getLsbD_eq
  intro i hi
  simp [hi]
  cases h[i] <;> cases v[i] <;> cases c[i] <;> simp
theorem bkeep3 (h v c : BitVec 64) : (h &&& ~~~c ||| v &&& c) &&& ~~~c ||| v &&& c = h &&& ~~~c ||| v &&& c := by
  apply BitVec.eq_of_getLsbD_eq
  intro i hi
  simp [hi]
  cases h[i] <;> cases v[i] <;> cases c[i] <;> simp
theorem rsetg_r (r : Rl) (hh hl gh gl : BitVec 64) (w : World) (e1 : (hh &&& ~~~r.s.ch) ||| (r.s.vh &&& r.s.ch) = gh) (e2 : (hl &&& ~~~r.s.cl) ||| (r.s.vl &&& r.s.cl) = gl) : Calls Try.prog 13 #[.agg #[.int .i64 r.pri, .int .u64 (uv r.m.vh), .int .u64 (uv r.m.vl), .int .u64 (uv r.m.ch), .int .u64 (uv r.m.cl), .int .i64 r.kind, .int .i64 r.port, .int .i64 r.tab, .int .u64 (uv r.s.vh), .int .u64 (uv r.s.vl), .int .u64 (uv r.s.ch), .int .u64 (uv r.s.cl)], .agg #[.int .u64 (uv hh), .int .u64 (uv hl)]] w fun e w' => e = .returned (.agg #[.int .u64 (uv gh), .int .u64 (uv gl)]) ∧ Below w.heap.size w w' := by
  subst e1 e2
  exact rset_r r hh hl w
theorem uv0 : uv 0#64 = 0 := rfl
attribute [local go_sem] uv0
set_option maxHeartbeats 4000000 in
set_option maxRecDepth 100000 in
theorem rkl_c (r : Rl) (hh hl : BitVec 64) (w : World) : Calls Try.prog 7 #[.agg #[.int .i64 r.pri, .int .u64 (uv r.m.vh), .int .u64 (uv r.m.vl), .int .u64 (uv r.m.ch), .int .u64 (uv r.m.cl), .int .i64 r.kind, .int .i64 r.port, .int .i64 r.tab, .int .u64 (uv r.s.vh), .int .u64 (uv r.s.vl), .int .u64 (uv r.s.ch), .int .u64 (uv r.s.cl)], .agg #[.int .u64 (uv hh), .int .u64 (uv hl)]] w fun e w' => e = .returned (.bool true) ∧ Below w.heap.size w w' := by
  have B0 := below2 w (.cells #[.int .i64 r.pri, .int .u64 (uv r.m.vh), .int .u64 (uv r.m.vl), .int .u64 (uv r.m.ch), .int .u64 (uv r.m.cl), .int .i64 r.kind, .int .i64 r.port, .int .i64 r.tab, .int .u64 (uv r.s.vh), .int .u64 (uv r.s.vl), .int .u64 (uv r.s.ch), .int .u64 (uv r.s.cl)] 30) (.cells #[.int .u64 (uv hh), .int .u64 (uv hl)] 24)
  have X0 : Blk ((w.alloc (.cells #[.int .i64 r.pri, .int .u64 (uv r.m.vh), .int .u64 (uv r.m.vl), .int .u64 (uv r.m.ch), .int .u64 (uv r.m.cl), .int .i64 r.kind, .int .i64 r.port, .int .i64 r.tab, .int .u64 (uv r.s.vh), .int .u64 (uv r.s.vl), .int .u64 (uv r.s.ch), .int .u64 (uv r.s.cl)] 30)).alloc (.cells #[.int .u64 (uv hh), .int .u64 (uv hl)] 24)) w.heap.size 30 #[.int .i64 r.pri, .int .u64 (uv r.m.vh), .int .u64 (uv r.m.vl), .int .u64 (uv r.m.ch), .int .u64 (uv r.m.cl), .int .i64 r.kind, .int .i64 r.port, .int .i64 r.tab, .int .u64 (uv r.s.vh), .int .u64 (uv r.s.vl), .int .u64 (uv r.s.ch), .int .u64 (uv r.s.cl)] := (Blk.new w _ _).on (below1 _ _)
  have X1 : Blk ((w.alloc (.cells #[.int .i64 r.pri, .int .u64 (uv r.m.vh), .int .u64 (uv r.m.vl), .int .u64 (uv r.m.ch), .int .u64 (uv r.m.cl), .int .i64 r.kind, .int .i64 r.port, .int .i64 r.tab, .int .u64 (uv r.s.vh), .int .u64 (uv r.s.vl), .int .u64 (uv r.s.ch), .int .u64 (uv r.s.cl)] 30)).alloc (.cells #[.int .u64 (uv hh), .int .u64 (uv hl)] 24)) (w.heap.size + 1) 24 #[.int .u64 (uv hh), .int .u64 (uv hl)] := by
    have h := Blk.new (w.alloc (.cells #[.int .i64 r.pri, .int .u64 (uv r.m.vh), .int .u64 (uv r.m.vl), .int .u64 (uv r.m.ch), .int .u64 (uv r.m.cl), .int .i64 r.kind, .int .i64 r.port, .int .i64 r.tab, .int .u64 (uv r.s.vh), .int .u64 (uv r.s.vl), .int .u64 (uv r.s.ch), .int .u64 (uv r.s.cl)] 30)) 24 #[.int .u64 (uv hh), .int .u64 (uv hl)]
    simpa using h
  obtain ⟨gh, h1⟩ : ∃ g, (hh &&& ~~~r.s.ch) ||| (r.s.vh &&& r.s.ch) = g := ⟨_, rfl⟩
  obtain ⟨gl, h2⟩ : ∃ g, (hl &&& ~~~r.s.cl) ||| (r.s.vl &&& r.s.cl) = g := ⟨_, rfl⟩
  have a1 : (gh ^^^ hh) &&& ~~~r.s.ch = 0#64 := by rw [← h1]; exact bkeep1 _ _ _
  have a2 : (gl ^^^ hl) &&& ~~~r.s.cl = 0#64 := by rw [← h2]; exact bkeep1 _ _ _
  have a3 : (gh ^^^ r.s.vh) &&& r.s.ch = 0#64 := by rw [← h1]; exact bkeep2 _ _ _
  have a4 : (gl ^^^ r.s.vl) &&& r.s.cl = 0#64 := by rw [← h2]; exact bkeep2 _ _ _
  have HG : Hid ((gh &&& ~~~r.s.ch) ||| (r.s.vh &&& r.s.ch) = gh ∧ (gl &&& ~~~r.s.cl) ||| (r.s.vl &&& r.s.cl) = gl) := ⟨by rw [← h1]; exact bkeep3 _ _ _, by rw [← h2]; exact bkeep3 _ _ _⟩
  have H12 := Lib.hid (And.intro h1 h2)
  have HB0 := Lib.hid B0
  have HX0 := Lib.hid X0
  have HX1 := Lib.hid X1
  clear h1 h2 B0 X0 X1
  go_enter Try.func7, Try.ntmps7
  go_wp2_with fail
  (with_reducible refine (rsetg_r r hh hl gh gl _ H12.out.1 H12.out.2).mono ?_)
  rintro e w1 ⟨rfl, hb1⟩
  have B1 := Lib.hid (HB0.out.trans (hb1.mono HB0.out.size))
  have Y0 := HX0.out.on hb1
  have Y1 := HX1.out.on hb1
  clear HB0 HX0 HX1 hb1
  have c8 := Y0.cell 8
  have c9 := Y0.cell 9
  have c10 := Y0.cell 10
  have c11 := Y0.cell 11
  have d0 := Y1.cell 0
  have d1 := Y1.cell 1
  simp at c8 c9 c10 c11 d0 d1
  have hz0 := Y0.lt
  have hz1 := Y1.lt
  go_upto_region 4 with (fail)
  obtain ⟨n1, hn1⟩ : ∃ n, n = w1.heap.size := ⟨_, rfl⟩
  have B4 := below3 w1 (.cells #[.int .u64 (uv gh), .int .u64 (uv gl)] 24) (.cells #[.int .u64 (uv r.s.ch), .int .u64 (uv r.s.cl)] 24) (.cells #[.int .u64 0, .int .u64 0] 24)
  have Z0 := Y0.on B4
  have Z1 : Blk (((w1.alloc (.cells #[.int .u64 (uv gh), .int .u64 (uv gl)] 24)).alloc (.cells #[.int .u64 (uv r.s.ch), .int .u64 (uv r.s.cl)] 24)).alloc (.cells #[.int .u64 0, .int .u64 0] 24)) n1 24 #[.int .u64 (uv gh), .int .u64 (uv gl)] := by
    rw [hn1]; exact (Blk.new w1 _ _).on (below2 _ _ _)
  have Z2 : Blk (((w1.alloc (.cells #[.int .u64 (uv gh), .int .u64 (uv gl)] 24)).alloc (.cells #[.int .u64 (uv r.s.ch), .int .u64 (uv r.s.cl)] 24)).alloc (.cells #[.int .u64 0, .int .u64 0] 24)) (n1 + 1) 24 #[.int .u64 (uv r.s.ch), .int .u64 (uv r.s.cl)] := by
    have h := (Blk.new (w1.alloc (.cells #[.int .u64 (uv gh), .int .u64 (uv gl)] 24)) 24 #[.int .u64 (uv r.s.ch), .int .u64 (uv r.s.cl)]).on (below1 _ (.cells #[.int .u64 0, .int .u64 0] 24))
    simpa [hn1] using h
  have Z3 : Blk (((w1.alloc (.cells #[.int .u64 (uv gh), .int .u64 (uv gl)] 24)).alloc (.cells #[.int .u64 (uv r.s.ch), .int .u64 (uv r.s.cl)] 24)).alloc (.cells #[.int .u64 0, .int .u64 0] 24)) (n1 + 1 + 1) 24 #[.int .u64 0, .int .u64 0] := by
    have h := Blk.new ((w1.alloc (.cells #[.int .u64 (uv gh), .int .u64 (uv gl)] 24)).alloc (.cells #[.int .u64 (uv r.s.ch), .int .u64 (uv r.s.cl)] 24)) 24 #[.int .u64 0, .int .u64 0]
    simpa [hn1] using h
  have B5 := Lib.hid (B1.out.trans (B4.mono B1.out.size))
  clear B1 B4 c8 c9 c10 c11 d0 d1 Y0 Y1 a1 a2
  rw [← hn1]
  generalize ((w1.alloc (.cells #[.int .u64 (uv gh), .int .u64 (uv gl)] 24)).alloc (.cells #[.int .u64 (uv r.s.ch), .int .u64 (uv r.s.cl)] 24)).alloc (.cells #[.int .u64 0, .int .u64 0] 24) = wB at B5 Z0 Z1 Z2 Z3 ⊢
  have c8 := Z0.cell 8
  have c9 := Z0.cell 9
  have g0 := Z1.cell 0
  have g1 := Z1.cell 1
  have k0 := Z2.cell 0
  have k1 := Z2.cell 1
  simp at c8 c9 g0 g1 k0 k1
  have l0 := Z0.lt
  have l1 := Z1.lt
  have l2 := Z2.lt
  clear hn1 hz0 hz1
  go_upto_region 5 with (fail)
  obtain ⟨n4, hn4⟩ : ∃ n, n = wB.heap.size := ⟨_, rfl⟩
  have A0 := Z0.on (below1 wB (.cells #[.int .u64 0, .int .u64 0] 24))
  have A1 := Z1.on (below1 wB (.cells #[.int .u64 0, .int .u64 0] 24))
  have A3 := Z3.on (below1 wB (.cells #[.int .u64 0, .int .u64 0] 24))
  have A4 : Blk (wB.alloc (.cells #[.int .u64 0, .int .u64 0] 24)) n4 24 #[.int .u64 0, .int .u64 0] := by rw [hn4]; exact Blk.new wB _ _
  have B6 := Lib.hid (B5.out.trans ((below1 wB (.cells #[.int .u64 0, .int .u64 0] 24)).mono B5.out.size))
  clear B5 Z0 Z1 Z2 Z3 c8 c9 g0 g1 k0 k1 l0 l1 l2 a3 a4
  rw [← hn4]
  generalize wB.alloc (.cells #[.int .u64 0, .int .u64 0] 24) = wA at B6 A0 A1 A3 A4 ⊢
  have KP : ∀ W, Below wA.heap.size wA W → (Below wA.heap.size wA W ∧ W.cell? ⟨w.heap.size, 0, none⟩ = some (.int .i64 r.pri) ∧ W.cell? ⟨w.heap.size, 1, none⟩ = some (.int .u64 (uv r.m.vh)) ∧ W.cell? ⟨w.heap.size, 2, none⟩ = some (.int .u64 (uv r.m.vl)) ∧ W.cell? ⟨w.heap.size, 3, none⟩ = some (.int .u64 (uv r.m.ch)) ∧ W.cell? ⟨w.heap.size, 4, none⟩ = some (.int .u64 (uv r.m.cl)) ∧ W.cell? ⟨w.heap.size, 5, none⟩ = some (.int .i64 r.kind) ∧ W.cell? ⟨w.heap.size, 6, none⟩ = some (.int .i64 r.port) ∧ W.cell? ⟨w.heap.size, 7, none⟩ = some (.int .i64 r.tab) ∧ W.cell? ⟨w.heap.size, 8, none⟩ = some (.int .u64 (uv r.s.vh)) ∧ W.cell? ⟨w.heap.size, 9, none⟩ = some (.int .u64 (uv r.s.vl)) ∧ W.cell? ⟨w.heap.size, 10, none⟩ = some (.int .u64 (uv r.s.ch)) ∧ W.cell? ⟨w.heap.size, 11, none⟩ = some (.int .u64 (uv r.s.cl)) ∧ W.cell? ⟨n1, 0, none⟩ = some (.int .u64 (uv gh)) ∧ W.cell? ⟨n1, 1, none⟩ = some (.int .u64 (uv gl)) ∧ W.cell? ⟨n1 + 1 + 1, 0, none⟩ = some (.int .u64 0) ∧ W.cell? ⟨n1 + 1 + 1, 1, none⟩ = some (.int .u64 0) ∧ W.cell? ⟨n4, 0, none⟩ = some (.int .u64 0) ∧ W.cell? ⟨n4, 1, none⟩ = some (.int .u64 0)) := fun W hb => have x0 := A0.on hb; have x1 := A1.on hb; have x3 := A3.on hb; have x4 := A4.on hb; ⟨hb, x0.cell 0, x0.cell 1, x0.cell 2, x0.cell 3, x0.cell 4, x0.cell 5, x0.cell 6, x0.cell 7, x0.cell 8, x0.cell 9, x0.cell 10, x0.cell 11, x1.cell 0, x1.cell 1, x3.cell 0, x3.cell 1, x4.cell 0, x4.cell 1⟩
  have HKP := Lib.hid KP
  clear KP A0 A1 A3 A4 hn4
  refine wp_region_held_drew (S := fun w' => Below wA.heap.size wA w' ∧ w'.cell? ⟨w.heap.size, 0, none⟩ = some (.int .i64 r.pri) ∧ w'.cell? ⟨w.heap.size, 1, none⟩ = some (.int .u64 (uv r.m.vh)) ∧ w'.cell? ⟨w.heap.size, 2, none⟩ = some (.int .u64 (uv r.m.vl)) ∧ w'.cell? ⟨w.heap.size, 3, none⟩ = some (.int .u64 (uv r.m.ch)) ∧ w'.cell? ⟨w.heap.size, 4, none⟩ = some (.int .u64 (uv r.m.cl)) ∧ w'.cell? ⟨w.heap.size, 5, none⟩ = some (.int .i64 r.kind) ∧ w'.cell? ⟨w.heap.size, 6, none⟩ = some (.int .i64 r.port) ∧ w'.cell? ⟨w.heap.size, 7, none⟩ = some (.int .i64 r.tab) ∧ w'.cell? ⟨w.heap.size, 8, none⟩ = some (.int .u64 (uv r.s.vh)) ∧ w'.cell? ⟨w.heap.size, 9, none⟩ = some (.int .u64 (uv r.s.vl)) ∧ w'.cell? ⟨w.heap.size, 10, none⟩ = some (.int .u64 (uv r.s.ch)) ∧ w'.cell? ⟨w.heap.size, 11, none⟩ = some (.int .u64 (uv r.s.cl)) ∧ w'.cell? ⟨n1, 0, none⟩ = some (.int .u64 (uv gh)) ∧ w'.cell? ⟨n1, 1, none⟩ = some (.int .u64 (uv gl)) ∧ w'.cell? ⟨n1 + 1 + 1, 0, none⟩ = some (.int .u64 0) ∧ w'.cell? ⟨n1 + 1 + 1, 1, none⟩ = some (.int .u64 0) ∧ w'.cell? ⟨n4, 0, none⟩ = some (.int .u64 0) ∧ w'.cell? ⟨n4, 1, none⟩ = some (.int .u64 0)) (by kernel_rfl) (HKP.out _ (Below.refl _ wA).drew) (fun hHeld => ?_)
  refine wpAnyH_ready (rs := [0]) (by kernel_rfl) (by simp) ?_
  refine AllReadyH.cons (o := ⟨some 56, _, _, _, _, _⟩) rfl (fun K hK => ?_) AllReadyH.nil
  go_simp
  (with_reducible refine (awake5_c _).mono ?_)
  rintro e w5 ⟨rfl, hb⟩
  (try dsimp only)
  refine hK.out _ _ (HKP.out _ (hHeld.1.trans (hb.mono hHeld.1.size))) (fun hNext => ?_)
  clear hK K hHeld
  have hHeld := hNext
  clear hNext
  try simp only [Act.put, List.setIfInBounds_toArray, List.set_cons_zero, List.set_cons_succ]
  refine wpAnyH_take (i := 1) (oi := ⟨some 57, _, _, _, _, _⟩) (v := ?vq1) rfl (by kernel_rfl) (by kernel_rfl) (by kernel_rfl) (fun _ _ _ h => h) (Or.inl ⟨by rfl, ?yq1⟩) hHeld ?rq1
  case yq1 => (intro w' hSw; (try dsimp only at hSw); go_simp; try (with_reducible rfl))
  simp only [Act.put, List.setIfInBounds_toArray, List.set_cons_zero, List.set_cons_succ]
  refine wpAnyH_take (i := 2) (oi := ⟨some 58, _, _, _, _, _⟩) (v := ?vq2) rfl (by kernel_rfl) (by kernel_rfl) (by kernel_rfl) (fun _ _ _ h => h) (Or.inl ⟨by rfl, ?yq2⟩) hHeld ?rq2
  case yq2 => (intro w' hSw; (try dsimp only at hSw); go_simp; try (with_reducible rfl))
  simp only [Act.put, List.setIfInBounds_toArray, List.set_cons_zero, List.set_cons_succ]
  refine wpAnyH_take (i := 3) (oi := ⟨some 59, _, _, _, _, _⟩) (v := ?vq3) rfl (by kernel_rfl) (by kernel_rfl) (by kernel_rfl) (fun _ _ _ h => h) (Or.inl ⟨by rfl, ?yq3⟩) hHeld ?rq3
  case yq3 => (intro w' hSw; (try dsimp only at hSw); go_simp; try (with_reducible rfl))
  simp only [Act.put, List.setIfInBounds_toArray, List.set_cons_zero, List.set_cons_succ]
  refine wpAnyH_take (i := 4) (oi := ⟨some 60, _, _, _, _, _⟩) (v := ?vq4) rfl (by kernel_rfl) (by kernel_rfl) (by kernel_rfl) (fun _ _ _ h => h) (Or.inl ⟨by rfl, ?yq4⟩) hHeld ?rq4
  case yq4 => (intro w' hSw; (try dsimp only at hSw); go_simp; try (with_reducible rfl))
  simp only [Act.put, List.setIfInBounds_toArray, List.set_cons_zero, List.set_cons_succ]
  refine wpAnyH_take (i := 5) (oi := ⟨some 61, _, _, _, _, _⟩) (v := ?vq5) rfl (by kernel_rfl) (by kernel_rfl) (by kernel_rfl) (fun _ _ _ h => h) (Or.inl ⟨by rfl, ?yq5⟩) hHeld ?rq5
  case yq5 => (intro w' hSw; (try dsimp only at hSw); go_simp; try (with_reducible rfl))
  simp only [Act.put, List.setIfInBounds_toArray, List.set_cons_zero, List.set_cons_succ]
  refine wpAnyH_take (i := 6) (oi := ⟨some 62, _, _, _, _, _⟩) (v := ?vq6) rfl (by kernel_rfl) (by kernel_rfl) (by kernel_rfl) (fun _ _ _ h => h) (Or.inl ⟨by rfl, ?yq6⟩) hHeld ?rq6
  case yq6 => (intro w' hSw; (try dsimp only at hSw); go_simp; try (with_reducible rfl))
  simp only [Act.put, List.setIfInBounds_toArray, List.set_cons_zero, List.set_cons_succ]
  refine wpAnyH_take (i := 7) (oi := ⟨some 63, _, _, _, _, _⟩) (v := ?vq7) rfl (by kernel_rfl) (by kernel_rfl) (by kernel_rfl) (fun _ _ _ h => h) (Or.inl ⟨by rfl, ?yq7⟩) hHeld ?rq7
  case yq7 => (intro w' hSw; (try dsimp only at hSw); go_simp; try (with_reducible rfl))
  simp only [Act.put, List.setIfInBounds_toArray, List.set_cons_zero, List.set_cons_succ]
  refine wpAnyH_take (i := 8) (oi := ⟨some 64, _, _, _, _, _⟩) (v := ?vq8) rfl (by kernel_rfl) (by kernel_rfl) (by kernel_rfl) (fun _ _ _ h => h) (Or.inl ⟨by rfl, ?yq8⟩) hHeld ?rq8
  case yq8 => (intro w' hSw; (try dsimp only at hSw); go_simp; try (with_reducible rfl))
  simp only [Act.put, List.setIfInBounds_toArray, List.set_cons_zero, List.set_cons_succ]
  refine wpAnyH_take (i := 9) (oi := ⟨some 65, _, _, _, _, _⟩) (v := ?vq9) rfl (by kernel_rfl) (by kernel_rfl) (by kernel_rfl) (fun _ _ _ h => h) (Or.inl ⟨by rfl, ?yq9⟩) hHeld ?rq9
  case yq9 => (intro w' hSw; (try dsimp only at hSw); go_simp; try (with_reducible rfl))
  simp only [Act.put, List.setIfInBounds_toArray, List.set_cons_zero, List.set_cons_succ]
  refine wpAnyH_take (i := 10) (oi := ⟨some 66, _, _, _, _, _⟩) (v := ?vq10) rfl (by kernel_rfl) (by kernel_rfl) (by kernel_rfl) (fun _ _ _ h => h) (Or.inl ⟨by rfl, ?yq10⟩) hHeld ?rq10
  case yq10 => (intro w' hSw; (try dsimp only at hSw); go_simp; try (with_reducible rfl))
  simp only [Act.put, List.setIfInBounds_toArray, List.set_cons_zero, List.set_cons_succ]
  refine wpAnyH_take (i := 11) (oi := ⟨some 67, _, _, _, _, _⟩) (v := ?vq11) rfl (by kernel_rfl) (by kernel_rfl) (by kernel_rfl) (fun _ _ _ h => h) (Or.inl ⟨by rfl, ?yq11⟩) hHeld ?rq11
  case yq11 => (intro w' hSw; (try dsimp only at hSw); go_simp; try (with_reducible rfl))
  simp only [Act.put, List.setIfInBounds_toArray, List.set_cons_zero, List.set_cons_succ]
  refine wpAnyH_take (i := 12) (oi := ⟨some 68, _, _, _, _, _⟩) (v := ?vq12) rfl (by kernel_rfl) (by kernel_rfl) (by kernel_rfl) (fun _ _ _ h => h) (Or.inl ⟨by rfl, ?yq12⟩) hHeld ?rq12
  case yq12 => (intro w' hSw; (try dsimp only at hSw); go_simp; try (with_reducible rfl))
  simp only [Act.put, List.setIfInBounds_toArray, List.set_cons_zero, List.set_cons_succ]
  refine wpAnyH_take (i := 13) (oi := ⟨some 69, _, _, _, _, _⟩) (v := ?vq13) rfl (by kernel_rfl) (by kernel_rfl) (by kernel_rfl) (fun _ _ _ h => h) (Or.inl ⟨by rfl, ?yq13⟩) hHeld ?rq13
  case yq13 => (intro w' hSw; (try dsimp only at hSw); go_simp; try (with_reducible rfl))
  simp only [Act.put, List.setIfInBounds_toArray, List.set_cons_zero, List.set_cons_succ]
  refine wpAnyH_take (i := 15) (oi := ⟨some 71, _, _, _, _, _⟩) (v := ?vq15) rfl (by kernel_rfl) (by kernel_rfl) (by kernel_rfl) (fun _ _ _ h => h) (Or.inl ⟨by rfl, ?yq15⟩) hHeld ?rq15
  case yq15 => (intro w' hSw; (try dsimp only at hSw); go_simp; try (with_reducible rfl))
  simp only [Act.put, List.setIfInBounds_toArray, List.set_cons_zero, List.set_cons_succ]
  refine wpAnyH_ready (rs := [14]) (by kernel_rfl) (by simp) ?_
  refine AllReadyH.cons (o := ⟨some 70, _, _, _, _, _⟩) rfl (fun K hK => ?_) AllReadyH.nil
  go_simp
  (with_reducible refine (rsetg_r r gh gl gh gl _ HG.out.1 HG.out.2).mono ?_)
  rintro e w6 ⟨rfl, hb⟩
  (try dsimp only)
  refine hK.out _ _ (HKP.out _ (hHeld.1.trans (hb.mono hHeld.1.size))) (fun hNext => ?_)
  clear hK K hHeld
  have hHeld := hNext
  clear hNext
  try simp only [Act.put, List.setIfInBounds_toArray, List.set_cons_zero, List.set_cons_succ]
  refine wpAnyH_take (i := 16) (oi := ⟨some 72, _, _, _, _, _⟩) (v := ?vq16) rfl (by kernel_rfl) (by kernel_rfl) (by kernel_rfl) (fun _ _ _ h => h) (Or.inl ⟨by rfl, ?yq16⟩) hHeld ?rq16
  case yq16 => (intro w' hSw; (try dsimp only at hSw); go_simp; try (with_reducible rfl))
  simp only [Act.put, List.setIfInBounds_toArray, List.set_cons_zero, List.set_cons_succ]
  refine wpAnyH_take (i := 17) (oi := ⟨some 73, _, _, _, _, _⟩) (v := ?vq17) rfl (by kernel_rfl) (by kernel_rfl) (by kernel_rfl) (fun _ _ _ h => h) (Or.inl ⟨by rfl, ?yq17⟩) hHeld ?rq17
  case yq17 => (intro w' hSw; (try dsimp only at hSw); go_simp; try (with_reducible rfl))
  simp only [Act.put, List.setIfInBounds_toArray, List.set_cons_zero, List.set_cons_succ]
  refine wpAnyH_take (i := 18) (oi := ⟨some 4, _, _, _, _, _⟩) (v := ?vq18) rfl (by kernel_rfl) (by kernel_rfl) (by kernel_rfl) (fun _ _ _ h => h) (Or.inl ⟨by rfl, ?yq18⟩) hHeld ?rq18
  case yq18 => (intro w' hSw; (try dsimp only at hSw); go_simp; try (with_reducible rfl))
  simp only [Act.put, List.setIfInBounds_toArray, List.set_cons_zero, List.set_cons_succ]
  refine wpAnyH_done (by kernel_rfl) ?_ _
  have hL := B6.out.trans (hHeld.1.mono B6.out.size)
  clear hHeld HKP
  go_wp2
  go_ret
  exact ⟨rfl, hL⟩
end Go.Proofs

namespace Go.Proofs.Ytkbeppknmdejnaa
open Go.ChangeShapes Go.WideShapes Go.ChangeAt Go.RowKit Go.Joins Go.Proofs.Hd

theorem laidOut_rkl : laidOutB Try.prog = true := by kernel_rfl
set_option maxRecDepth 100000 in
theorem rkl_lifted (os : Os) (started : os.Started) (H : Type) (enc : TypeId × Value → H) :
    ReturnsInHanded {} Try.checked os 7 .any (Rows.ruleKeepsSpec.pre6 enc Try.prog Try.f7 Rows.ruleKeepsRow.domain false) (Rows.ruleKeepsSpec.post enc Try.prog Try.f7 false true false false) := by
  refine returnsInHanded_of_change (C := Try.checked) own started (by kernel_rfl) Try.func7
    (ChangeSpec.witness6 (enc := enc) (C := Try.checked) false ⟨#[], #[.agg #[.int .i64 0, .int .u64 0, .int .u64 0, .int .u64 0, .int .u64 0, .int .i64 0, .int .i64 0, .int .i64 0, .int .u64 0, .int .u64 0, .int .u64 0, .int .u64 0], .agg #[.int .u64 0, .int .u64 0]], []⟩ 8 (by kernel_rfl) (by kernel_rfl) (by kernel_rfl) (by kernel_rfl)) ?_
  intro W base args ds gs before hval0 hW hcnd _
  have hval : ∀ (j : Nat) t v, Try.f7.params[j]? = some t → args[j]? = some v → Value.okWide Try.prog W .any base t v := hval0
  have hW' := hW
  obtain ⟨p, q, hA0, hV, rfl, hfz, hnd⟩ := hW
  have hA : DataW.TrodAll enc Try.prog W 0 (fun _ => true) true Try.f7.params.toList args.toList ds p := hA0
  rw [Try.params7] at hA hval
  obtain ⟨v0, vs0, d0, ds0, p0, q0, hargs, rfl, rfl, h0, r0⟩ := trodAll_cons hA
  obtain ⟨v1, vs1, d1, ds1, p1, q1, rfl, rfl, rfl, h1, r1⟩ := trodAll_cons r0
  obtain ⟨rfl, rfl, rfl⟩ := trodAll_nil r1
  obtain rfl : args = #[v0, v1] := by cases args; simp_all
  obtain ⟨rfl, rfl⟩ := trodVars_none hV
  have k0 := h0
  have lt0 : ∀ x ∈ p0, x.block < W.heap.size := by obtain ⟨m, hm⟩ := k0; exact DataW.trod_lt m _ _ _ hm
  obtain ⟨r, rfl⟩ := open_rule (hval 0 30 v0 rfl rfl) h0
  obtain ⟨hh, hl, rfl, rfl, rfl, s1⟩ := open_head (hval 1 24 v1 rfl rfl) h1
  clear hA0 hval0
  refine (rkl_c r hh hl W).mono fun e W' ⟨he, hg⟩ => ?_
  subst he
  exact ⟨_, rfl, _, _, _, [], _, [], hW', trodAll_mk1 (shut_bool Try.underlying4 _), (trodAll_cons_mk (Below.trod laidOut_rkl (by kernel_rfl) (of_decide_eq_true (by kernel_rfl)) k0 hg lt0) (trodAll_cons_mk (s1 _ _) trodAll_mk0)), rfl, hg.frame _, (fun h => by cases h)⟩

theorem rkl_holds : Rows.RuleKeepsSaid :=
  OpenClaim.holds_of_wide 7 Try.f7 rfl rfl rfl rfl rfl rfl rfl ⟨rfl, rfl, rfl, rfl, rfl⟩ rfl rfl rfl rfl rfl (by kernel_rfl) Try.func7 (by kernel_rfl)
    (of_decide_eq_true (by kernel_rfl)) (by unfold Func.isWrapper; first | (rw [if_pos (by decide +kernel)]; kernel_rfl) | (rw [if_neg (by decide +kernel)]; exact ⟨rfl, rfl⟩))
    (fun os started H enc _ => rkl_lifted os started H enc)
#print axioms rkl_holds
end Go.Proofs.Ytkbeppknmdejnaa
