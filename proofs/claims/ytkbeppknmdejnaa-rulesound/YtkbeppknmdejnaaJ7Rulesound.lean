/-
  customhouselaw05.RuleSound returns true for every input, and each argument reads behind the call as before. No conditions.
  Contract of the reference's Sound of layer 5. No conditions.
  The walk of customhouselaw05.RuleSound: it returns true. Conditions as each theorem lists them.
-/
import Derived.Test.YtkbeppknmdejnaaJ6
import Derived.BigQuiet
import Derived.OrdersHeld
import Derived.Test.YtkbeppknmdejnaaRows
import Derived.Below
namespace Go.Proofs
open Go.RowKit Go.Proofs.Hd Go.Sort
attribute [local go_sem] uv_nonneg
theorem text_any (x : Bool) (c : Cb) (w : World) (hs : c.snd = x) : Calls Try.prog 19 #[.agg #[.int .u64 (uv c.vh), .int .u64 (uv c.vl), .int .u64 (uv c.ch), .int .u64 (uv c.cl)]] w fun e w' => ∃ s, e = .returned (.tuple #[.string s, .bool x]) ∧ Below w.heap.size w w' := by
  cases x with
  | true => exact (text_yes c w hs).mono fun e w' h => ⟨_, h.1, h.2⟩
  | false => exact (text_no c w hs).mono fun e w' h => ⟨_, h.1, h.2⟩
set_option maxRecDepth 100000 in
set_option maxHeartbeats 8000000 in
theorem rsound_r (x : Bool) (r : Rl) (table : Int) (v : Value) (K : List Int) (w : World) (hx : sndR r table K = x) (hv : Po w v K) : Calls Try.prog 10 #[.agg #[.int .i64 r.pri, .int .u64 (uv r.m.vh), .int .u64 (uv r.m.vl), .int .u64 (uv r.m.ch), .int .u64 (uv r.m.cl), .int .i64 r.kind, .int .i64 r.port, .int .i64 r.tab, .int .u64 (uv r.s.vh), .int .u64 (uv r.s.vl), .int .u64 (uv r.s.ch), .int .u64 (uv r.s.cl)], .int .i64 table, v] w fun e w' => e = .returned (.bool x) ∧ Below w.heap.size w w' := by
  have B0 := below1 w (.cells #[.int .i64 r.pri, .int .u64 (uv r.m.vh), .int .u64 (uv r.m.vl), .int .u64 (uv r.m.ch), .int .u64 (uv r.m.cl), .int .i64 r.kind, .int .i64 r.port, .int .i64 r.tab, .int .u64 (uv r.s.vh), .int .u64 (uv r.s.vl), .int .u64 (uv r.s.ch), .int .u64 (uv r.s.cl)] 30)
  have N0 : Blk (w.alloc (.cells #[.int .i64 r.pri, .int .u64 (uv r.m.vh), .int .u64 (uv r.m.vl), .int .u64 (uv r.m.ch), .int .u64 (uv r.m.cl), .int .i64 r.kind, .int .i64 r.port, .int .i64 r.tab, .int .u64 (uv r.s.vh), .int .u64 (uv r.s.vl), .int .u64 (uv r.s.ch), .int .u64 (uv r.s.cl)] 30)) w.heap.size 30 #[.int .i64 r.pri, .int .u64 (uv r.m.vh), .int .u64 (uv r.m.vl), .int .u64 (uv r.m.ch), .int .u64 (uv r.m.cl), .int .i64 r.kind, .int .i64 r.port, .int .i64 r.tab, .int .u64 (uv r.s.vh), .int .u64 (uv r.s.vl), .int .u64 (uv r.s.ch), .int .u64 (uv r.s.cl)] := Blk.new w _ _
  have HV := Lib.hid hv
  have HX := Lib.hid hx
  clear hv hx
  obtain ⟨ym, hm⟩ : ∃ y, r.m.snd = y := ⟨_, rfl⟩
  obtain ⟨ys, hs⟩ : ∃ y, r.s.snd = y := ⟨_, rfl⟩
  go_enter Try.func10, Try.ntmps10
  go_wp2_with fail
  (with_reducible refine (text_any _ r.m _ hm).mono ?_)
  rintro e w1 ⟨s1, rfl, hb⟩
  have B1 := B0.trans (hb.mono B0.size)
  have N1 := N0.on hb
  have c8 := N1.cell 8
  have c9 := N1.cell 9
  have c10 := N1.cell 10
  have c11 := N1.cell 11
  simp at c8 c9 c10 c11
  clear B0 hb N0
  go_wp2_with fail
  (with_reducible refine (text_any _ r.s _ hs).mono ?_)
  rintro e w2 ⟨s2, rfl, hb2⟩
  have B2 := B1.trans (hb2.mono B1.size)
  have N2 := N1.on hb2
  have V2 := Lib.hid (HV.out.on B2)
  clear B1 hb2 N1 c8 c9 c10 c11 HV
  have c0 := N2.cell 0
  have c5 := N2.cell 5
  have c6 := N2.cell 6
  have c7 := N2.cell 7
  simp at c0 c5 c6 c7
  clear N2
  cases ym with
  | false =>
    have e0 : x = false := by rw [← HX.out]; simp [sndR, hm]
    subst e0
    clear HX
    go_wp2
    go_ret
    exact ⟨rfl, B2⟩
  | true =>
  cases ys with
  | false =>
    have e0 : x = false := by rw [← HX.out]; simp [sndR, hs]
    subst e0
    clear HX
    go_wp2
    go_ret
    exact ⟨rfl, B2⟩
  | true =>
  by_cases p1 : r.pri < 0
  · have e0 : x = false := by
      rw [← HX.out]
      have : ¬ 0 ≤ r.pri := by omega
      simp [sndR, this]
    subst e0
    clear HX
    go_wp2
    go_ret
    exact ⟨rfl, B2⟩
  by_cases p2 : 1048576 < r.pri
  · have e0 : x = false := by
      rw [← HX.out]
      have : ¬ r.pri ≤ 1048576 := by omega
      simp [sndR, this]
    subst e0
    clear HX
    go_wp2
    go_ret
    exact ⟨rfl, B2⟩
  have hL : leads r.kind r.port r.tab table K = x := by
    rw [← HX.out]
    have q1 : 0 ≤ r.pri := by omega
    have q2 : r.pri ≤ 1048576 := by omega
    simp [sndR, hm, hs, q1, q2]
  clear HX
  generalize r.port = port at c6 hL
  generalize r.tab = tab at c7 hL
  generalize r.kind = kind at c5 hL
  have HL := Lib.hid hL
  clear hL
  go_wp2_with fail
  go_quiet (fail)
  have B3 : Below w.heap.size w (w2.drewN nq) := ⟨B2.os, B2.tape, B2.output, B2.size, B2.block⟩
  have V3 := Lib.hid (V2.out.on (w' := w2.drewN nq) ⟨rfl, rfl, rfl, Nat.le_refl _, fun _ _ => rfl⟩)
  have d5 : (w2.drewN nq).cell? ⟨w.heap.size, 5, none⟩ = some (.int .i64 kind) := c5
  clear B2 V2 c0 c5 c6 c7
  generalize w2.drewN nq = w3 at B3 V3 d5 ⊢
  by_cases k1 : kind = 1
  · subst k1
    have HL2 : Hid ((decide (port = 0) && decide (tab = 0)) = x) := Lib.hid (by rw [← HL.out]; simp [leads])
    clear HL V3
    by_cases p0 : port = 0
    · subst p0
      by_cases t0 : tab = 0
      · subst t0
        have e0 : x = true := by rw [← HL2.out]; simp
        subst e0
        clear HL2
        go_wp2
        go_ret
        exact ⟨by simp, B3⟩
      · have e0 : x = false := by rw [← HL2.out]; simp [t0]
        subst e0
        clear HL2
        go_wp2
        go_ret
        exact ⟨by simp [t0], B3⟩
    · have e0 : x = false := by rw [← HL2.out]; simp [p0]
      subst e0
      clear HL2
      go_wp2
      go_ret
      exact ⟨by simp, B3⟩
  by_cases k2 : kind = 2
  · subst k2
    have HL2 : Hid ((isP K port 1 && decide (tab = 0)) = x) := Lib.hid (by rw [← HL.out]; simp [leads])
    clear HL
    by_cases t0 : tab = 0
    · subst t0
      have HP : Hid (isP K port 1 = x) := Lib.hid (by rw [← HL2.out]; simp)
      clear HL2
      have hv := V3.out
      obtain ⟨A, cap, hA⟩ : ∃ A cap, v = .slice A K.length cap := by
        rcases hv with ⟨rfl, A, cap, rfl⟩ | ⟨b, off, cap, rfl, _⟩ <;> exact ⟨_, _, rfl⟩
      clear V3
      by_cases h0 : 0 ≤ port
      · by_cases h1 : port < (K.length : Int)
        · obtain ⟨k, rfl⟩ : ∃ k : Nat, port = (k : Int) := ⟨port.toNat, by omega⟩
          have hk : k < K.length := by omega
          obtain ⟨y, hy⟩ : ∃ y, K[k]? = some y := ⟨_, List.getElem?_eq_getElem hk⟩
          rcases hv with ⟨rfl, _⟩ | ⟨b, off, cap, rfl, hl, hb, hc⟩
          · simp at hk
          have c := hc k y hy
          have HP2 := Lib.hid ((isP_at hy 1).symm.trans HP.out)
          have hl2 : (K.length : Int) ≤ 9223372036854775807 := by unfold maxLen at hl; omega
          clear hc hy hA HP
          go_wp2
          go_ret
          exact ⟨by rw [← HP2.out]; rfl, B3⟩
        · have e0 : x = false := by rw [← HP.out]; exact isP_far h1 _
          subst e0 hA
          clear hv HP
          go_wp2
          go_ret
          exact ⟨by simp, B3⟩
      · have e0 : x = false := by rw [← HP.out]; exact isP_neg h0 _
        subst e0 hA
        clear hv HP
        go_wp2
        go_ret
        exact ⟨by simp, B3⟩
    · have e0 : x = false := by rw [← HL2.out]; simp [t0]
      subst e0
      clear HL2 V3
      go_wp2
      go_ret
      exact ⟨by simp, B3⟩
  by_cases k3 : kind = 3
  · subst k3
    have HL2 : Hid ((isP K port 2 && decide (tab = 0)) = x) := Lib.hid (by rw [← HL.out]; simp [leads])
    clear HL
    by_cases t0 : tab = 0
    · subst t0
      have HP : Hid (isP K port 2 = x) := Lib.hid (by rw [← HL2.out]; simp)
      clear HL2
      have hv := V3.out
      obtain ⟨A, cap, hA⟩ : ∃ A cap, v = .slice A K.length cap := by
        rcases hv with ⟨rfl, A, cap, rfl⟩ | ⟨b, off, cap, rfl, _⟩ <;> exact ⟨_, _, rfl⟩
      clear V3
      by_cases h0 : 0 ≤ port
      · by_cases h1 : port < (K.length : Int)
        · obtain ⟨k, rfl⟩ : ∃ k : Nat, port = (k : Int) := ⟨port.toNat, by omega⟩
          have hk : k < K.length := by omega
          obtain ⟨y, hy⟩ : ∃ y, K[k]? = some y := ⟨_, List.getElem?_eq_getElem hk⟩
          rcases hv with ⟨rfl, _⟩ | ⟨b, off, cap, rfl, hl, hb, hc⟩
          · simp at hk
          have c := hc k y hy
          have HP2 := Lib.hid ((isP_at hy 2).symm.trans HP.out)
          have hl2 : (K.length : Int) ≤ 9223372036854775807 := by unfold maxLen at hl; omega
          clear hc hy hA HP
          go_wp2
          go_ret
          exact ⟨by rw [← HP2.out]; rfl, B3⟩
        · have e0 : x = false := by rw [← HP.out]; exact isP_far h1 _
          subst e0 hA
          clear hv HP
          go_wp2
          go_ret
          exact ⟨by simp, B3⟩
      · have e0 : x = false := by rw [← HP.out]; exact isP_neg h0 _
        subst e0 hA
        clear hv HP
        go_wp2
        go_ret
        exact ⟨by simp, B3⟩
    · have e0 : x = false := by rw [← HL2.out]; simp [t0]
      subst e0
      clear HL2 V3
      go_wp2
      go_ret
      exact ⟨by simp, B3⟩
  by_cases k4 : kind = 4
  · subst k4
    have HL2 : Hid ((decide (table < tab) && decide (tab < 3) && decide (port = 0)) = x) := Lib.hid (by rw [← HL.out]; simp [leads])
    clear HL V3
    by_cases p0 : port = 0
    · subst p0
      by_cases t0 : table < tab
      · by_cases t1 : tab < 3
        · have e0 : x = true := by rw [← HL2.out]; simp [t0, t1]
          subst e0
          clear HL2
          go_wp2
          go_ret
          exact ⟨by simp, B3⟩
        · have e0 : x = false := by rw [← HL2.out]; simp [t1]
          subst e0
          clear HL2
          go_wp2
          go_ret
          exact ⟨by simp, B3⟩
      · have e0 : x = false := by rw [← HL2.out]; simp [t0]
        subst e0
        clear HL2
        go_wp2
        go_ret
        exact ⟨by simp, B3⟩
    · have e0 : x = false := by rw [← HL2.out]; simp [p0]
      subst e0
      clear HL2
      go_wp2
      go_ret
      exact ⟨by simp, B3⟩
  have e0 : x = false := by rw [← HL.out]; simp [leads, k1, k2, k3, k4]
  subst e0
  clear HL V3
  go_wp2
  go_ret
  exact ⟨by simp, B3⟩
end Go.Proofs

namespace Go.Proofs
open Go.RowKit Go.Proofs.Hd Go.Sort Go.Shelf Go.Lib
attribute [local go_sem] uv_nonneg uv_and uv_or uv_xor uv_andNot eq2_self
attribute [local go_sem high] run_eq2 run_eqR
set_option maxHeartbeats 4000000 in
set_option maxRecDepth 100000 in
theorem rsl_c (r : Rl) (table : Int) (v : Value) (KK : List Int) (w : World) (hv : Po w v KK) : Calls Try.prog 3 #[.agg #[.int .i64 r.pri, .int .u64 (uv r.m.vh), .int .u64 (uv r.m.vl), .int .u64 (uv r.m.ch), .int .u64 (uv r.m.cl), .int .i64 r.kind, .int .i64 r.port, .int .i64 r.tab, .int .u64 (uv r.s.vh), .int .u64 (uv r.s.vl), .int .u64 (uv r.s.ch), .int .u64 (uv r.s.cl)], .int .i64 table, v] w fun e w' => e = .returned (.bool true) ∧ Below w.heap.size w w' := by
  have B0 := below1 w (.cells #[.int .i64 r.pri, .int .u64 (uv r.m.vh), .int .u64 (uv r.m.vl), .int .u64 (uv r.m.ch), .int .u64 (uv r.m.cl), .int .i64 r.kind, .int .i64 r.port, .int .i64 r.tab, .int .u64 (uv r.s.vh), .int .u64 (uv r.s.vl), .int .u64 (uv r.s.ch), .int .u64 (uv r.s.cl)] 30)
  have X0 : Blk (w.alloc (.cells #[.int .i64 r.pri, .int .u64 (uv r.m.vh), .int .u64 (uv r.m.vl), .int .u64 (uv r.m.ch), .int .u64 (uv r.m.cl), .int .i64 r.kind, .int .i64 r.port, .int .i64 r.tab, .int .u64 (uv r.s.vh), .int .u64 (uv r.s.vl), .int .u64 (uv r.s.ch), .int .u64 (uv r.s.cl)] 30)) w.heap.size 30 #[.int .i64 r.pri, .int .u64 (uv r.m.vh), .int .u64 (uv r.m.vl), .int .u64 (uv r.m.ch), .int .u64 (uv r.m.cl), .int .i64 r.kind, .int .i64 r.port, .int .i64 r.tab, .int .u64 (uv r.s.vh), .int .u64 (uv r.s.vl), .int .u64 (uv r.s.ch), .int .u64 (uv r.s.cl)] := Blk.new w _ _
  have P0 := hv.on B0
  obtain ⟨x, hx⟩ : ∃ x, sndR r table KK = x := ⟨_, rfl⟩
  have HX := Lib.hid hx
  clear hv hx
  go_enter Try.func3, Try.ntmps3
  go_upto_region 1 with (fail)
  generalize w.alloc (.cells #[.int .i64 r.pri, .int .u64 (uv r.m.vh), .int .u64 (uv r.m.vl), .int .u64 (uv r.m.ch), .int .u64 (uv r.m.cl), .int .i64 r.kind, .int .i64 r.port, .int .i64 r.tab, .int .u64 (uv r.s.vh), .int .u64 (uv r.s.vl), .int .u64 (uv r.s.ch), .int .u64 (uv r.s.cl)] 30) = wA at B0 X0 P0 ⊢
  have PV := Lib.hid P0
  have KP : ∀ W, Below wA.heap.size wA W → (Below wA.heap.size wA W ∧ W.cell? ⟨w.heap.size, 0, none⟩ = some (.int .i64 r.pri) ∧ W.cell? ⟨w.heap.size, 1, none⟩ = some (.int .u64 (uv r.m.vh)) ∧ W.cell? ⟨w.heap.size, 2, none⟩ = some (.int .u64 (uv r.m.vl)) ∧ W.cell? ⟨w.heap.size, 3, none⟩ = some (.int .u64 (uv r.m.ch)) ∧ W.cell? ⟨w.heap.size, 4, none⟩ = some (.int .u64 (uv r.m.cl)) ∧ W.cell? ⟨w.heap.size, 5, none⟩ = some (.int .i64 r.kind) ∧ W.cell? ⟨w.heap.size, 6, none⟩ = some (.int .i64 r.port) ∧ W.cell? ⟨w.heap.size, 7, none⟩ = some (.int .i64 r.tab) ∧ W.cell? ⟨w.heap.size, 8, none⟩ = some (.int .u64 (uv r.s.vh)) ∧ W.cell? ⟨w.heap.size, 9, none⟩ = some (.int .u64 (uv r.s.vl)) ∧ W.cell? ⟨w.heap.size, 10, none⟩ = some (.int .u64 (uv r.s.ch)) ∧ W.cell? ⟨w.heap.size, 11, none⟩ = some (.int .u64 (uv r.s.cl))) := fun W hb => have x0 := X0.on hb; ⟨hb, x0.cell 0, x0.cell 1, x0.cell 2, x0.cell 3, x0.cell 4, x0.cell 5, x0.cell 6, x0.cell 7, x0.cell 8, x0.cell 9, x0.cell 10, x0.cell 11⟩
  have HKP := Lib.hid KP
  clear KP X0 P0
  refine wp_region_held_drew (S := fun w' => Below wA.heap.size wA w' ∧ w'.cell? ⟨w.heap.size, 0, none⟩ = some (.int .i64 r.pri) ∧ w'.cell? ⟨w.heap.size, 1, none⟩ = some (.int .u64 (uv r.m.vh)) ∧ w'.cell? ⟨w.heap.size, 2, none⟩ = some (.int .u64 (uv r.m.vl)) ∧ w'.cell? ⟨w.heap.size, 3, none⟩ = some (.int .u64 (uv r.m.ch)) ∧ w'.cell? ⟨w.heap.size, 4, none⟩ = some (.int .u64 (uv r.m.cl)) ∧ w'.cell? ⟨w.heap.size, 5, none⟩ = some (.int .i64 r.kind) ∧ w'.cell? ⟨w.heap.size, 6, none⟩ = some (.int .i64 r.port) ∧ w'.cell? ⟨w.heap.size, 7, none⟩ = some (.int .i64 r.tab) ∧ w'.cell? ⟨w.heap.size, 8, none⟩ = some (.int .u64 (uv r.s.vh)) ∧ w'.cell? ⟨w.heap.size, 9, none⟩ = some (.int .u64 (uv r.s.vl)) ∧ w'.cell? ⟨w.heap.size, 10, none⟩ = some (.int .u64 (uv r.s.ch)) ∧ w'.cell? ⟨w.heap.size, 11, none⟩ = some (.int .u64 (uv r.s.cl))) (by kernel_rfl) (HKP.out _ (Below.refl _ wA).drew) (fun hHeld => ?_)
  refine wpAnyH_ready (rs := [0]) (by kernel_rfl) (by simp) ?_
  refine AllReadyH.cons (o := ⟨some 7, _, _, _, _, _⟩) rfl (fun K hK => ?_) AllReadyH.nil
  go_simp
  (with_reducible refine (awake5_c _).mono ?_)
  rintro e w5 ⟨rfl, hb⟩
  (try dsimp only)
  refine hK.out _ _ (HKP.out _ (hHeld.1.trans (hb.mono hHeld.1.size))) (fun hNext => ?_)
  clear hK K hHeld
  have hHeld := hNext
  clear hNext
  try simp only [Act.put, List.setIfInBounds_toArray, List.set_cons_zero, List.set_cons_succ]
  refine wpAnyH_take (i := 1) (oi := ⟨some 8, _, _, _, _, _⟩) (v := ?vq1) rfl (by kernel_rfl) (by kernel_rfl) (by kernel_rfl) (fun _ _ _ h => h) (Or.inl ⟨by rfl, ?yq1⟩) hHeld ?rq1
  case yq1 => (intro w' hSw; (try dsimp only at hSw); go_simp; try (with_reducible rfl))
  simp only [Act.put, List.setIfInBounds_toArray, List.set_cons_zero, List.set_cons_succ]
  refine wpAnyH_take (i := 2) (oi := ⟨some 9, _, _, _, _, _⟩) (v := ?vq2) rfl (by kernel_rfl) (by kernel_rfl) (by kernel_rfl) (fun _ _ _ h => h) (Or.inl ⟨by rfl, ?yq2⟩) hHeld ?rq2
  case yq2 => (intro w' hSw; (try dsimp only at hSw); go_simp; try (with_reducible rfl))
  simp only [Act.put, List.setIfInBounds_toArray, List.set_cons_zero, List.set_cons_succ]
  refine wpAnyH_take (i := 3) (oi := ⟨some 10, _, _, _, _, _⟩) (v := ?vq3) rfl (by kernel_rfl) (by kernel_rfl) (by kernel_rfl) (fun _ _ _ h => h) (Or.inl ⟨by rfl, ?yq3⟩) hHeld ?rq3
  case yq3 => (intro w' hSw; (try dsimp only at hSw); go_simp; try (with_reducible rfl))
  simp only [Act.put, List.setIfInBounds_toArray, List.set_cons_zero, List.set_cons_succ]
  refine wpAnyH_take (i := 4) (oi := ⟨some 11, _, _, _, _, _⟩) (v := ?vq4) rfl (by kernel_rfl) (by kernel_rfl) (by kernel_rfl) (fun _ _ _ h => h) (Or.inl ⟨by rfl, ?yq4⟩) hHeld ?rq4
  case yq4 => (intro w' hSw; (try dsimp only at hSw); go_simp; try (with_reducible rfl))
  simp only [Act.put, List.setIfInBounds_toArray, List.set_cons_zero, List.set_cons_succ]
  refine wpAnyH_take (i := 6) (oi := ⟨some 13, _, _, _, _, _⟩) (v := ?vq6) rfl (by kernel_rfl) (by kernel_rfl) (by kernel_rfl) (fun _ _ _ h => h) (Or.inl ⟨by rfl, ?yq6⟩) hHeld ?rq6
  case yq6 => (intro w' hSw; (try dsimp only at hSw); go_simp; try (with_reducible rfl))
  simp only [Act.put, List.setIfInBounds_toArray, List.set_cons_zero, List.set_cons_succ]
  refine wpAnyH_take (i := 7) (oi := ⟨some 14, _, _, _, _, _⟩) (v := ?vq7) rfl (by kernel_rfl) (by kernel_rfl) (by kernel_rfl) (fun _ _ _ h => h) (Or.inl ⟨by rfl, ?yq7⟩) hHeld ?rq7
  case yq7 => (intro w' hSw; (try dsimp only at hSw); go_simp; try (with_reducible rfl))
  simp only [Act.put, List.setIfInBounds_toArray, List.set_cons_zero, List.set_cons_succ]
  refine wpAnyH_take (i := 8) (oi := ⟨some 15, _, _, _, _, _⟩) (v := ?vq8) rfl (by kernel_rfl) (by kernel_rfl) (by kernel_rfl) (fun _ _ _ h => h) (Or.inl ⟨by rfl, ?yq8⟩) hHeld ?rq8
  case yq8 => (intro w' hSw; (try dsimp only at hSw); go_simp; try (with_reducible rfl))
  simp only [Act.put, List.setIfInBounds_toArray, List.set_cons_zero, List.set_cons_succ]
  refine wpAnyH_ready (rs := [5]) (by kernel_rfl) (by simp) ?_
  refine AllReadyH.cons (o := ⟨some 12, _, _, _, _, _⟩) rfl (fun K hK => ?_) AllReadyH.nil
  go_simp
  (with_reducible refine (sound_r _ r table v KK _ HX.out (PV.out.on hHeld.1)).mono ?_)
  rintro e w6 ⟨rfl, hb⟩
  (try dsimp only)
  refine hK.out _ _ (HKP.out _ (hHeld.1.trans (hb.mono hHeld.1.size))) (fun hNext => ?_)
  clear hK K hHeld
  have hHeld := hNext
  clear hNext
  try simp only [Act.put, List.setIfInBounds_toArray, List.set_cons_zero, List.set_cons_succ]
  refine wpAnyH_ready (rs := [9]) (by kernel_rfl) (by simp) ?_
  refine AllReadyH.cons (o := ⟨some 16, _, _, _, _, _⟩) rfl (fun K hK => ?_) AllReadyH.nil
  go_simp
  (with_reducible refine (rsound_r _ r table v KK _ HX.out (PV.out.on hHeld.1)).mono ?_)
  rintro e w7 ⟨rfl, hb⟩
  (try dsimp only)
  refine hK.out _ _ (HKP.out _ (hHeld.1.trans (hb.mono hHeld.1.size))) (fun hNext => ?_)
  clear hK K hHeld
  have hHeld := hNext
  clear hNext
  try simp only [Act.put, List.setIfInBounds_toArray, List.set_cons_zero, List.set_cons_succ]
  refine wpAnyH_take (i := 10) (oi := ⟨some 17, _, _, _, _, _⟩) (v := ?vq10) rfl (by kernel_rfl) (by kernel_rfl) (by kernel_rfl) (fun _ _ _ h => h) (Or.inl ⟨by rfl, ?yq10⟩) hHeld ?rq10
  case yq10 => (intro w' hSw; (try dsimp only at hSw); go_simp; try (with_reducible rfl))
  simp only [Act.put, List.setIfInBounds_toArray, List.set_cons_zero, List.set_cons_succ]
  refine wpAnyH_take (i := 11) (oi := ⟨some 18, _, _, _, _, _⟩) (v := ?vq11) rfl (by kernel_rfl) (by kernel_rfl) (by kernel_rfl) (fun _ _ _ h => h) (Or.inl ⟨by rfl, ?yq11⟩) hHeld ?rq11
  case yq11 => (intro w' hSw; (try dsimp only at hSw); go_simp; try (with_reducible rfl))
  simp only [Act.put, List.setIfInBounds_toArray, List.set_cons_zero, List.set_cons_succ]
  refine wpAnyH_take (i := 12) (oi := ⟨some 6, _, _, _, _, _⟩) (v := ?vq12) rfl (by kernel_rfl) (by kernel_rfl) (by kernel_rfl) (fun _ _ _ h => h) (Or.inl ⟨by rfl, ?yq12⟩) hHeld ?rq12
  case yq12 => (intro w' hSw; (try dsimp only at hSw); go_simp; try (with_reducible rfl))
  simp only [Act.put, List.setIfInBounds_toArray, List.set_cons_zero, List.set_cons_succ]
  refine wpAnyH_done (by kernel_rfl) ?_ _
  have hL := B0.trans (hHeld.1.mono B0.size)
  clear hHeld HKP
  go_wp2
  go_ret
  exact ⟨rfl, hL⟩
end Go.Proofs

namespace Go.Proofs.Ytkbeppknmdejnaa
open Go.ChangeShapes Go.WideShapes Go.ChangeAt Go.RowKit Go.Joins Go.Proofs.Hd

theorem laidOut_rsl : laidOutB Try.prog = true := by kernel_rfl
set_option maxRecDepth 100000 in
theorem rsl_lifted (os : Os) (started : os.Started) (H : Type) (enc : TypeId × Value → H) :
    ReturnsInHanded {} Try.checked os 3 .any (Rows.ruleSoundSpec.pre6 enc Try.prog Try.f3 Rows.ruleSoundRow.domain false) (Rows.ruleSoundSpec.post enc Try.prog Try.f3 false true false false) := by
  refine returnsInHanded_of_change (C := Try.checked) own started (by kernel_rfl) Try.func3
    (ChangeSpec.witness6 (enc := enc) (C := Try.checked) false ⟨#[], #[.agg #[.int .i64 0, .int .u64 0, .int .u64 0, .int .u64 0, .int .u64 0, .int .i64 0, .int .i64 0, .int .i64 0, .int .u64 0, .int .u64 0, .int .u64 0, .int .u64 0], .int .i64 0, .slice none 0 0], []⟩ 8 (by kernel_rfl) (by kernel_rfl) (by kernel_rfl) (by kernel_rfl)) ?_
  intro W base args ds gs before hval0 hW hcnd _
  have hval : ∀ (j : Nat) t v, Try.f3.params[j]? = some t → args[j]? = some v → Value.okWide Try.prog W .any base t v := hval0
  have hW' := hW
  obtain ⟨p, q, hA0, hV, rfl, hfz, hnd⟩ := hW
  have hA : DataW.TrodAll enc Try.prog W 0 (fun _ => true) true Try.f3.params.toList args.toList ds p := hA0
  rw [Try.params3] at hA hval
  obtain ⟨v0, vs0, d0, ds0, p0, q0, hargs, rfl, rfl, h0, r0⟩ := trodAll_cons hA
  obtain ⟨v1, vs1, d1, ds1, p1, q1, rfl, rfl, rfl, h1, r1⟩ := trodAll_cons r0
  obtain ⟨v2, vs2, d2, ds2, p2, q2, rfl, rfl, rfl, h2, r2⟩ := trodAll_cons r1
  obtain ⟨rfl, rfl, rfl⟩ := trodAll_nil r2
  obtain rfl : args = #[v0, v1, v2] := by cases args; simp_all
  obtain ⟨rfl, rfl⟩ := trodVars_none hV
  have k0 := h0
  have lt0 : ∀ x ∈ p0, x.block < W.heap.size := by obtain ⟨m, hm⟩ := k0; exact DataW.trod_lt m _ _ _ hm
  obtain ⟨r, rfl⟩ := open_rule (hval 0 30 v0 rfl rfl) h0
  obtain ⟨t, rfl, rfl, rfl, wf1⟩ := open_int Try.underlying3 (hval 1 3 v1 rfl rfl) h1
  have k2 := h2
  have lt2 : ∀ x ∈ p2, x.block < W.heap.size := by obtain ⟨m, hm⟩ := k2; exact DataW.trod_lt m _ _ _ hm
  obtain ⟨pA, pc, pK, rfl, pp⟩ := open_ports (hval 2 31 v2 rfl rfl) h2
  clear hA0 hval0
  obtain ⟨bt1, bt2⟩ := bounds_i64 wf1
  refine (rsl_c r t _ pK W pp).mono fun e W' ⟨he, hg⟩ => ?_
  subst he
  exact ⟨_, rfl, _, _, _, [], _, [], hW', trodAll_mk1 (shut_bool Try.underlying4 _), (trodAll_cons_mk (Below.trod laidOut_rsl (by kernel_rfl) (of_decide_eq_true (by kernel_rfl)) k0 hg lt0) (trodAll_cons_mk (shut_int Try.underlying3 wf1) (trodAll_cons_mk (Below.trod laidOut_rsl (by kernel_rfl) (of_decide_eq_true (by kernel_rfl)) k2 hg lt2) trodAll_mk0))), rfl, hg.frame _, (fun h => by cases h)⟩

theorem rsl_holds : Rows.RuleSoundSaid :=
  OpenClaim.holds_of_wide 3 Try.f3 rfl rfl rfl rfl rfl rfl rfl ⟨rfl, rfl, rfl, rfl, rfl⟩ rfl rfl rfl rfl rfl (by kernel_rfl) Try.func3 (by kernel_rfl)
    (of_decide_eq_true (by kernel_rfl)) (by unfold Func.isWrapper; first | (rw [if_pos (by decide +kernel)]; kernel_rfl) | (rw [if_neg (by decide +kernel)]; exact ⟨rfl, rfl⟩))
    (fun os started H enc _ => rsl_lifted os started H enc)
#print axioms rsl_holds
end Go.Proofs.Ytkbeppknmdejnaa
