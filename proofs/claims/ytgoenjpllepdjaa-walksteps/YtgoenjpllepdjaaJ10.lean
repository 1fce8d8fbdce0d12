/-
  Contract of (*walker).step: one hop. Conditions as the theorem lists them.
  Contracts of the reference's Same of layer 9 at equal runs, of walk.Passed and of the generics that it calls. Conditions as each theorem lists them.
  How tables and a run handed in by value read; no list in them is longer than memory reaches, where what came in is not. No conditions.
  Plain facts on whole arrays that are written place by place. No conditions.
-/
import Derived.Test.YtgoenjpllepdjaaJ9
import Derived.BigQuiet
import Derived.Deep.LoopGhost
import Derived.Deep.RegionHeld
namespace Go.Proofs.Hd
open Go.RowKit
theorem sta_left {T : List (List Pt)} {BB : List (List (List Rl))} {n t : Nat} {L : List Pt} {R : List Rl} (h : StA T BB n t L R) : T[n]? = some L := h.1
theorem add_plain9 (b o j : Nat) : (⟨b, o, none⟩ : Addr).add j = ⟨b, o + j, none⟩ := by
  unfold Addr.add; by_cases hn : j = 0 <;> simp [hn]
theorem src_blk {w : World} {b : Nat} {t : TypeId} {x : Hp} (h : Blk w b t x.cs.toArray) : Src w 5 (.slice (some ⟨b, 0, none⟩) 1 1) 1 x.cs := by
  refine ⟨rfl, fun u hu => ?_, .inr ⟨_, _, rfl, fun j u hj => ?_⟩⟩
  · simp [Hp.cs] at hu
    rcases hu with rfl | rfl | rfl | rfl | rfl <;> rfl
  · have hc := h.cell j
    rw [List.getElem?_toArray, hj] at hc
    have e : (⟨b, 0, none⟩ : Addr).add j = ⟨b, j, none⟩ := (add_plain9 b 0 j).trans (by rw [Nat.zero_add])
    rw [e]
    exact hc
/-- A walker: where it is, its header there, its end, its hops. -/
def Wlk (base : Nat) (w : World) (p : Nat) (tA : Option Addr) (tn tc : Nat) (ten : Int) (pA : Option Addr) (pn pc : Nat) (wA : Option Addr) (wn wcp : Nat) (bA : Option Addr) (bn bc n t : Nat) (hh hl : BitVec 64) (fin sw sp : Int) (H : List Hp) : Prop :=
  ∃ hA hc, Blk w p 81 #[.slice tA tn tc, .int .i64 ten, .slice pA pn pc, .slice wA wn wcp, .slice bA bn bc, .int .i64 (n : Int), .int .i64 (t : Int), .int .u64 (uv hh), .int .u64 (uv hl), .int .i64 fin, .int .i64 sw, .int .i64 sp, .slice hA H.length hc] ∧ w.ownsRow base 64 5 (.slice hA H.length hc) H.length (H.flatMap Hp.cs)
end Go.Proofs.Hd
namespace Go.Proofs.Hd
open Go.RowKit
theorem wlk_snoc {base : Nat} {w : World} {p : Nat} {tA pA wA bA hA : Option Addr} {tn tc pn pc wn wcp bn bc hc n t : Nat} {ten fin sw sp : Int} {hh hl : BitVec 64} {H : List Hp} {x : Hp} (h : Blk w p 81 #[.slice tA tn tc, .int .i64 ten, .slice pA pn pc, .slice wA wn wcp, .slice bA bn bc, .int .i64 (n : Int), .int .i64 (t : Int), .int .u64 (uv hh), .int .u64 (uv hl), .int .i64 fin, .int .i64 sw, .int .i64 sp, .slice hA (H.length + 1) hc]) (ho : w.ownsRow base 64 5 (.slice hA (H.length + 1) hc) (H.length + 1) (H.flatMap Hp.cs ++ x.cs)) : Wlk base w p tA tn tc ten pA pn pc wA wn wcp bA bn bc n t hh hl fin sw sp (H ++ [x]) := by
  have e : (H ++ [x]).length = H.length + 1 := by simp
  have e2 : (H ++ [x]).flatMap Hp.cs = H.flatMap Hp.cs ++ x.cs := by simp
  exact ⟨hA, hc, by rw [e]; exact h, by rw [e, e2]; exact ho⟩
end Go.Proofs.Hd
namespace Go.Proofs
open Go.RowKit Go.Proofs.Hd Go.Lib
attribute [local go_sem] uv_nonneg
theorem infoHopS : (Try.prog.info? 64).map (·.size) = some 5 := by kernel_rfl
theorem infoHopA : (Try.prog.info? 64).map (fun i => (i.zero, i.size, i.bytes)) = some (some (.agg #[.int .i64 0, .int .i64 0, .int .i64 0, .int .u64 0, .int .u64 0]), 5, 40) := by kernel_rfl
/-- What a step answers. -/
def StepR (T : List (List Pt)) (BB : List (List (List Rl))) (wl : World → Nat → Nat → BitVec 64 → BitVec 64 → Int → Int → Int → List Hp → Prop) (n t : Nat) (hh hl : BitVec 64) (H : List Hp) (e : Ending) (w' : World) : Prop :=
  (∃ (n' t' : Nat) (gh gl : BitVec 64) (fin sw sp : Int) (H' : List Hp), e = .returned (.bool false) ∧ wl w' n' t' gh gl fin sw sp H' ∧ ∀ k, runF fndI T BB (k + 1) n t hh hl H = ⟨fin, sw, sp, H'⟩) ∨ ∃ (n' t' : Nat) (gh gl : BitVec 64) (L' : List Pt) (R' : List Rl) (x : Hp), e = .returned (.bool true) ∧ StA T BB n' t' L' R' ∧ wl w' n' t' gh gl 0 0 0 (H ++ [x]) ∧ ∀ k, runF fndI T BB (k + 1) n t hh hl H = runF fndI T BB k n' t' gh gl (H ++ [x])
set_option maxRecDepth 100000 in
set_option maxHeartbeats 8000000 in
theorem step_c {T : List (List Pt)} {ten : Int} {P : List (Int × Int)} {Q : List Wa} {BB : List (List (List Rl))} {tA pA wA bA : Option Addr} {tc pn pc wn wcp bc : Nat} {n t : Nat} {hh hl : BitVec 64} {w wb : World} {p : Nat} {H : List Hp} {L : List Pt} {R : List Rl} (hcfg : cfgT T ten P Q BB = 0) (hT : PsT wb (.slice tA T.length tc) T) (hQ : RuQ wb (.slice bA BB.length bc) BB) (hBb : Below wb.heap.size wb w) (hp : wb.heap.size ≤ p) (hs : StA T BB n t L R) (hRl : R.length ≤ 4611686018427387904) (hH : (H.length + 1) * 40 ≤ 140737488355328) (hW : Wlk wb.heap.size w p tA T.length tc ten pA pn pc wA wn wcp bA BB.length bc n t hh hl 0 0 0 H) :
    Calls Try.prog 27 #[.pointer (some ⟨p, 0, none⟩)] w fun e w' => Below wb.heap.size wb w' ∧ StepR T BB (fun W n t hh hl fin sw sp H => Wlk wb.heap.size W p tA T.length tc ten pA pn pc wA wn wcp bA BB.length bc n t hh hl fin sw sp H) n t hh hl H e w' := by
  obtain ⟨ih, hih, hz0, hz1, hz2⟩ : ∃ ih, Try.prog.info? 64 = some ih ∧ ih.zero = some (.agg #[.int .i64 0, .int .i64 0, .int .i64 0, .int .u64 0, .int .u64 0]) ∧ ih.size = 5 ∧ ih.bytes = 40 := by
    have h := infoHopA
    cases hx : Try.prog.info? 64 with
    | none => rw [hx] at h; cases h
    | some i => rw [hx] at h; simp only [Option.map_some, Option.some.injEq, Prod.mk.injEq] at h; exact ⟨i, rfl, h.1, h.2.1, h.2.2⟩
  obtain ⟨hA, hc, kW0, kO0⟩ := hW
  obtain ⟨hTn, X, hBn, hXt⟩ := id hs
  have hnl : n < BB.length := (List.getElem?_eq_some_iff.1 hBn).1
  have hnz : (n : Int) < (BB.length : Int) := by omega
  have htl : t < X.length := (List.getElem?_eq_some_iff.1 hXt).1
  have htz : (t : Int) < (X.length : Int) := by omega
  have HT := Lib.hid hT
  obtain ⟨bA', bc', e, hBm, hQ⟩ := hQ
  injection e with e1 e2 e3
  subst e1 e3
  obtain ⟨b, o, rfl, hbl, hbk⟩ := hQ (by rintro rfl; simp at hnl)
  obtain ⟨sX, hsX, hX⟩ := hbk n X hBn
  have HX : Hid (RuT wb sX X) := hX
  obtain ⟨XA, Xc, rfl, -, -, hXf⟩ := hX
  obtain ⟨bx, ox, rfl, -, hxk⟩ := hXf (by rintro rfl; simp at htl)
  obtain ⟨sR, hsR, hR⟩ := hxk t R hXt
  have HR : Hid (Ru wb sR R) := hR
  obtain ⟨RA, Rc, rfl, hRf⟩ := hR.form
  have HSX := Lib.hid hsX
  have HSR := Lib.hid hsR
  have HXR := Lib.hid hXt
  have HST := Lib.hid hs
  have HCFG := Lib.hid hcfg
  obtain ⟨j, gh, gl, x, hI⟩ := OneIs.ex R hh hl
  have HI := Lib.hid hI
  have HRF := Lib.hid hRf
  clear hI hRf hR hxk hXf hsR hsX hbk hQ hBm hbl hXt hBn hTn hT hs hcfg hnl htl
  have k4 := (kW0.cell 4).trans rfl
  have k5 := (kW0.cell 5).trans rfl
  simp only [List.getElem?_toArray, List.getElem?_cons_succ, List.getElem?_cons_zero] at k4 k5
  have hsx := on_some hBb HSX.out
  have HB0 := Lib.hid hBb
  have KW0 := Lib.hid kW0
  have KO0 := Lib.hid kO0
  clear hBb kW0 kO0
  go_enter Try.func27, Try.ntmps27
  go_upto_region 1 with (fail)
  go_quiet (fail)
  have hd := bldrewN (Below.refl w.heap.size w) nq
  have HB1 := Lib.hid (HB0.out.trans (hd.mono HB0.out.size))
  have KW1 := Lib.hid (KW0.out.on hd)
  have KO1 := Lib.hid (own_on KO0.out hd)
  clear hd HB0 KW0 KO0 k4 k5 hsx
  generalize w.drewN nq = w1 at HB1 KW1 KO1 ⊢
  go_upto_region 2 with (fail)
  have HKP : Hid (∀ W, Below w1.heap.size w1 W → (Below w1.heap.size w1 W ∧ W.cell? ⟨p, 5, none⟩ = some (.int .i64 (n : Int)) ∧ W.cell? ⟨p, 6, none⟩ = some (.int .i64 (t : Int)) ∧ W.cell? ⟨p, 7, none⟩ = some (.int .u64 (uv hh)) ∧ W.cell? ⟨p, 8, none⟩ = some (.int .u64 (uv hl)))) := fun W hb => ⟨hb, ((KW1.out.on hb).cell 5).trans rfl, ((KW1.out.on hb).cell 6).trans rfl, ((KW1.out.on hb).cell 7).trans rfl, ((KW1.out.on hb).cell 8).trans rfl⟩
  refine wp_region_held_drew (S := fun w' => Below w1.heap.size w1 w' ∧ w'.cell? ⟨p, 5, none⟩ = some (.int .i64 (n : Int)) ∧ w'.cell? ⟨p, 6, none⟩ = some (.int .i64 (t : Int)) ∧ w'.cell? ⟨p, 7, none⟩ = some (.int .u64 (uv hh)) ∧ w'.cell? ⟨p, 8, none⟩ = some (.int .u64 (uv hl))) (by kernel_rfl) (HKP.out _ (Below.refl _ w1).drew) (fun hHeld => ?_)
  have hB := (Below.refl w1.heap.size w1).drew
  generalize w1.drew = u0 at hHeld hB ⊢
  refine wpAnyH_take (i := 0) (oi := ⟨some 19, _, _, _, _, _⟩) (v := ?vsb0_1) rfl (by kernel_rfl) (by kernel_rfl) (by kernel_rfl) (fun _ _ _ h => h) (Or.inl ⟨by rfl, ?ysb0_1⟩) hHeld ?rsb0_1
  case ysb0_1 => (intro w' hSw; (try dsimp only at hSw); go_simp; try (with_reducible rfl))
  simp only [Act.put, List.setIfInBounds_toArray, List.set_cons_zero, List.set_cons_succ]
  refine wpAnyH_take (i := 1) (oi := ⟨some 20, _, _, _, _, _⟩) (v := ?vsb1_2) rfl (by kernel_rfl) (by kernel_rfl) (by kernel_rfl) (fun _ _ _ h => h) (Or.inl ⟨by rfl, ?ysb1_2⟩) hHeld ?rsb1_2
  case ysb1_2 => (intro w' hSw; (try dsimp only at hSw); go_simp; try (with_reducible rfl))
  simp only [Act.put, List.setIfInBounds_toArray, List.set_cons_zero, List.set_cons_succ]
  refine wpAnyH_take (i := 2) (oi := ⟨some 21, _, _, _, _, _⟩) (v := ?vsb2_3) rfl (by kernel_rfl) (by kernel_rfl) (by kernel_rfl) (fun _ _ _ h => h) (Or.inl ⟨by rfl, ?ysb2_3⟩) hHeld ?rsb2_3
  case ysb2_3 => (intro w' hSw; (try dsimp only at hSw); go_simp; try (with_reducible rfl))
  simp only [Act.put, List.setIfInBounds_toArray, List.set_cons_zero, List.set_cons_succ]
  refine wpAnyH_take (i := 3) (oi := ⟨some 22, _, _, _, _, _⟩) (v := ?vsb3_4) rfl (by kernel_rfl) (by kernel_rfl) (by kernel_rfl) (fun _ _ _ h => h) (Or.inl ⟨by rfl, ?ysb3_4⟩) hHeld ?rsb3_4
  case ysb3_4 => (intro w' hSw; (try dsimp only at hSw); go_simp; try (with_reducible rfl))
  simp only [Act.put, List.setIfInBounds_toArray, List.set_cons_zero, List.set_cons_succ]
  refine wpAnyH_take (i := 4) (oi := ⟨some 23, _, _, _, _, _⟩) (v := ?vsb4_5) rfl (by kernel_rfl) (by kernel_rfl) (by kernel_rfl) (fun _ _ _ h => h) (Or.inl ⟨by rfl, ?ysb4_5⟩) hHeld ?rsb4_5
  case ysb4_5 => (intro w' hSw; (try dsimp only at hSw); go_simp; try (with_reducible rfl))
  simp only [Act.put, List.setIfInBounds_toArray, List.set_cons_zero, List.set_cons_succ]
  refine wpAnyH_take (i := 5) (oi := ⟨some 24, _, _, _, _, _⟩) (v := ?vsb5_6) rfl (by kernel_rfl) (by kernel_rfl) (by kernel_rfl) (fun _ _ _ h => h) (Or.inl ⟨by rfl, ?ysb5_6⟩) hHeld ?rsb5_6
  case ysb5_6 => (intro w' hSw; (try dsimp only at hSw); go_simp; try (with_reducible rfl))
  simp only [Act.put, List.setIfInBounds_toArray, List.set_cons_zero, List.set_cons_succ]
  refine wpAnyH_take (i := 6) (oi := ⟨some 25, _, _, _, _, _⟩) (v := ?vsb6_7) rfl (by kernel_rfl) (by kernel_rfl) (by kernel_rfl) (fun _ _ _ h => h) (Or.inl ⟨by rfl, ?ysb6_7⟩) hHeld ?rsb6_7
  case ysb6_7 => (intro w' hSw; (try dsimp only at hSw); go_simp; try (with_reducible rfl))
  simp only [Act.put, List.setIfInBounds_toArray, List.set_cons_zero, List.set_cons_succ]
  refine wpAnyH_take (i := 7) (oi := ⟨some 26, _, _, _, _, _⟩) (v := ?vsb7_8) rfl (by kernel_rfl) (by kernel_rfl) (by kernel_rfl) (fun _ _ _ h => h) (Or.inl ⟨by rfl, ?ysb7_8⟩) hHeld ?rsb7_8
  case ysb7_8 => (intro w' hSw; (try dsimp only at hSw); go_simp; try (with_reducible rfl))
  simp only [Act.put, List.setIfInBounds_toArray, List.set_cons_zero, List.set_cons_succ]
  refine wpAnyH_take (i := 8) (oi := ⟨some 27, _, _, _, _, _⟩) (v := ?vsb8_9) rfl (by kernel_rfl) (by kernel_rfl) (by kernel_rfl) (fun _ _ _ h => h) (Or.inl ⟨by rfl, ?ysb8_9⟩) hHeld ?rsb8_9
  case ysb8_9 => (intro w' hSw; (try dsimp only at hSw); go_simp; try (with_reducible rfl))
  simp only [Act.put, List.setIfInBounds_toArray, List.set_cons_zero, List.set_cons_succ]
  refine wpAnyH_take (i := 9) (oi := ⟨some 28, _, _, _, _, _⟩) (v := ?vsb9_10) rfl (by kernel_rfl) (by kernel_rfl) (by kernel_rfl) (fun _ _ _ h => h) (Or.inl ⟨by rfl, ?ysb9_10⟩) hHeld ?rsb9_10
  case ysb9_10 => (intro w' hSw; (try dsimp only at hSw); go_simp; try (with_reducible rfl))
  simp only [Act.put, List.setIfInBounds_toArray, List.set_cons_zero, List.set_cons_succ]
  refine wpAnyH_take (i := 10) (oi := ⟨some 29, _, _, _, _, _⟩) (v := ?vsb10_11) rfl (by kernel_rfl) (by kernel_rfl) (by kernel_rfl) (fun _ _ _ h => h) (Or.inl ⟨by rfl, ?ysb10_11⟩) hHeld ?rsb10_11
  case ysb10_11 => (intro w' hSw; (try dsimp only at hSw); go_simp; try (with_reducible rfl))
  simp only [Act.put, List.setIfInBounds_toArray, List.set_cons_zero, List.set_cons_succ]
  refine wpAnyH_take (i := 11) (oi := ⟨some 30, _, _, _, _, _⟩) (v := ?vsb11_12) rfl (by kernel_rfl) (by kernel_rfl) (by kernel_rfl) (fun _ _ _ h => h) (Or.inl ⟨by rfl, ?ysb11_12⟩) hHeld ?rsb11_12
  case ysb11_12 => (intro w' hSw; (try dsimp only at hSw); go_simp; try (with_reducible rfl))
  simp only [Act.put, List.setIfInBounds_toArray, List.set_cons_zero, List.set_cons_succ]
  refine wpAnyH_take (i := 12) (oi := ⟨some 31, _, _, _, _, _⟩) (v := ?vsb12_13) rfl (by kernel_rfl) (by kernel_rfl) (by kernel_rfl) (fun _ _ _ h => h) (Or.inl ⟨by rfl, ?ysb12_13⟩) hHeld ?rsb12_13
  case ysb12_13 => (intro w' hSw; (try dsimp only at hSw); go_simp; try (with_reducible rfl))
  simp only [Act.put, List.setIfInBounds_toArray, List.set_cons_zero, List.set_cons_succ]
  refine wpAnyH_ready (rs := [13]) (by kernel_rfl) (by simp) ?_
  refine AllReadyH.cons (o := ⟨some 4, _, _, _, _, _⟩) rfl (fun K hK => ?_) AllReadyH.nil
  go_simp
  have hb := below1 u0 (.cells #[.int .i64 0, .int .i64 0, .int .i64 0, .int .u64 0, .int .u64 0] 64)
  have hB2 := hB.trans (hb.mono hB.size)
  refine hK.out _ _ (HKP.out _ hB2) (fun hNext => ?_)
  have t_h : Nb w1.heap.size (u0.alloc (.cells #[.int .i64 0, .int .i64 0, .int .i64 0, .int .u64 0, .int .u64 0] 64)) u0.heap.size 64 #[.int .i64 0, .int .i64 0, .int .i64 0, .int .u64 0, .int .u64 0] := Nb.top u0 hB.size
  clear hK K hHeld
  have hHeld := hNext
  clear hNext
  clear hB
  have hB := hB2
  clear hB2
  clear hb
  generalize hgen : (u0.alloc (.cells #[.int .i64 0, .int .i64 0, .int .i64 0, .int .u64 0, .int .u64 0] 64)) = u1 at hHeld hB  t_h ⊢
  clear hgen
  generalize hgen : u0.heap.size = b_h at t_h  ⊢
  clear hgen
  try simp only [Act.put, List.setIfInBounds_toArray, List.set_cons_zero, List.set_cons_succ]
  refine wpAnyH_ready (rs := [14]) (by kernel_rfl) (by simp) ?_
  refine AllReadyH.cons (o := ⟨none, _, _, _, _, _⟩) rfl (fun K hK => ?_) AllReadyH.nil
  rw [if_pos (by rfl)]
  refine wp_store_mid 64 _ _ rfl b_h 0 #[.int .i64 (n : Int), .int .i64 (t : Int), .int .i64 (-1), .int .u64 (uv hh), .int .u64 (uv hl)] rfl rfl t_h.there infoHopS (by simp [Value.oneCell']) ?_
  (try dsimp only)
  have hB2 := (Below.setCells [.int .i64 (n : Int), .int .i64 (t : Int), .int .i64 (-1), .int .u64 (uv hh), .int .u64 (uv hl)] 0 _ hB t_h.2)
  refine hK.out _ _ (HKP.out _ hB2) (fun hNext => ?_)
  clear hK K hHeld
  have hHeld := hNext
  clear hNext
  clear hB
  have hB := hB2
  clear hB2
  replace t_h := t_h.put [.int .i64 (n : Int), .int .i64 (t : Int), .int .i64 (-1), .int .u64 (uv hh), .int .u64 (uv hl)] rfl
  generalize hgen : (World.setCells u1 b_h 0 [.int .i64 (n : Int), .int .i64 (t : Int), .int .i64 (-1), .int .u64 (uv hh), .int .u64 (uv hl)]) = u2 at hHeld hB t_h ⊢
  clear hgen
  try simp only [Act.put]
  refine wpAnyH_done (by kernel_rfl) ?_ _
  have HB2 := Lib.hid (HB1.out.trans (hB.mono HB1.out.size))
  have KW2 := Lib.hid (KW1.out.on hB)
  have KO2 := Lib.hid (own_on KO1.out hB)
  have KH2 := Lib.hid t_h.1
  have hbh : ∀ k, (Value.slice hA H.length hc).ownBlock = some k → k ≠ b_h := fun k hk e => by have h1 := (KO1.out.lt k hk).2; have h2 := t_h.2; omega
  have hbp : b_h ≠ p := fun e => by have := t_h.2; have := KW1.out.lt; omega
  have HHB := Lib.hid hbh
  have hhs : wb.heap.size ≤ b_h := by have h1 := t_h.2; have h2 := HB1.out.size; omega
  clear hHeld hB t_h HKP HB1 KW1 KO1 hbh
  generalize u2 = w2 at HB2 KW2 KO2 KH2 ⊢
  go_upto_region 3 with (fail)
  go_cut [5, 6, 7] (fun s5 s6 s7 wc => ∃ ba : Nat, s5 = .int .i64 j ∧ s6 = .pointer (some ⟨ba, 0, none⟩) ∧ s7 = .bool x ∧ Below w2.heap.size w2 wc ∧ Blk wc ba 25 #[.int .u64 (uv gh), .int .u64 (uv gl)] ∧ w2.heap.size ≤ ba)
  case first =>
    have HKP : Hid (∀ W, Below w2.heap.size w2 W → (Below w2.heap.size w2 W ∧ W.cell? ⟨p, 6, none⟩ = some (.int .i64 (t : Int)) ∧ W.cell? ⟨p, 7, none⟩ = some (.int .u64 (uv hh)) ∧ W.cell? ⟨p, 8, none⟩ = some (.int .u64 (uv hl)))) := fun W hb => ⟨hb, ((KW2.out.on hb).cell 6).trans rfl, ((KW2.out.on hb).cell 7).trans rfl, ((KW2.out.on hb).cell 8).trans rfl⟩
    refine wp_region_held_drew (S := fun w' => Below w2.heap.size w2 w' ∧ w'.cell? ⟨p, 6, none⟩ = some (.int .i64 (t : Int)) ∧ w'.cell? ⟨p, 7, none⟩ = some (.int .u64 (uv hh)) ∧ w'.cell? ⟨p, 8, none⟩ = some (.int .u64 (uv hl))) (by kernel_rfl) (HKP.out _ (Below.refl _ w2).drew) (fun hHeld => ?_)
    have hB := (Below.refl w2.heap.size w2).drew
    generalize w2.drew = u0 at hHeld hB ⊢
    refine wpAnyH_take (i := 0) (oi := ⟨some 33, _, _, _, _, _⟩) (v := ?vsc0_1) rfl (by kernel_rfl) (by kernel_rfl) (by kernel_rfl) (fun _ _ _ h => h) (Or.inl ⟨by rfl, ?ysc0_1⟩) hHeld ?rsc0_1
    case ysc0_1 => (intro w' hSw; (try dsimp only at hSw); go_simp; try (with_reducible rfl))
    simp only [Act.put, List.setIfInBounds_toArray, List.set_cons_zero, List.set_cons_succ]
    refine wpAnyH_take (i := 1) (oi := ⟨some 34, _, _, _, _, _⟩) (v := ?vsc1_2) rfl (by kernel_rfl) (by kernel_rfl) (by kernel_rfl) (fun _ _ _ h => h) (Or.inl ⟨by rfl, ?ysc1_2⟩) hHeld ?rsc1_2
    case ysc1_2 => (intro w' hSw; (try dsimp only at hSw); go_simp; try (with_reducible rfl))
    simp only [Act.put, List.setIfInBounds_toArray, List.set_cons_zero, List.set_cons_succ]
    refine wpAnyH_take (i := 2) (oi := ⟨some 35, _, _, _, _, _⟩) (v := ?vsc2_3) rfl (by kernel_rfl) (by kernel_rfl) (by kernel_rfl) (fun _ _ _ h => h) (Or.inl ⟨by rfl, ?ysc2_3⟩) hHeld ?rsc2_3
    case ysc2_3 => (intro w' hSw; (try dsimp only at hSw); go_simp; try (with_reducible rfl))
    simp only [Act.put, List.setIfInBounds_toArray, List.set_cons_zero, List.set_cons_succ]
    refine wpAnyH_take (i := 3) (oi := ⟨some 36, _, _, _, _, _⟩) (v := ?vsc3_4) rfl (by kernel_rfl) (by kernel_rfl) (by kernel_rfl) (fun _ _ _ h => h) (Or.inl ⟨by rfl, ?ysc3_4⟩) hHeld ?rsc3_4
    case ysc3_4 => (intro w' hSw; (try dsimp only at hSw); go_simp; try (with_reducible rfl))
    simp only [Act.put, List.setIfInBounds_toArray, List.set_cons_zero, List.set_cons_succ]
    refine wpAnyH_take (i := 4) (oi := ⟨some 37, _, _, _, _, _⟩) (v := ?vsc4_5) rfl (by kernel_rfl) (by kernel_rfl) (by kernel_rfl) (fun _ _ _ h => h) (Or.inl ⟨by rfl, ?ysc4_5⟩) hHeld ?rsc4_5
    case ysc4_5 => (intro w' hSw; (try dsimp only at hSw); go_simp; try (with_reducible rfl))
    simp only [Act.put, List.setIfInBounds_toArray, List.set_cons_zero, List.set_cons_succ]
    refine wpAnyH_take (i := 5) (oi := ⟨some 38, _, _, _, _, _⟩) (v := ?vsc5_6) rfl (by kernel_rfl) (by kernel_rfl) (by kernel_rfl) (fun _ _ _ h => h) (Or.inl ⟨by rfl, ?ysc5_6⟩) hHeld ?rsc5_6
    case ysc5_6 => (intro w' hSw; (try dsimp only at hSw); go_simp; try (with_reducible rfl))
    simp only [Act.put, List.setIfInBounds_toArray, List.set_cons_zero, List.set_cons_succ]
    refine wpAnyH_take (i := 6) (oi := ⟨some 39, _, _, _, _, _⟩) (v := ?vsc6_7) rfl (by kernel_rfl) (by kernel_rfl) (by kernel_rfl) (fun _ _ _ h => h) (Or.inl ⟨by rfl, ?ysc6_7⟩) hHeld ?rsc6_7
    case ysc6_7 => (intro w' hSw; (try dsimp only at hSw); go_simp; try (with_reducible rfl))
    simp only [Act.put, List.setIfInBounds_toArray, List.set_cons_zero, List.set_cons_succ]
    refine wpAnyH_take (i := 7) (oi := ⟨some 40, _, _, _, _, _⟩) (v := ?vsc7_8) rfl (by kernel_rfl) (by kernel_rfl) (by kernel_rfl) (fun _ _ _ h => h) (Or.inl ⟨by rfl, ?ysc7_8⟩) hHeld ?rsc7_8
    case ysc7_8 => (intro w' hSw; (try dsimp only at hSw); go_simp; try (with_reducible rfl))
    simp only [Act.put, List.setIfInBounds_toArray, List.set_cons_zero, List.set_cons_succ]
    refine wpAnyH_take (i := 8) (oi := ⟨some 41, _, _, _, _, _⟩) (v := ?vsc8_9) rfl (by kernel_rfl) (by kernel_rfl) (by kernel_rfl) (fun _ _ _ h => h) (Or.inl ⟨by rfl, ?ysc8_9⟩) hHeld ?rsc8_9
    case ysc8_9 => (intro w' hSw; (try dsimp only at hSw); go_simp; try (with_reducible rfl))
    simp only [Act.put, List.setIfInBounds_toArray, List.set_cons_zero, List.set_cons_succ]
    refine wpAnyH_ready (rs := [9, 14]) (by kernel_rfl) (by simp) ?_
    refine AllReadyH.cons (o := ⟨some 42, _, _, _, _, _⟩) rfl (fun K hK => ?_) ?_
    · go_simp
      (with_reducible refine (one_c hRl (HX.out.on (HB2.out.trans (hB.mono HB2.out.size))) HXR.out HI.out).mono ?_)
      rintro e u1 ⟨rfl, hb⟩
      (try dsimp only)
      have hB2 := hB.trans (hb.mono hB.size)
      refine hK.out _ _ (HKP.out _ hB2) (fun hNext => ?_)
      clear hK K hHeld
      have hHeld := hNext
      clear hNext
      clear hB
      have hB := hB2
      clear hB2
      clear hb
      try simp only [Act.put, List.setIfInBounds_toArray, List.set_cons_zero, List.set_cons_succ]
      refine wpAnyH_take (i := 10) (oi := ⟨some 32, _, _, _, _, _⟩) (v := ?vsc10_10) rfl (by kernel_rfl) (by kernel_rfl) (by kernel_rfl) (fun _ _ _ h => h) (Or.inl ⟨by rfl, ?ysc10_10⟩) hHeld ?rsc10_10
      case ysc10_10 => (intro w' hSw; (try dsimp only at hSw); go_simp; try (with_reducible rfl))
      simp only [Act.put, List.setIfInBounds_toArray, List.set_cons_zero, List.set_cons_succ]
      refine wpAnyH_take (i := 11) (oi := ⟨some 43, _, _, _, _, _⟩) (v := ?vsc11_11) rfl (by kernel_rfl) (by kernel_rfl) (by kernel_rfl) (fun _ _ _ h => h) (Or.inl ⟨by rfl, ?ysc11_11⟩) hHeld ?rsc11_11
      case ysc11_11 => (intro w' hSw; (try dsimp only at hSw); go_simp; try (with_reducible rfl))
      simp only [Act.put, List.setIfInBounds_toArray, List.set_cons_zero, List.set_cons_succ]
      refine wpAnyH_take (i := 12) (oi := ⟨some 44, _, _, _, _, _⟩) (v := ?vsc12_12) rfl (by kernel_rfl) (by kernel_rfl) (by kernel_rfl) (fun _ _ _ h => h) (Or.inl ⟨by rfl, ?ysc12_12⟩) hHeld ?rsc12_12
      case ysc12_12 => (intro w' hSw; (try dsimp only at hSw); go_simp; try (with_reducible rfl))
      simp only [Act.put, List.setIfInBounds_toArray, List.set_cons_zero, List.set_cons_succ]
      refine wpAnyH_take (i := 13) (oi := ⟨some 45, _, _, _, _, _⟩) (v := ?vsc13_13) rfl (by kernel_rfl) (by kernel_rfl) (by kernel_rfl) (fun _ _ _ h => h) (Or.inl ⟨by rfl, ?ysc13_13⟩) hHeld ?rsc13_13
      case ysc13_13 => (intro w' hSw; (try dsimp only at hSw); go_simp; try (with_reducible rfl))
      simp only [Act.put, List.setIfInBounds_toArray, List.set_cons_zero, List.set_cons_succ]
      refine wpAnyH_ready (rs := [14]) (by kernel_rfl) (by simp) ?_
      refine AllReadyH.cons (o := ⟨some 6, _, _, _, _, _⟩) rfl (fun K hK => ?_) AllReadyH.nil
      go_simp
      have hb := below1 u1 (.cells #[.int .u64 0, .int .u64 0] 25)
      have hB2 := hB.trans (hb.mono hB.size)
      refine hK.out _ _ (HKP.out _ hB2) (fun hNext => ?_)
      have t_a : Nb w2.heap.size (u1.alloc (.cells #[.int .u64 0, .int .u64 0] 25)) u1.heap.size 25 #[.int .u64 0, .int .u64 0] := Nb.top u1 hB.size
      clear hK K hHeld
      have hHeld := hNext
      clear hNext
      clear hB
      have hB := hB2
      clear hB2
      clear hb
      generalize hgen : (u1.alloc (.cells #[.int .u64 0, .int .u64 0] 25)) = u2 at hHeld hB  t_a ⊢
      clear hgen
      generalize hgen : u1.heap.size = b_a at t_a  ⊢
      clear hgen
      try simp only [Act.put, List.setIfInBounds_toArray, List.set_cons_zero, List.set_cons_succ]
      refine wpAnyH_take (i := 15) (oi := ⟨some 5, _, _, _, _, _⟩) (v := ?vsc15_14) rfl (by kernel_rfl) (by kernel_rfl) (by kernel_rfl) (fun _ _ _ h => h) (Or.inl ⟨by rfl, ?ysc15_14⟩) hHeld ?rsc15_14
      case ysc15_14 => (intro w' hSw; (try dsimp only at hSw); go_simp; try (with_reducible rfl))
      simp only [Act.put, List.setIfInBounds_toArray, List.set_cons_zero, List.set_cons_succ]
      refine wpAnyH_ready (rs := [16]) (by kernel_rfl) (by simp) ?_
      refine AllReadyH.cons (o := ⟨none, _, _, _, _, _⟩) rfl (fun K hK => ?_) AllReadyH.nil
      rw [if_pos (by rfl)]
      refine wp_store_mid 25 _ _ rfl b_a 0 #[.int .u64 (uv gh), .int .u64 (uv gl)] rfl rfl t_a.there infoHeadS (by simp [Value.oneCell']) ?_
      (try dsimp only)
      have hB2 := (Below.setCells [.int .u64 (uv gh), .int .u64 (uv gl)] 0 _ hB t_a.2)
      refine hK.out _ _ (HKP.out _ hB2) (fun hNext => ?_)
      clear hK K hHeld
      have hHeld := hNext
      clear hNext
      clear hB
      have hB := hB2
      clear hB2
      replace t_a := t_a.put [.int .u64 (uv gh), .int .u64 (uv gl)] rfl
      generalize hgen : (World.setCells u2 b_a 0 [.int .u64 (uv gh), .int .u64 (uv gl)]) = u3 at hHeld hB t_a ⊢
      clear hgen
      try simp only [Act.put]
      refine wpAnyH_take (i := 17) (oi := ⟨some 7, _, _, _, _, _⟩) (v := ?vsc17_15) rfl (by kernel_rfl) (by kernel_rfl) (by kernel_rfl) (fun _ _ _ h => h) (Or.inl ⟨by rfl, ?ysc17_15⟩) hHeld ?rsc17_15
      case ysc17_15 => (intro w' hSw; (try dsimp only at hSw); go_simp; try (with_reducible rfl))
      simp only [Act.put, List.setIfInBounds_toArray, List.set_cons_zero, List.set_cons_succ]
      refine wpAnyH_done (by kernel_rfl) ?_ _
      go_wp2_with fail
      go_meet
      exact ⟨b_a, rfl, rfl, rfl, hB, t_a.1, t_a.2⟩
    refine AllReadyH.cons (o := ⟨some 6, _, _, _, _, _⟩) rfl (fun K hK => ?_) AllReadyH.nil
    go_simp
    have hb := below1 u0 (.cells #[.int .u64 0, .int .u64 0] 25)
    have hB2 := hB.trans (hb.mono hB.size)
    refine hK.out _ _ (HKP.out _ hB2) (fun hNext => ?_)
    have t_a : Nb w2.heap.size (u0.alloc (.cells #[.int .u64 0, .int .u64 0] 25)) u0.heap.size 25 #[.int .u64 0, .int .u64 0] := Nb.top u0 hB.size
    clear hK K hHeld
    have hHeld := hNext
    clear hNext
    clear hB
    have hB := hB2
    clear hB2
    clear hb
    generalize hgen : (u0.alloc (.cells #[.int .u64 0, .int .u64 0] 25)) = u4 at hHeld hB  t_a ⊢
    clear hgen
    generalize hgen : u0.heap.size = b_a at t_a  ⊢
    clear hgen
    try simp only [Act.put, List.setIfInBounds_toArray, List.set_cons_zero, List.set_cons_succ]
    refine wpAnyH_ready (rs := [9]) (by kernel_rfl) (by simp) ?_
    refine AllReadyH.cons (o := ⟨some 42, _, _, _, _, _⟩) rfl (fun K hK => ?_) AllReadyH.nil
    go_simp
    (with_reducible refine (one_c hRl (HX.out.on (HB2.out.trans (hB.mono HB2.out.size))) HXR.out HI.out).mono ?_)
    rintro e u5 ⟨rfl, hb⟩
    (try dsimp only)
    have hB2 := hB.trans (hb.mono hB.size)
    refine hK.out _ _ (HKP.out _ hB2) (fun hNext => ?_)
    clear hK K hHeld
    have hHeld := hNext
    clear hNext
    clear hB
    have hB := hB2
    clear hB2
    replace t_a := t_a.on hb
    clear hb
    try simp only [Act.put, List.setIfInBounds_toArray, List.set_cons_zero, List.set_cons_succ]
    refine wpAnyH_take (i := 10) (oi := ⟨some 32, _, _, _, _, _⟩) (v := ?vsc10_16) rfl (by kernel_rfl) (by kernel_rfl) (by kernel_rfl) (fun _ _ _ h => h) (Or.inl ⟨by rfl, ?ysc10_16⟩) hHeld ?rsc10_16
    case ysc10_16 => (intro w' hSw; (try dsimp only at hSw); go_simp; try (with_reducible rfl))
    simp only [Act.put, List.setIfInBounds_toArray, List.set_cons_zero, List.set_cons_succ]
    refine wpAnyH_take (i := 11) (oi := ⟨some 43, _, _, _, _, _⟩) (v := ?vsc11_17) rfl (by kernel_rfl) (by kernel_rfl) (by kernel_rfl) (fun _ _ _ h => h) (Or.inl ⟨by rfl, ?ysc11_17⟩) hHeld ?rsc11_17
    case ysc11_17 => (intro w' hSw; (try dsimp only at hSw); go_simp; try (with_reducible rfl))
    simp only [Act.put, List.setIfInBounds_toArray, List.set_cons_zero, List.set_cons_succ]
    refine wpAnyH_take (i := 12) (oi := ⟨some 44, _, _, _, _, _⟩) (v := ?vsc12_18) rfl (by kernel_rfl) (by kernel_rfl) (by kernel_rfl) (fun _ _ _ h => h) (Or.inl ⟨by rfl, ?ysc12_18⟩) hHeld ?rsc12_18
    case ysc12_18 => (intro w' hSw; (try dsimp only at hSw); go_simp; try (with_reducible rfl))
    simp only [Act.put, List.setIfInBounds_toArray, List.set_cons_zero, List.set_cons_succ]
    refine wpAnyH_take (i := 13) (oi := ⟨some 45, _, _, _, _, _⟩) (v := ?vsc13_19) rfl (by kernel_rfl) (by kernel_rfl) (by kernel_rfl) (fun _ _ _ h => h) (Or.inl ⟨by rfl, ?ysc13_19⟩) hHeld ?rsc13_19
    case ysc13_19 => (intro w' hSw; (try dsimp only at hSw); go_simp; try (with_reducible rfl))
    simp only [Act.put, List.setIfInBounds_toArray, List.set_cons_zero, List.set_cons_succ]
    refine wpAnyH_take (i := 15) (oi := ⟨some 5, _, _, _, _, _⟩) (v := ?vsc15_20) rfl (by kernel_rfl) (by kernel_rfl) (by kernel_rfl) (fun _ _ _ h => h) (Or.inl ⟨by rfl, ?ysc15_20⟩) hHeld ?rsc15_20
    case ysc15_20 => (intro w' hSw; (try dsimp only at hSw); go_simp; try (with_reducible rfl))
    simp only [Act.put, List.setIfInBounds_toArray, List.set_cons_zero, List.set_cons_succ]
    refine wpAnyH_ready (rs := [16]) (by kernel_rfl) (by simp) ?_
    refine AllReadyH.cons (o := ⟨none, _, _, _, _, _⟩) rfl (fun K hK => ?_) AllReadyH.nil
    rw [if_pos (by rfl)]
    refine wp_store_mid 25 _ _ rfl b_a 0 #[.int .u64 (uv gh), .int .u64 (uv gl)] rfl rfl t_a.there infoHeadS (by simp [Value.oneCell']) ?_
    (try dsimp only)
    have hB2 := (Below.setCells [.int .u64 (uv gh), .int .u64 (uv gl)] 0 _ hB t_a.2)
    refine hK.out _ _ (HKP.out _ hB2) (fun hNext => ?_)
    clear hK K hHeld
    have hHeld := hNext
    clear hNext
    clear hB
    have hB := hB2
    clear hB2
    replace t_a := t_a.put [.int .u64 (uv gh), .int .u64 (uv gl)] rfl
    generalize hgen : (World.setCells u5 b_a 0 [.int .u64 (uv gh), .int .u64 (uv gl)]) = u6 at hHeld hB t_a ⊢
    clear hgen
    try simp only [Act.put]
    refine wpAnyH_take (i := 17) (oi := ⟨some 7, _, _, _, _, _⟩) (v := ?vsc17_21) rfl (by kernel_rfl) (by kernel_rfl) (by kernel_rfl) (fun _ _ _ h => h) (Or.inl ⟨by rfl, ?ysc17_21⟩) hHeld ?rsc17_21
    case ysc17_21 => (intro w' hSw; (try dsimp only at hSw); go_simp; try (with_reducible rfl))
    simp only [Act.put, List.setIfInBounds_toArray, List.set_cons_zero, List.set_cons_succ]
    refine wpAnyH_done (by kernel_rfl) ?_ _
    go_wp2_with fail
    go_meet
    exact ⟨b_a, rfl, rfl, rfl, hB, t_a.1, t_a.2⟩
  case rest =>
    obtain ⟨ba, rfl, rfl, rfl, hB, hA3, hba3⟩ := hcut
    have HB3 := Lib.hid (HB2.out.trans (hB.mono HB2.out.size))
    have KW3 := Lib.hid (KW2.out.on hB)
    have KO3 := Lib.hid (own_on KO2.out hB)
    have KH3 := Lib.hid (KH2.out.on hB)
    have KA3 := Lib.hid hA3
    have hba : ba ≠ p := fun e => by have := KW2.out.lt; omega
    have hbab : ba ≠ b_h := fun e => by have := KH2.out.lt; omega
    clear hB hA3 HB2 KW2 KO2 KH2 hba3
    rcases HI.out with ⟨hf, rfl, rfl, rfl, rfl⟩ | ⟨i, r, hf, hr, rfl, rfl, rfl, rfl⟩
    · have HF := Lib.hid hf
      clear hf HI HX
      have HB4 := HB3
      have KW4 := KW3
      have KO4 := KO3
      have KH4 := KH3
      have KA4 := KA3
      clear HB3 KW3 KO3 KH3 KA3
      generalize wc = w4 at HB4 KW4 KO4 KH4 KA4 ⊢
      go_upto_region 6 with (fail)
      go_cut [] (fun wc => ∃ (hA2 : Option Addr) (hc2 : Nat), Below wb.heap.size wb wc ∧ Blk wc p 81 #[.slice tA T.length tc, .int .i64 ten, .slice pA pn pc, .slice wA wn wcp, .slice (some ⟨b, o, none⟩) BB.length bc, .int .i64 (n : Int), .int .i64 (t : Int), .int .u64 (uv hh), .int .u64 (uv hl), .int .i64 0, .int .i64 0, .int .i64 0, .slice hA2 (H.length + 1) hc2] ∧ wc.ownsRow wb.heap.size 64 5 (.slice hA2 (H.length + 1) hc2) (H.length + 1) (H.flatMap Hp.cs ++ [.int .i64 (n : Int), .int .i64 (t : Int), .int .i64 (-1), .int .u64 (uv hh), .int .u64 (uv hl)]) ∧ Blk wc ba 25 #[.int .u64 (uv (0#64)), .int .u64 (uv (0#64))])
      case first =>
        have HKP : Hid (∀ W, Below wb.heap.size wb W → Below wb.heap.size wb W) := fun W hb => hb
        refine wp_region_held_drew (S := fun w' => Below wb.heap.size wb w') (by kernel_rfl) (HKP.out _ HB4.out.drew) (fun hHeld => ?_)
        have hB := HB4.out.drew
        have kW : Blk w4.drew p 81 _ := KW4.out
        have kH : Blk w4.drew b_h 64 _ := KH4.out
        have kA : Blk w4.drew ba 25 _ := KA4.out
        have kO : w4.drew.ownsRow wb.heap.size 64 5 (.slice hA H.length hc) H.length (H.flatMap Hp.cs) := own_on KO4.out (Below.refl _ w4).drew
        clear KW4 KH4 KA4 KO4 HB4
        generalize w4.drew = u0 at hHeld hB kW kH kA kO ⊢
        refine wpAnyH_take (i := 0) (oi := ⟨some 49, _, _, _, _, _⟩) (v := ?vsm0_1) rfl (by kernel_rfl) (by kernel_rfl) (by kernel_rfl) (fun _ _ _ h => h) (Or.inl ⟨by rfl, ?ysm0_1⟩) hHeld ?rsm0_1
        case ysm0_1 => (intro w' hSw; (try dsimp only at hSw); go_simp; try (with_reducible rfl))
        simp only [Act.put, List.setIfInBounds_toArray, List.set_cons_zero, List.set_cons_succ]
        refine wpAnyH_take (i := 1) (oi := ⟨some 50, _, _, _, _, _⟩) (v := ?vsm1_2) rfl (by kernel_rfl) (by kernel_rfl) (by kernel_rfl) (fun _ _ _ h => h) (Or.inl ⟨by rfl, ?ysm1_2⟩) hHeld ?rsm1_2
        case ysm1_2 => (intro w' hSw; (try dsimp only at hSw); go_simp; try (with_reducible rfl))
        simp only [Act.put, List.setIfInBounds_toArray, List.set_cons_zero, List.set_cons_succ]
        refine wpAnyH_take (i := 2) (oi := ⟨some 51, _, _, _, _, _⟩) (v := ?vsm2_3) rfl (by kernel_rfl) (by kernel_rfl) (by kernel_rfl) (fun _ _ _ h => h) (Or.inl ⟨by rfl, ?ysm2_3⟩) hHeld ?rsm2_3
        case ysm2_3 => (intro w' hSw; (try dsimp only at hSw); go_simp; try (with_reducible rfl))
        simp only [Act.put, List.setIfInBounds_toArray, List.set_cons_zero, List.set_cons_succ]
        refine wpAnyH_take (i := 3) (oi := ⟨some 52, _, _, _, _, _⟩) (v := ?vsm3_4) rfl (by kernel_rfl) (by kernel_rfl) (by kernel_rfl) (fun _ _ _ h => h) (Or.inl ⟨by rfl, ?ysm3_4⟩) hHeld ?rsm3_4
        case ysm3_4 => (intro w' hSw; (try dsimp only at hSw); go_simp; try (with_reducible rfl))
        simp only [Act.put, List.setIfInBounds_toArray, List.set_cons_zero, List.set_cons_succ]
        refine wpAnyH_take (i := 4) (oi := ⟨some 53, _, _, _, _, _⟩) (v := ?vsm4_5) rfl (by kernel_rfl) (by kernel_rfl) (by kernel_rfl) (fun _ _ _ h => h) (Or.inl ⟨by rfl, ?ysm4_5⟩) hHeld ?rsm4_5
        case ysm4_5 => (intro w' hSw; (try dsimp only at hSw); go_simp; try (with_reducible rfl))
        simp only [Act.put, List.setIfInBounds_toArray, List.set_cons_zero, List.set_cons_succ]
        refine wpAnyH_ready (rs := [5, 6]) (by kernel_rfl) (by simp) ?_
        refine AllReadyH.cons (o := ⟨some 54, _, _, _, _, _⟩) rfl (fun K hK => ?_) ?_
        · have k12 := (kW.cell 12).trans rfl
          simp only [List.getElem?_toArray, List.getElem?_cons_succ, List.getElem?_cons_zero] at k12
          go_simp
          refine hK.out _ _ hHeld (fun hNext => ?_)
          clear hK K hHeld
          have hHeld := hNext
          clear hNext
          clear k12
          try simp only [Act.put, List.setIfInBounds_toArray, List.set_cons_zero, List.set_cons_succ]
          refine wpAnyH_ready (rs := [6]) (by kernel_rfl) (by simp) ?_
          refine AllReadyH.cons (o := ⟨some 55, _, _, _, _, _⟩) rfl (fun K hK => ?_) AllReadyH.nil
          have h0 := (kH.cell 0).trans rfl
          have h1 := (kH.cell 1).trans rfl
          have h2 := (kH.cell 2).trans rfl
          have h3 := (kH.cell 3).trans rfl
          have h4 := (kH.cell 4).trans rfl
          simp only [List.getElem?_toArray, List.getElem?_cons_succ, List.getElem?_cons_zero] at h0 h1 h2 h3 h4
          go_simp
          refine hK.out _ _ hHeld (fun hNext => ?_)
          clear hK K hHeld
          have hHeld := hNext
          clear hNext
          clear h0 h1 h2 h3 h4
          try simp only [Act.put, List.setIfInBounds_toArray, List.set_cons_zero, List.set_cons_succ]
          refine wpAnyH_ready (rs := [7]) (by kernel_rfl) (by simp) ?_
          refine AllReadyH.cons (o := ⟨some 56, _, _, _, _, _⟩) rfl (fun K hK => ?_) AllReadyH.nil
          go_simp
          have hb := below1 u0 (.cells #[.int .i64 (n : Int), .int .i64 (t : Int), .int .i64 (-1), .int .u64 (uv hh), .int .u64 (uv hl)] 64)
          have hB2 := hB.trans (hb.mono hB.size)
          refine hK.out _ _ (HKP.out _ hB2) (fun hNext => ?_)
          have kN : Blk (u0.alloc (.cells #[.int .i64 (n : Int), .int .i64 (t : Int), .int .i64 (-1), .int .u64 (uv hh), .int .u64 (uv hl)] 64)) u0.heap.size 64 #[.int .i64 (n : Int), .int .i64 (t : Int), .int .i64 (-1), .int .u64 (uv hh), .int .u64 (uv hl)] := Blk.new u0 _ _
          have hne : ∀ k, (Value.slice hA H.length hc).ownBlock = some k → k < u0.heap.size := fun k hk => (kO.lt k hk).2
          clear hK K hHeld
          have hHeld := hNext
          clear hNext
          clear hB
          have hB := hB2
          clear hB2
          replace kW := kW.on hb
          replace kH := kH.on hb
          replace kA := kA.on hb
          replace kO := own_on kO hb
          clear hb
          generalize hgen : (u0.alloc (.cells #[.int .i64 (n : Int), .int .i64 (t : Int), .int .i64 (-1), .int .u64 (uv hh), .int .u64 (uv hl)] 64)) = u1 at hHeld hB kW kH kA kO kN ⊢
          clear hgen
          generalize hgen : u0.heap.size = bN at kN hne ⊢
          clear hgen
          try simp only [Act.put, List.setIfInBounds_toArray, List.set_cons_zero, List.set_cons_succ]
          refine wpAnyH_ready (rs := [8]) (by kernel_rfl) (by simp) ?_
          refine AllReadyH.cons (o := ⟨some 57, _, _, _, _, _⟩) rfl (fun K hK => ?_) AllReadyH.nil
          have SR : Src u1 5 (.slice (some ⟨bN, 0, none⟩) 1 1) 1 [.int .i64 (n : Int), .int .i64 (t : Int), .int .i64 (-1), .int .u64 (uv hh), .int .u64 (uv hl)] := src_blk (x := ⟨n, t, (-1), hh, hl⟩) kN
          refine step_app _ rfl (.tmp 54) (.tmp 56) 52 rfl wb.heap.size 64 ih _ 5 40 Try.underlying52 hih hz0 hz1 hz2 rfl (by decide) (.slice hA H.length hc) H.length (H.flatMap Hp.cs) rfl kO _ 1 [.int .i64 (n : Int), .int .i64 (t : Int), .int .i64 (-1), .int .u64 (uv hh), .int .u64 (uv hl)] rfl SR (by unfold maxLen; omega) (by omega) hB.size ?_
          intro hv2 u2 kO2 hgr
          have hB2 := hB.grown hgr hB.size (fun j hj => (kO.lt j hj).1)
          refine hK.out _ _ (HKP.out _ hB2) (fun hNext => ?_)
          clear hK K hHeld
          have hHeld := hNext
          clear hNext
          replace kW := kW.grown hgr (own_apart kO kW (by decide))
          replace kA := kA.grown hgr (own_apart kO kA (by decide))
          clear hB SR kO hgr kN hne kH
          have hB := hB2
          clear hB2
          obtain ⟨hA2, hc2, rfl, -⟩ := own_sl kO2
          try simp only [Act.put, List.setIfInBounds_toArray, List.set_cons_zero, List.set_cons_succ]
          refine wpAnyH_take (i := 9) (oi := ⟨some 58, _, _, _, _, _⟩) (v := ?vsm9_6) rfl (by kernel_rfl) (by kernel_rfl) (by kernel_rfl) (fun _ _ _ h => h) (Or.inl ⟨by rfl, ?ysm9_6⟩) hHeld ?rsm9_6
          case ysm9_6 => (intro w' hSw; (try dsimp only at hSw); go_simp; try (with_reducible rfl))
          simp only [Act.put, List.setIfInBounds_toArray, List.set_cons_zero, List.set_cons_succ]
          refine wpAnyH_take (i := 10) (oi := ⟨some 59, _, _, _, _, _⟩) (v := ?vsm10_7) rfl (by kernel_rfl) (by kernel_rfl) (by kernel_rfl) (fun _ _ _ h => h) (Or.inl ⟨by rfl, ?ysm10_7⟩) hHeld ?rsm10_7
          case ysm10_7 => (intro w' hSw; (try dsimp only at hSw); go_simp; try (with_reducible rfl))
          simp only [Act.put, List.setIfInBounds_toArray, List.set_cons_zero, List.set_cons_succ]
          refine wpAnyH_take (i := 11) (oi := ⟨some 60, _, _, _, _, _⟩) (v := ?vsm11_8) rfl (by kernel_rfl) (by kernel_rfl) (by kernel_rfl) (fun _ _ _ h => h) (Or.inl ⟨by rfl, ?ysm11_8⟩) hHeld ?rsm11_8
          case ysm11_8 => (intro w' hSw; (try dsimp only at hSw); go_simp; try (with_reducible rfl))
          simp only [Act.put, List.setIfInBounds_toArray, List.set_cons_zero, List.set_cons_succ]
          refine wpAnyH_ready (rs := [12]) (by kernel_rfl) (by simp) ?_
          refine AllReadyH.cons (o := ⟨none, _, _, _, _, _⟩) rfl (fun K hK => ?_) AllReadyH.nil
          have k12 := (kW.cell 12).trans rfl
          have g12 := kW.free 12
          simp only [List.getElem?_toArray, List.getElem?_cons_succ, List.getElem?_cons_zero] at k12
          go_simp
          clear k12 g12
          have hB2 := hB.setCell (p := ⟨p, 12, none⟩) hp (.slice hA2 (H.length + 1) hc2)
          refine hK.out _ _ (HKP.out _ hB2) (fun hNext => ?_)
          clear hK K hHeld
          have hHeld := hNext
          clear hNext
          clear hB
          have hB := hB2
          clear hB2
          replace kA := kA.far (p := ⟨p, 12, none⟩) hba (.slice hA2 (H.length + 1) hc2)
          replace kO2 := ownsRow_setCell_other (a := ⟨p, 12, none⟩) kO2 (fun e => own_apart kO2 kW (by decide) e.symm) (.slice hA2 (H.length + 1) hc2)
          replace kW := kW.set 12 (.slice hA2 (H.length + 1) hc2)
          simp only [List.setIfInBounds_toArray, List.set_cons_succ, List.set_cons_zero] at kW
          generalize hgen : u2.setCell ⟨p, 12, none⟩ (.slice hA2 (H.length + 1) hc2) = u3 at hHeld hB kW kA kO2 ⊢
          clear hgen
          try simp only [Act.put]
          refine wpAnyH_done (by kernel_rfl) ?_ _
          go_wp2_with fail
          go_meet
          exact ⟨hA2, hc2, hB, kW, kO2, kA⟩
        refine AllReadyH.cons (o := ⟨some 55, _, _, _, _, _⟩) rfl (fun K hK => ?_) AllReadyH.nil
        have h0 := (kH.cell 0).trans rfl
        have h1 := (kH.cell 1).trans rfl
        have h2 := (kH.cell 2).trans rfl
        have h3 := (kH.cell 3).trans rfl
        have h4 := (kH.cell 4).trans rfl
        simp only [List.getElem?_toArray, List.getElem?_cons_succ, List.getElem?_cons_zero] at h0 h1 h2 h3 h4
        go_simp
        refine hK.out _ _ hHeld (fun hNext => ?_)
        clear hK K hHeld
        have hHeld := hNext
        clear hNext
        clear h0 h1 h2 h3 h4
        try simp only [Act.put, List.setIfInBounds_toArray, List.set_cons_zero, List.set_cons_succ]
        refine wpAnyH_ready (rs := [5, 7]) (by kernel_rfl) (by simp) ?_
        refine AllReadyH.cons (o := ⟨some 54, _, _, _, _, _⟩) rfl (fun K hK => ?_) ?_
        · have k12 := (kW.cell 12).trans rfl
          simp only [List.getElem?_toArray, List.getElem?_cons_succ, List.getElem?_cons_zero] at k12
          go_simp
          refine hK.out _ _ hHeld (fun hNext => ?_)
          clear hK K hHeld
          have hHeld := hNext
          clear hNext
          clear k12
          try simp only [Act.put, List.setIfInBounds_toArray, List.set_cons_zero, List.set_cons_succ]
          refine wpAnyH_ready (rs := [7]) (by kernel_rfl) (by simp) ?_
          refine AllReadyH.cons (o := ⟨some 56, _, _, _, _, _⟩) rfl (fun K hK => ?_) AllReadyH.nil
          go_simp
          have hb := below1 u0 (.cells #[.int .i64 (n : Int), .int .i64 (t : Int), .int .i64 (-1), .int .u64 (uv hh), .int .u64 (uv hl)] 64)
          have hB2 := hB.trans (hb.mono hB.size)
          refine hK.out _ _ (HKP.out _ hB2) (fun hNext => ?_)
          have kN : Blk (u0.alloc (.cells #[.int .i64 (n : Int), .int .i64 (t : Int), .int .i64 (-1), .int .u64 (uv hh), .int .u64 (uv hl)] 64)) u0.heap.size 64 #[.int .i64 (n : Int), .int .i64 (t : Int), .int .i64 (-1), .int .u64 (uv hh), .int .u64 (uv hl)] := Blk.new u0 _ _
          have hne : ∀ k, (Value.slice hA H.length hc).ownBlock = some k → k < u0.heap.size := fun k hk => (kO.lt k hk).2
          clear hK K hHeld
          have hHeld := hNext
          clear hNext
          clear hB
          have hB := hB2
          clear hB2
          replace kW := kW.on hb
          replace kH := kH.on hb
          replace kA := kA.on hb
          replace kO := own_on kO hb
          clear hb
          generalize hgen : (u0.alloc (.cells #[.int .i64 (n : Int), .int .i64 (t : Int), .int .i64 (-1), .int .u64 (uv hh), .int .u64 (uv hl)] 64)) = u4 at hHeld hB kW kH kA kO kN ⊢
          clear hgen
          generalize hgen : u0.heap.size = bN at kN hne ⊢
          clear hgen
          try simp only [Act.put, List.setIfInBounds_toArray, List.set_cons_zero, List.set_cons_succ]
          refine wpAnyH_ready (rs := [8]) (by kernel_rfl) (by simp) ?_
          refine AllReadyH.cons (o := ⟨some 57, _, _, _, _, _⟩) rfl (fun K hK => ?_) AllReadyH.nil
          have SR : Src u4 5 (.slice (some ⟨bN, 0, none⟩) 1 1) 1 [.int .i64 (n : Int), .int .i64 (t : Int), .int .i64 (-1), .int .u64 (uv hh), .int .u64 (uv hl)] := src_blk (x := ⟨n, t, (-1), hh, hl⟩) kN
          refine step_app _ rfl (.tmp 54) (.tmp 56) 52 rfl wb.heap.size 64 ih _ 5 40 Try.underlying52 hih hz0 hz1 hz2 rfl (by decide) (.slice hA H.length hc) H.length (H.flatMap Hp.cs) rfl kO _ 1 [.int .i64 (n : Int), .int .i64 (t : Int), .int .i64 (-1), .int .u64 (uv hh), .int .u64 (uv hl)] rfl SR (by unfold maxLen; omega) (by omega) hB.size ?_
          intro hv2 u5 kO2 hgr
          have hB2 := hB.grown hgr hB.size (fun j hj => (kO.lt j hj).1)
          refine hK.out _ _ (HKP.out _ hB2) (fun hNext => ?_)
          clear hK K hHeld
          have hHeld := hNext
          clear hNext
          replace kW := kW.grown hgr (own_apart kO kW (by decide))
          replace kA := kA.grown hgr (own_apart kO kA (by decide))
          clear hB SR kO hgr kN hne kH
          have hB := hB2
          clear hB2
          obtain ⟨hA2, hc2, rfl, -⟩ := own_sl kO2
          try simp only [Act.put, List.setIfInBounds_toArray, List.set_cons_zero, List.set_cons_succ]
          refine wpAnyH_take (i := 9) (oi := ⟨some 58, _, _, _, _, _⟩) (v := ?vsm9_9) rfl (by kernel_rfl) (by kernel_rfl) (by kernel_rfl) (fun _ _ _ h => h) (Or.inl ⟨by rfl, ?ysm9_9⟩) hHeld ?rsm9_9
          case ysm9_9 => (intro w' hSw; (try dsimp only at hSw); go_simp; try (with_reducible rfl))
          simp only [Act.put, List.setIfInBounds_toArray, List.set_cons_zero, List.set_cons_succ]
          refine wpAnyH_take (i := 10) (oi := ⟨some 59, _, _, _, _, _⟩) (v := ?vsm10_10) rfl (by kernel_rfl) (by kernel_rfl) (by kernel_rfl) (fun _ _ _ h => h) (Or.inl ⟨by rfl, ?ysm10_10⟩) hHeld ?rsm10_10
          case ysm10_10 => (intro w' hSw; (try dsimp only at hSw); go_simp; try (with_reducible rfl))
          simp only [Act.put, List.setIfInBounds_toArray, List.set_cons_zero, List.set_cons_succ]
          refine wpAnyH_take (i := 11) (oi := ⟨some 60, _, _, _, _, _⟩) (v := ?vsm11_11) rfl (by kernel_rfl) (by kernel_rfl) (by kernel_rfl) (fun _ _ _ h => h) (Or.inl ⟨by rfl, ?ysm11_11⟩) hHeld ?rsm11_11
          case ysm11_11 => (intro w' hSw; (try dsimp only at hSw); go_simp; try (with_reducible rfl))
          simp only [Act.put, List.setIfInBounds_toArray, List.set_cons_zero, List.set_cons_succ]
          refine wpAnyH_ready (rs := [12]) (by kernel_rfl) (by simp) ?_
          refine AllReadyH.cons (o := ⟨none, _, _, _, _, _⟩) rfl (fun K hK => ?_) AllReadyH.nil
          have k12 := (kW.cell 12).trans rfl
          have g12 := kW.free 12
          simp only [List.getElem?_toArray, List.getElem?_cons_succ, List.getElem?_cons_zero] at k12
          go_simp
          clear k12 g12
          have hB2 := hB.setCell (p := ⟨p, 12, none⟩) hp (.slice hA2 (H.length + 1) hc2)
          refine hK.out _ _ (HKP.out _ hB2) (fun hNext => ?_)
          clear hK K hHeld
          have hHeld := hNext
          clear hNext
          clear hB
          have hB := hB2
          clear hB2
          replace kA := kA.far (p := ⟨p, 12, none⟩) hba (.slice hA2 (H.length + 1) hc2)
          replace kO2 := ownsRow_setCell_other (a := ⟨p, 12, none⟩) kO2 (fun e => own_apart kO2 kW (by decide) e.symm) (.slice hA2 (H.length + 1) hc2)
          replace kW := kW.set 12 (.slice hA2 (H.length + 1) hc2)
          simp only [List.setIfInBounds_toArray, List.set_cons_succ, List.set_cons_zero] at kW
          generalize hgen : u5.setCell ⟨p, 12, none⟩ (.slice hA2 (H.length + 1) hc2) = u6 at hHeld hB kW kA kO2 ⊢
          clear hgen
          try simp only [Act.put]
          refine wpAnyH_done (by kernel_rfl) ?_ _
          go_wp2_with fail
          go_meet
          exact ⟨hA2, hc2, hB, kW, kO2, kA⟩
        refine AllReadyH.cons (o := ⟨some 56, _, _, _, _, _⟩) rfl (fun K hK => ?_) AllReadyH.nil
        go_simp
        have hb := below1 u0 (.cells #[.int .i64 (n : Int), .int .i64 (t : Int), .int .i64 (-1), .int .u64 (uv hh), .int .u64 (uv hl)] 64)
        have hB2 := hB.trans (hb.mono hB.size)
        refine hK.out _ _ (HKP.out _ hB2) (fun hNext => ?_)
        have kN : Blk (u0.alloc (.cells #[.int .i64 (n : Int), .int .i64 (t : Int), .int .i64 (-1), .int .u64 (uv hh), .int .u64 (uv hl)] 64)) u0.heap.size 64 #[.int .i64 (n : Int), .int .i64 (t : Int), .int .i64 (-1), .int .u64 (uv hh), .int .u64 (uv hl)] := Blk.new u0 _ _
        have hne : ∀ k, (Value.slice hA H.length hc).ownBlock = some k → k < u0.heap.size := fun k hk => (kO.lt k hk).2
        clear hK K hHeld
        have hHeld := hNext
        clear hNext
        clear hB
        have hB := hB2
        clear hB2
        replace kW := kW.on hb
        replace kH := kH.on hb
        replace kA := kA.on hb
        replace kO := own_on kO hb
        clear hb
        generalize hgen : (u0.alloc (.cells #[.int .i64 (n : Int), .int .i64 (t : Int), .int .i64 (-1), .int .u64 (uv hh), .int .u64 (uv hl)] 64)) = u7 at hHeld hB kW kH kA kO kN ⊢
        clear hgen
        generalize hgen : u0.heap.size = bN at kN hne ⊢
        clear hgen
        try simp only [Act.put, List.setIfInBounds_toArray, List.set_cons_zero, List.set_cons_succ]
        refine wpAnyH_ready (rs := [5]) (by kernel_rfl) (by simp) ?_
        refine AllReadyH.cons (o := ⟨some 54, _, _, _, _, _⟩) rfl (fun K hK => ?_) AllReadyH.nil
        have k12 := (kW.cell 12).trans rfl
        simp only [List.getElem?_toArray, List.getElem?_cons_succ, List.getElem?_cons_zero] at k12
        go_simp
        refine hK.out _ _ hHeld (fun hNext => ?_)
        clear hK K hHeld
        have hHeld := hNext
        clear hNext
        clear k12
        try simp only [Act.put, List.setIfInBounds_toArray, List.set_cons_zero, List.set_cons_succ]
        refine wpAnyH_ready (rs := [8]) (by kernel_rfl) (by simp) ?_
        refine AllReadyH.cons (o := ⟨some 57, _, _, _, _, _⟩) rfl (fun K hK => ?_) AllReadyH.nil
        have SR : Src u7 5 (.slice (some ⟨bN, 0, none⟩) 1 1) 1 [.int .i64 (n : Int), .int .i64 (t : Int), .int .i64 (-1), .int .u64 (uv hh), .int .u64 (uv hl)] := src_blk (x := ⟨n, t, (-1), hh, hl⟩) kN
        refine step_app _ rfl (.tmp 54) (.tmp 56) 52 rfl wb.heap.size 64 ih _ 5 40 Try.underlying52 hih hz0 hz1 hz2 rfl (by decide) (.slice hA H.length hc) H.length (H.flatMap Hp.cs) rfl kO _ 1 [.int .i64 (n : Int), .int .i64 (t : Int), .int .i64 (-1), .int .u64 (uv hh), .int .u64 (uv hl)] rfl SR (by unfold maxLen; omega) (by omega) hB.size ?_
        intro hv2 u8 kO2 hgr
        have hB2 := hB.grown hgr hB.size (fun j hj => (kO.lt j hj).1)
        refine hK.out _ _ (HKP.out _ hB2) (fun hNext => ?_)
        clear hK K hHeld
        have hHeld := hNext
        clear hNext
        replace kW := kW.grown hgr (own_apart kO kW (by decide))
        replace kA := kA.grown hgr (own_apart kO kA (by decide))
        clear hB SR kO hgr kN hne kH
        have hB := hB2
        clear hB2
        obtain ⟨hA2, hc2, rfl, -⟩ := own_sl kO2
        try simp only [Act.put, List.setIfInBounds_toArray, List.set_cons_zero, List.set_cons_succ]
        refine wpAnyH_take (i := 9) (oi := ⟨some 58, _, _, _, _, _⟩) (v := ?vsm9_12) rfl (by kernel_rfl) (by kernel_rfl) (by kernel_rfl) (fun _ _ _ h => h) (Or.inl ⟨by rfl, ?ysm9_12⟩) hHeld ?rsm9_12
        case ysm9_12 => (intro w' hSw; (try dsimp only at hSw); go_simp; try (with_reducible rfl))
        simp only [Act.put, List.setIfInBounds_toArray, List.set_cons_zero, List.set_cons_succ]
        refine wpAnyH_take (i := 10) (oi := ⟨some 59, _, _, _, _, _⟩) (v := ?vsm10_13) rfl (by kernel_rfl) (by kernel_rfl) (by kernel_rfl) (fun _ _ _ h => h) (Or.inl ⟨by rfl, ?ysm10_13⟩) hHeld ?rsm10_13
        case ysm10_13 => (intro w' hSw; (try dsimp only at hSw); go_simp; try (with_reducible rfl))
        simp only [Act.put, List.setIfInBounds_toArray, List.set_cons_zero, List.set_cons_succ]
        refine wpAnyH_take (i := 11) (oi := ⟨some 60, _, _, _, _, _⟩) (v := ?vsm11_14) rfl (by kernel_rfl) (by kernel_rfl) (by kernel_rfl) (fun _ _ _ h => h) (Or.inl ⟨by rfl, ?ysm11_14⟩) hHeld ?rsm11_14
        case ysm11_14 => (intro w' hSw; (try dsimp only at hSw); go_simp; try (with_reducible rfl))
        simp only [Act.put, List.setIfInBounds_toArray, List.set_cons_zero, List.set_cons_succ]
        refine wpAnyH_ready (rs := [12]) (by kernel_rfl) (by simp) ?_
        refine AllReadyH.cons (o := ⟨none, _, _, _, _, _⟩) rfl (fun K hK => ?_) AllReadyH.nil
        have k12 := (kW.cell 12).trans rfl
        have g12 := kW.free 12
        simp only [List.getElem?_toArray, List.getElem?_cons_succ, List.getElem?_cons_zero] at k12
        go_simp
        clear k12 g12
        have hB2 := hB.setCell (p := ⟨p, 12, none⟩) hp (.slice hA2 (H.length + 1) hc2)
        refine hK.out _ _ (HKP.out _ hB2) (fun hNext => ?_)
        clear hK K hHeld
        have hHeld := hNext
        clear hNext
        clear hB
        have hB := hB2
        clear hB2
        replace kA := kA.far (p := ⟨p, 12, none⟩) hba (.slice hA2 (H.length + 1) hc2)
        replace kO2 := ownsRow_setCell_other (a := ⟨p, 12, none⟩) kO2 (fun e => own_apart kO2 kW (by decide) e.symm) (.slice hA2 (H.length + 1) hc2)
        replace kW := kW.set 12 (.slice hA2 (H.length + 1) hc2)
        simp only [List.setIfInBounds_toArray, List.set_cons_succ, List.set_cons_zero] at kW
        generalize hgen : u8.setCell ⟨p, 12, none⟩ (.slice hA2 (H.length + 1) hc2) = u9 at hHeld hB kW kA kO2 ⊢
        clear hgen
        try simp only [Act.put]
        refine wpAnyH_done (by kernel_rfl) ?_ _
        go_wp2_with fail
        go_meet
        exact ⟨hA2, hc2, hB, kW, kO2, kA⟩
      case rest =>
        obtain ⟨hA2, hc2, hB6, kW6, kO6, kA6⟩ := hcut
        clear KW4 KH4 KA4 KO4 HB4
        have HB6 := Lib.hid hB6
        have HO6 := Lib.hid kO6
        have KA6 := Lib.hid kA6
        clear hB6 kO6 kA6
        have k9 := (kW6.cell 9).trans rfl
        have g9 := kW6.free 9
        simp only [List.getElem?_toArray, List.getElem?_cons_succ, List.getElem?_cons_zero] at k9
        have hW9 := kW6.set 9 (.int .i64 3)
        simp only [List.setIfInBounds_toArray, List.set_cons_succ, List.set_cons_zero] at hW9
        have HW9 := Lib.hid hW9
        have HO9 := Lib.hid (ownsRow_setCell_other (a := ⟨p, 9, none⟩) HO6.out (fun e => own_apart HO6.out kW6 (by decide) e.symm) (.int .i64 3))
        have HB9 := Lib.hid (HB6.out.setCell (p := ⟨p, 9, none⟩) hp (.int .i64 3))
        clear hW9 kW6 HO6 HB6
        go_wp2
        go_ret
        exact ⟨HB9.out, .inl ⟨n, t, hh, hl, 3, 0, 0, H ++ [⟨n, t, -1, hh, hl⟩], rfl, wlk_snoc (x := ⟨n, t, -1, hh, hl⟩) HW9.out HO9.out, fun k => runF_miss HST.out HF.out⟩⟩
    · have HF := Lib.hid hf
      have HRI := Lib.hid hr
      have hil : i < R.length := (List.getElem?_eq_some_iff.1 hr).1
      have hilz : (i : Int) < (R.length : Int) := by omega
      obtain ⟨br, orr, rfl, -, hat⟩ := HRF.out (by rintro rfl; simp at hil)
      have HAT := Lib.hid (hat i r hr)
      have hlead := (rule_leads HCFG.out HST.out hr).2.2
      have HLD := Lib.hid hlead
      clear hf HI HX hr hat hlead
      have q2 := (KH3.out.cell 2).trans rfl
      have e2 := KH3.out.free 2
      simp only [List.getElem?_toArray, List.getElem?_cons_succ, List.getElem?_cons_zero] at q2
      go_upto_region 6 with (fail)
      have kH4 := KH3.out.set 2 (.int .i64 (i : Int))
      simp only [List.setIfInBounds_toArray, List.set_cons_succ, List.set_cons_zero] at kH4
      have KH4 := Lib.hid kH4
      have HB4 := Lib.hid (HB3.out.setCell (p := ⟨b_h, 2, none⟩) hhs (.int .i64 (i : Int)))
      have KW4 := Lib.hid (KW3.out.far (p := ⟨b_h, 2, none⟩) (fun e => hbp e.symm) (.int .i64 (i : Int)))
      have KA4 := Lib.hid (KA3.out.far (p := ⟨b_h, 2, none⟩) hbab (.int .i64 (i : Int)))
      have KO4 := Lib.hid (ownsRow_setCell_other (a := ⟨b_h, 2, none⟩) KO3.out (fun e => HHB.out b_h e rfl) (.int .i64 (i : Int)))
      clear q2 e2 kH4 HB3 KW3 KO3 KH3 KA3
      generalize wc.setCell ⟨b_h, 2, none⟩ (.int .i64 (i : Int)) = w4 at HB4 KW4 KO4 KH4 KA4 ⊢
      go_upto_region 6 with (fail)
      go_cut [] (fun wc => ∃ (hA2 : Option Addr) (hc2 : Nat), Below wb.heap.size wb wc ∧ Blk wc p 81 #[.slice tA T.length tc, .int .i64 ten, .slice pA pn pc, .slice wA wn wcp, .slice (some ⟨b, o, none⟩) BB.length bc, .int .i64 (n : Int), .int .i64 (t : Int), .int .u64 (uv hh), .int .u64 (uv hl), .int .i64 0, .int .i64 0, .int .i64 0, .slice hA2 (H.length + 1) hc2] ∧ wc.ownsRow wb.heap.size 64 5 (.slice hA2 (H.length + 1) hc2) (H.length + 1) (H.flatMap Hp.cs ++ [.int .i64 (n : Int), .int .i64 (t : Int), .int .i64 (i : Int), .int .u64 (uv hh), .int .u64 (uv hl)]) ∧ Blk wc ba 25 #[.int .u64 (uv (stH r hh)), .int .u64 (uv (stL r hl))])
      case first =>
        have HKP : Hid (∀ W, Below wb.heap.size wb W → Below wb.heap.size wb W) := fun W hb => hb
        refine wp_region_held_drew (S := fun w' => Below wb.heap.size wb w') (by kernel_rfl) (HKP.out _ HB4.out.drew) (fun hHeld => ?_)
        have hB := HB4.out.drew
        have kW : Blk w4.drew p 81 _ := KW4.out
        have kH : Blk w4.drew b_h 64 _ := KH4.out
        have kA : Blk w4.drew ba 25 _ := KA4.out
        have kO : w4.drew.ownsRow wb.heap.size 64 5 (.slice hA H.length hc) H.length (H.flatMap Hp.cs) := own_on KO4.out (Below.refl _ w4).drew
        clear KW4 KH4 KA4 KO4 HB4
        generalize w4.drew = u0 at hHeld hB kW kH kA kO ⊢
        refine wpAnyH_take (i := 0) (oi := ⟨some 49, _, _, _, _, _⟩) (v := ?vsh0_1) rfl (by kernel_rfl) (by kernel_rfl) (by kernel_rfl) (fun _ _ _ h => h) (Or.inl ⟨by rfl, ?ysh0_1⟩) hHeld ?rsh0_1
        case ysh0_1 => (intro w' hSw; (try dsimp only at hSw); go_simp; try (with_reducible rfl))
        simp only [Act.put, List.setIfInBounds_toArray, List.set_cons_zero, List.set_cons_succ]
        refine wpAnyH_take (i := 1) (oi := ⟨some 50, _, _, _, _, _⟩) (v := ?vsh1_2) rfl (by kernel_rfl) (by kernel_rfl) (by kernel_rfl) (fun _ _ _ h => h) (Or.inl ⟨by rfl, ?ysh1_2⟩) hHeld ?rsh1_2
        case ysh1_2 => (intro w' hSw; (try dsimp only at hSw); go_simp; try (with_reducible rfl))
        simp only [Act.put, List.setIfInBounds_toArray, List.set_cons_zero, List.set_cons_succ]
        refine wpAnyH_take (i := 2) (oi := ⟨some 51, _, _, _, _, _⟩) (v := ?vsh2_3) rfl (by kernel_rfl) (by kernel_rfl) (by kernel_rfl) (fun _ _ _ h => h) (Or.inl ⟨by rfl, ?ysh2_3⟩) hHeld ?rsh2_3
        case ysh2_3 => (intro w' hSw; (try dsimp only at hSw); go_simp; try (with_reducible rfl))
        simp only [Act.put, List.setIfInBounds_toArray, List.set_cons_zero, List.set_cons_succ]
        refine wpAnyH_take (i := 3) (oi := ⟨some 52, _, _, _, _, _⟩) (v := ?vsh3_4) rfl (by kernel_rfl) (by kernel_rfl) (by kernel_rfl) (fun _ _ _ h => h) (Or.inl ⟨by rfl, ?ysh3_4⟩) hHeld ?rsh3_4
        case ysh3_4 => (intro w' hSw; (try dsimp only at hSw); go_simp; try (with_reducible rfl))
        simp only [Act.put, List.setIfInBounds_toArray, List.set_cons_zero, List.set_cons_succ]
        refine wpAnyH_take (i := 4) (oi := ⟨some 53, _, _, _, _, _⟩) (v := ?vsh4_5) rfl (by kernel_rfl) (by kernel_rfl) (by kernel_rfl) (fun _ _ _ h => h) (Or.inl ⟨by rfl, ?ysh4_5⟩) hHeld ?rsh4_5
        case ysh4_5 => (intro w' hSw; (try dsimp only at hSw); go_simp; try (with_reducible rfl))
        simp only [Act.put, List.setIfInBounds_toArray, List.set_cons_zero, List.set_cons_succ]
        refine wpAnyH_ready (rs := [5, 6]) (by kernel_rfl) (by simp) ?_
        refine AllReadyH.cons (o := ⟨some 54, _, _, _, _, _⟩) rfl (fun K hK => ?_) ?_
        · have k12 := (kW.cell 12).trans rfl
          simp only [List.getElem?_toArray, List.getElem?_cons_succ, List.getElem?_cons_zero] at k12
          go_simp
          refine hK.out _ _ hHeld (fun hNext => ?_)
          clear hK K hHeld
          have hHeld := hNext
          clear hNext
          clear k12
          try simp only [Act.put, List.setIfInBounds_toArray, List.set_cons_zero, List.set_cons_succ]
          refine wpAnyH_ready (rs := [6]) (by kernel_rfl) (by simp) ?_
          refine AllReadyH.cons (o := ⟨some 55, _, _, _, _, _⟩) rfl (fun K hK => ?_) AllReadyH.nil
          have h0 := (kH.cell 0).trans rfl
          have h1 := (kH.cell 1).trans rfl
          have h2 := (kH.cell 2).trans rfl
          have h3 := (kH.cell 3).trans rfl
          have h4 := (kH.cell 4).trans rfl
          simp only [List.getElem?_toArray, List.getElem?_cons_succ, List.getElem?_cons_zero] at h0 h1 h2 h3 h4
          go_simp
          refine hK.out _ _ hHeld (fun hNext => ?_)
          clear hK K hHeld
          have hHeld := hNext
          clear hNext
          clear h0 h1 h2 h3 h4
          try simp only [Act.put, List.setIfInBounds_toArray, List.set_cons_zero, List.set_cons_succ]
          refine wpAnyH_ready (rs := [7]) (by kernel_rfl) (by simp) ?_
          refine AllReadyH.cons (o := ⟨some 56, _, _, _, _, _⟩) rfl (fun K hK => ?_) AllReadyH.nil
          go_simp
          have hb := below1 u0 (.cells #[.int .i64 (n : Int), .int .i64 (t : Int), .int .i64 (i : Int), .int .u64 (uv hh), .int .u64 (uv hl)] 64)
          have hB2 := hB.trans (hb.mono hB.size)
          refine hK.out _ _ (HKP.out _ hB2) (fun hNext => ?_)
          have kN : Blk (u0.alloc (.cells #[.int .i64 (n : Int), .int .i64 (t : Int), .int .i64 (i : Int), .int .u64 (uv hh), .int .u64 (uv hl)] 64)) u0.heap.size 64 #[.int .i64 (n : Int), .int .i64 (t : Int), .int .i64 (i : Int), .int .u64 (uv hh), .int .u64 (uv hl)] := Blk.new u0 _ _
          have hne : ∀ k, (Value.slice hA H.length hc).ownBlock = some k → k < u0.heap.size := fun k hk => (kO.lt k hk).2
          clear hK K hHeld
          have hHeld := hNext
          clear hNext
          clear hB
          have hB := hB2
          clear hB2
          replace kW := kW.on hb
          replace kH := kH.on hb
          replace kA := kA.on hb
          replace kO := own_on kO hb
          clear hb
          generalize hgen : (u0.alloc (.cells #[.int .i64 (n : Int), .int .i64 (t : Int), .int .i64 (i : Int), .int .u64 (uv hh), .int .u64 (uv hl)] 64)) = u1 at hHeld hB kW kH kA kO kN ⊢
          clear hgen
          generalize hgen : u0.heap.size = bN at kN hne ⊢
          clear hgen
          try simp only [Act.put, List.setIfInBounds_toArray, List.set_cons_zero, List.set_cons_succ]
          refine wpAnyH_ready (rs := [8]) (by kernel_rfl) (by simp) ?_
          refine AllReadyH.cons (o := ⟨some 57, _, _, _, _, _⟩) rfl (fun K hK => ?_) AllReadyH.nil
          have SR : Src u1 5 (.slice (some ⟨bN, 0, none⟩) 1 1) 1 [.int .i64 (n : Int), .int .i64 (t : Int), .int .i64 (i : Int), .int .u64 (uv hh), .int .u64 (uv hl)] := src_blk (x := ⟨n, t, (i : Int), hh, hl⟩) kN
          refine step_app _ rfl (.tmp 54) (.tmp 56) 52 rfl wb.heap.size 64 ih _ 5 40 Try.underlying52 hih hz0 hz1 hz2 rfl (by decide) (.slice hA H.length hc) H.length (H.flatMap Hp.cs) rfl kO _ 1 [.int .i64 (n : Int), .int .i64 (t : Int), .int .i64 (i : Int), .int .u64 (uv hh), .int .u64 (uv hl)] rfl SR (by unfold maxLen; omega) (by omega) hB.size ?_
          intro hv2 u2 kO2 hgr
          have hB2 := hB.grown hgr hB.size (fun j hj => (kO.lt j hj).1)
          refine hK.out _ _ (HKP.out _ hB2) (fun hNext => ?_)
          clear hK K hHeld
          have hHeld := hNext
          clear hNext
          replace kW := kW.grown hgr (own_apart kO kW (by decide))
          replace kA := kA.grown hgr (own_apart kO kA (by decide))
          clear hB SR kO hgr kN hne kH
          have hB := hB2
          clear hB2
          obtain ⟨hA2, hc2, rfl, -⟩ := own_sl kO2
          try simp only [Act.put, List.setIfInBounds_toArray, List.set_cons_zero, List.set_cons_succ]
          refine wpAnyH_take (i := 9) (oi := ⟨some 58, _, _, _, _, _⟩) (v := ?vsh9_6) rfl (by kernel_rfl) (by kernel_rfl) (by kernel_rfl) (fun _ _ _ h => h) (Or.inl ⟨by rfl, ?ysh9_6⟩) hHeld ?rsh9_6
          case ysh9_6 => (intro w' hSw; (try dsimp only at hSw); go_simp; try (with_reducible rfl))
          simp only [Act.put, List.setIfInBounds_toArray, List.set_cons_zero, List.set_cons_succ]
          refine wpAnyH_take (i := 10) (oi := ⟨some 59, _, _, _, _, _⟩) (v := ?vsh10_7) rfl (by kernel_rfl) (by kernel_rfl) (by kernel_rfl) (fun _ _ _ h => h) (Or.inl ⟨by rfl, ?ysh10_7⟩) hHeld ?rsh10_7
          case ysh10_7 => (intro w' hSw; (try dsimp only at hSw); go_simp; try (with_reducible rfl))
          simp only [Act.put, List.setIfInBounds_toArray, List.set_cons_zero, List.set_cons_succ]
          refine wpAnyH_take (i := 11) (oi := ⟨some 60, _, _, _, _, _⟩) (v := ?vsh11_8) rfl (by kernel_rfl) (by kernel_rfl) (by kernel_rfl) (fun _ _ _ h => h) (Or.inl ⟨by rfl, ?ysh11_8⟩) hHeld ?rsh11_8
          case ysh11_8 => (intro w' hSw; (try dsimp only at hSw); go_simp; try (with_reducible rfl))
          simp only [Act.put, List.setIfInBounds_toArray, List.set_cons_zero, List.set_cons_succ]
          refine wpAnyH_ready (rs := [12]) (by kernel_rfl) (by simp) ?_
          refine AllReadyH.cons (o := ⟨none, _, _, _, _, _⟩) rfl (fun K hK => ?_) AllReadyH.nil
          have k12 := (kW.cell 12).trans rfl
          have g12 := kW.free 12
          simp only [List.getElem?_toArray, List.getElem?_cons_succ, List.getElem?_cons_zero] at k12
          go_simp
          clear k12 g12
          have hB2 := hB.setCell (p := ⟨p, 12, none⟩) hp (.slice hA2 (H.length + 1) hc2)
          refine hK.out _ _ (HKP.out _ hB2) (fun hNext => ?_)
          clear hK K hHeld
          have hHeld := hNext
          clear hNext
          clear hB
          have hB := hB2
          clear hB2
          replace kA := kA.far (p := ⟨p, 12, none⟩) hba (.slice hA2 (H.length + 1) hc2)
          replace kO2 := ownsRow_setCell_other (a := ⟨p, 12, none⟩) kO2 (fun e => own_apart kO2 kW (by decide) e.symm) (.slice hA2 (H.length + 1) hc2)
          replace kW := kW.set 12 (.slice hA2 (H.length + 1) hc2)
          simp only [List.setIfInBounds_toArray, List.set_cons_succ, List.set_cons_zero] at kW
          generalize hgen : u2.setCell ⟨p, 12, none⟩ (.slice hA2 (H.length + 1) hc2) = u3 at hHeld hB kW kA kO2 ⊢
          clear hgen
          try simp only [Act.put]
          refine wpAnyH_done (by kernel_rfl) ?_ _
          go_wp2_with fail
          go_meet
          exact ⟨hA2, hc2, hB, kW, kO2, kA⟩
        refine AllReadyH.cons (o := ⟨some 55, _, _, _, _, _⟩) rfl (fun K hK => ?_) AllReadyH.nil
        have h0 := (kH.cell 0).trans rfl
        have h1 := (kH.cell 1).trans rfl
        have h2 := (kH.cell 2).trans rfl
        have h3 := (kH.cell 3).trans rfl
        have h4 := (kH.cell 4).trans rfl
        simp only [List.getElem?_toArray, List.getElem?_cons_succ, List.getElem?_cons_zero] at h0 h1 h2 h3 h4
        go_simp
        refine hK.out _ _ hHeld (fun hNext => ?_)
        clear hK K hHeld
        have hHeld := hNext
        clear hNext
        clear h0 h1 h2 h3 h4
        try simp only [Act.put, List.setIfInBounds_toArray, List.set_cons_zero, List.set_cons_succ]
        refine wpAnyH_ready (rs := [5, 7]) (by kernel_rfl) (by simp) ?_
        refine AllReadyH.cons (o := ⟨some 54, _, _, _, _, _⟩) rfl (fun K hK => ?_) ?_
        · have k12 := (kW.cell 12).trans rfl
          simp only [List.getElem?_toArray, List.getElem?_cons_succ, List.getElem?_cons_zero] at k12
          go_simp
          refine hK.out _ _ hHeld (fun hNext => ?_)
          clear hK K hHeld
          have hHeld := hNext
          clear hNext
          clear k12
          try simp only [Act.put, List.setIfInBounds_toArray, List.set_cons_zero, List.set_cons_succ]
          refine wpAnyH_ready (rs := [7]) (by kernel_rfl) (by simp) ?_
          refine AllReadyH.cons (o := ⟨some 56, _, _, _, _, _⟩) rfl (fun K hK => ?_) AllReadyH.nil
          go_simp
          have hb := below1 u0 (.cells #[.int .i64 (n : Int), .int .i64 (t : Int), .int .i64 (i : Int), .int .u64 (uv hh), .int .u64 (uv hl)] 64)
          have hB2 := hB.trans (hb.mono hB.size)
          refine hK.out _ _ (HKP.out _ hB2) (fun hNext => ?_)
          have kN : Blk (u0.alloc (.cells #[.int .i64 (n : Int), .int .i64 (t : Int), .int .i64 (i : Int), .int .u64 (uv hh), .int .u64 (uv hl)] 64)) u0.heap.size 64 #[.int .i64 (n : Int), .int .i64 (t : Int), .int .i64 (i : Int), .int .u64 (uv hh), .int .u64 (uv hl)] := Blk.new u0 _ _
          have hne : ∀ k, (Value.slice hA H.length hc).ownBlock = some k → k < u0.heap.size := fun k hk => (kO.lt k hk).2
          clear hK K hHeld
          have hHeld := hNext
          clear hNext
          clear hB
          have hB := hB2
          clear hB2
          replace kW := kW.on hb
          replace kH := kH.on hb
          replace kA := kA.on hb
          replace kO := own_on kO hb
          clear hb
          generalize hgen : (u0.alloc (.cells #[.int .i64 (n : Int), .int .i64 (t : Int), .int .i64 (i : Int), .int .u64 (uv hh), .int .u64 (uv hl)] 64)) = u4 at hHeld hB kW kH kA kO kN ⊢
          clear hgen
          generalize hgen : u0.heap.size = bN at kN hne ⊢
          clear hgen
          try simp only [Act.put, List.setIfInBounds_toArray, List.set_cons_zero, List.set_cons_succ]
          refine wpAnyH_ready (rs := [8]) (by kernel_rfl) (by simp) ?_
          refine AllReadyH.cons (o := ⟨some 57, _, _, _, _, _⟩) rfl (fun K hK => ?_) AllReadyH.nil
          have SR : Src u4 5 (.slice (some ⟨bN, 0, none⟩) 1 1) 1 [.int .i64 (n : Int), .int .i64 (t : Int), .int .i64 (i : Int), .int .u64 (uv hh), .int .u64 (uv hl)] := src_blk (x := ⟨n, t, (i : Int), hh, hl⟩) kN
          refine step_app _ rfl (.tmp 54) (.tmp 56) 52 rfl wb.heap.size 64 ih _ 5 40 Try.underlying52 hih hz0 hz1 hz2 rfl (by decide) (.slice hA H.length hc) H.length (H.flatMap Hp.cs) rfl kO _ 1 [.int .i64 (n : Int), .int .i64 (t : Int), .int .i64 (i : Int), .int .u64 (uv hh), .int .u64 (uv hl)] rfl SR (by unfold maxLen; omega) (by omega) hB.size ?_
          intro hv2 u5 kO2 hgr
          have hB2 := hB.grown hgr hB.size (fun j hj => (kO.lt j hj).1)
          refine hK.out _ _ (HKP.out _ hB2) (fun hNext => ?_)
          clear hK K hHeld
          have hHeld := hNext
          clear hNext
          replace kW := kW.grown hgr (own_apart kO kW (by decide))
          replace kA := kA.grown hgr (own_apart kO kA (by decide))
          clear hB SR kO hgr kN hne kH
          have hB := hB2
          clear hB2
          obtain ⟨hA2, hc2, rfl, -⟩ := own_sl kO2
          try simp only [Act.put, List.setIfInBounds_toArray, List.set_cons_zero, List.set_cons_succ]
          refine wpAnyH_take (i := 9) (oi := ⟨some 58, _, _, _, _, _⟩) (v := ?vsh9_9) rfl (by kernel_rfl) (by kernel_rfl) (by kernel_rfl) (fun _ _ _ h => h) (Or.inl ⟨by rfl, ?ysh9_9⟩) hHeld ?rsh9_9
          case ysh9_9 => (intro w' hSw; (try dsimp only at hSw); go_simp; try (with_reducible rfl))
          simp only [Act.put, List.setIfInBounds_toArray, List.set_cons_zero, List.set_cons_succ]
          refine wpAnyH_take (i := 10) (oi := ⟨some 59, _, _, _, _, _⟩) (v := ?vsh10_10) rfl (by kernel_rfl) (by kernel_rfl) (by kernel_rfl) (fun _ _ _ h => h) (Or.inl ⟨by rfl, ?ysh10_10⟩) hHeld ?rsh10_10
          case ysh10_10 => (intro w' hSw; (try dsimp only at hSw); go_simp; try (with_reducible rfl))
          simp only [Act.put, List.setIfInBounds_toArray, List.set_cons_zero, List.set_cons_succ]
          refine wpAnyH_take (i := 11) (oi := ⟨some 60, _, _, _, _, _⟩) (v := ?vsh11_11) rfl (by kernel_rfl) (by kernel_rfl) (by kernel_rfl) (fun _ _ _ h => h) (Or.inl ⟨by rfl, ?ysh11_11⟩) hHeld ?rsh11_11
          case ysh11_11 => (intro w' hSw; (try dsimp only at hSw); go_simp; try (with_reducible rfl))
          simp only [Act.put, List.setIfInBounds_toArray, List.set_cons_zero, List.set_cons_succ]
          refine wpAnyH_ready (rs := [12]) (by kernel_rfl) (by simp) ?_
          refine AllReadyH.cons (o := ⟨none, _, _, _, _, _⟩) rfl (fun K hK => ?_) AllReadyH.nil
          have k12 := (kW.cell 12).trans rfl
          have g12 := kW.free 12
          simp only [List.getElem?_toArray, List.getElem?_cons_succ, List.getElem?_cons_zero] at k12
          go_simp
          clear k12 g12
          have hB2 := hB.setCell (p := ⟨p, 12, none⟩) hp (.slice hA2 (H.length + 1) hc2)
          refine hK.out _ _ (HKP.out _ hB2) (fun hNext => ?_)
          clear hK K hHeld
          have hHeld := hNext
          clear hNext
          clear hB
          have hB := hB2
          clear hB2
          replace kA := kA.far (p := ⟨p, 12, none⟩) hba (.slice hA2 (H.length + 1) hc2)
          replace kO2 := ownsRow_setCell_other (a := ⟨p, 12, none⟩) kO2 (fun e => own_apart kO2 kW (by decide) e.symm) (.slice hA2 (H.length + 1) hc2)
          replace kW := kW.set 12 (.slice hA2 (H.length + 1) hc2)
          simp only [List.setIfInBounds_toArray, List.set_cons_succ, List.set_cons_zero] at kW
          generalize hgen : u5.setCell ⟨p, 12, none⟩ (.slice hA2 (H.length + 1) hc2) = u6 at hHeld hB kW kA kO2 ⊢
          clear hgen
          try simp only [Act.put]
          refine wpAnyH_done (by kernel_rfl) ?_ _
          go_wp2_with fail
          go_meet
          exact ⟨hA2, hc2, hB, kW, kO2, kA⟩
        refine AllReadyH.cons (o := ⟨some 56, _, _, _, _, _⟩) rfl (fun K hK => ?_) AllReadyH.nil
        go_simp
        have hb := below1 u0 (.cells #[.int .i64 (n : Int), .int .i64 (t : Int), .int .i64 (i : Int), .int .u64 (uv hh), .int .u64 (uv hl)] 64)
        have hB2 := hB.trans (hb.mono hB.size)
        refine hK.out _ _ (HKP.out _ hB2) (fun hNext => ?_)
        have kN : Blk (u0.alloc (.cells #[.int .i64 (n : Int), .int .i64 (t : Int), .int .i64 (i : Int), .int .u64 (uv hh), .int .u64 (uv hl)] 64)) u0.heap.size 64 #[.int .i64 (n : Int), .int .i64 (t : Int), .int .i64 (i : Int), .int .u64 (uv hh), .int .u64 (uv hl)] := Blk.new u0 _ _
        have hne : ∀ k, (Value.slice hA H.length hc).ownBlock = some k → k < u0.heap.size := fun k hk => (kO.lt k hk).2
        clear hK K hHeld
        have hHeld := hNext
        clear hNext
        clear hB
        have hB := hB2
        clear hB2
        replace kW := kW.on hb
        replace kH := kH.on hb
        replace kA := kA.on hb
        replace kO := own_on kO hb
        clear hb
        generalize hgen : (u0.alloc (.cells #[.int .i64 (n : Int), .int .i64 (t : Int), .int .i64 (i : Int), .int .u64 (uv hh), .int .u64 (uv hl)] 64)) = u7 at hHeld hB kW kH kA kO kN ⊢
        clear hgen
        generalize hgen : u0.heap.size = bN at kN hne ⊢
        clear hgen
        try simp only [Act.put, List.setIfInBounds_toArray, List.set_cons_zero, List.set_cons_succ]
        refine wpAnyH_ready (rs := [5]) (by kernel_rfl) (by simp) ?_
        refine AllReadyH.cons (o := ⟨some 54, _, _, _, _, _⟩) rfl (fun K hK => ?_) AllReadyH.nil
        have k12 := (kW.cell 12).trans rfl
        simp only [List.getElem?_toArray, List.getElem?_cons_succ, List.getElem?_cons_zero] at k12
        go_simp
        refine hK.out _ _ hHeld (fun hNext => ?_)
        clear hK K hHeld
        have hHeld := hNext
        clear hNext
        clear k12
        try simp only [Act.put, List.setIfInBounds_toArray, List.set_cons_zero, List.set_cons_succ]
        refine wpAnyH_ready (rs := [8]) (by kernel_rfl) (by simp) ?_
        refine AllReadyH.cons (o := ⟨some 57, _, _, _, _, _⟩) rfl (fun K hK => ?_) AllReadyH.nil
        have SR : Src u7 5 (.slice (some ⟨bN, 0, none⟩) 1 1) 1 [.int .i64 (n : Int), .int .i64 (t : Int), .int .i64 (i : Int), .int .u64 (uv hh), .int .u64 (uv hl)] := src_blk (x := ⟨n, t, (i : Int), hh, hl⟩) kN
        refine step_app _ rfl (.tmp 54) (.tmp 56) 52 rfl wb.heap.size 64 ih _ 5 40 Try.underlying52 hih hz0 hz1 hz2 rfl (by decide) (.slice hA H.length hc) H.length (H.flatMap Hp.cs) rfl kO _ 1 [.int .i64 (n : Int), .int .i64 (t : Int), .int .i64 (i : Int), .int .u64 (uv hh), .int .u64 (uv hl)] rfl SR (by unfold maxLen; omega) (by omega) hB.size ?_
        intro hv2 u8 kO2 hgr
        have hB2 := hB.grown hgr hB.size (fun j hj => (kO.lt j hj).1)
        refine hK.out _ _ (HKP.out _ hB2) (fun hNext => ?_)
        clear hK K hHeld
        have hHeld := hNext
        clear hNext
        replace kW := kW.grown hgr (own_apart kO kW (by decide))
        replace kA := kA.grown hgr (own_apart kO kA (by decide))
        clear hB SR kO hgr kN hne kH
        have hB := hB2
        clear hB2
        obtain ⟨hA2, hc2, rfl, -⟩ := own_sl kO2
        try simp only [Act.put, List.setIfInBounds_toArray, List.set_cons_zero, List.set_cons_succ]
        refine wpAnyH_take (i := 9) (oi := ⟨some 58, _, _, _, _, _⟩) (v := ?vsh9_12) rfl (by kernel_rfl) (by kernel_rfl) (by kernel_rfl) (fun _ _ _ h => h) (Or.inl ⟨by rfl, ?ysh9_12⟩) hHeld ?rsh9_12
        case ysh9_12 => (intro w' hSw; (try dsimp only at hSw); go_simp; try (with_reducible rfl))
        simp only [Act.put, List.setIfInBounds_toArray, List.set_cons_zero, List.set_cons_succ]
        refine wpAnyH_take (i := 10) (oi := ⟨some 59, _, _, _, _, _⟩) (v := ?vsh10_13) rfl (by kernel_rfl) (by kernel_rfl) (by kernel_rfl) (fun _ _ _ h => h) (Or.inl ⟨by rfl, ?ysh10_13⟩) hHeld ?rsh10_13
        case ysh10_13 => (intro w' hSw; (try dsimp only at hSw); go_simp; try (with_reducible rfl))
        simp only [Act.put, List.setIfInBounds_toArray, List.set_cons_zero, List.set_cons_succ]
        refine wpAnyH_take (i := 11) (oi := ⟨some 60, _, _, _, _, _⟩) (v := ?vsh11_14) rfl (by kernel_rfl) (by kernel_rfl) (by kernel_rfl) (fun _ _ _ h => h) (Or.inl ⟨by rfl, ?ysh11_14⟩) hHeld ?rsh11_14
        case ysh11_14 => (intro w' hSw; (try dsimp only at hSw); go_simp; try (with_reducible rfl))
        simp only [Act.put, List.setIfInBounds_toArray, List.set_cons_zero, List.set_cons_succ]
        refine wpAnyH_ready (rs := [12]) (by kernel_rfl) (by simp) ?_
        refine AllReadyH.cons (o := ⟨none, _, _, _, _, _⟩) rfl (fun K hK => ?_) AllReadyH.nil
        have k12 := (kW.cell 12).trans rfl
        have g12 := kW.free 12
        simp only [List.getElem?_toArray, List.getElem?_cons_succ, List.getElem?_cons_zero] at k12
        go_simp
        clear k12 g12
        have hB2 := hB.setCell (p := ⟨p, 12, none⟩) hp (.slice hA2 (H.length + 1) hc2)
        refine hK.out _ _ (HKP.out _ hB2) (fun hNext => ?_)
        clear hK K hHeld
        have hHeld := hNext
        clear hNext
        clear hB
        have hB := hB2
        clear hB2
        replace kA := kA.far (p := ⟨p, 12, none⟩) hba (.slice hA2 (H.length + 1) hc2)
        replace kO2 := ownsRow_setCell_other (a := ⟨p, 12, none⟩) kO2 (fun e => own_apart kO2 kW (by decide) e.symm) (.slice hA2 (H.length + 1) hc2)
        replace kW := kW.set 12 (.slice hA2 (H.length + 1) hc2)
        simp only [List.setIfInBounds_toArray, List.set_cons_succ, List.set_cons_zero] at kW
        generalize hgen : u8.setCell ⟨p, 12, none⟩ (.slice hA2 (H.length + 1) hc2) = u9 at hHeld hB kW kA kO2 ⊢
        clear hgen
        try simp only [Act.put]
        refine wpAnyH_done (by kernel_rfl) ?_ _
        go_wp2_with fail
        go_meet
        exact ⟨hA2, hc2, hB, kW, kO2, kA⟩
      case rest =>
        obtain ⟨hA2, hc2, hB6, kW6, kO6, kA6⟩ := hcut
        clear KW4 KH4 KA4 KO4 HB4
        have HB6 := Lib.hid hB6
        have HO6 := Lib.hid kO6
        have KA6 := Lib.hid kA6
        clear hB6 kO6 kA6
        have k7 := (kW6.cell 7).trans rfl
        have k8 := (kW6.cell 8).trans rfl
        have g7 := kW6.free 7
        have g8 := kW6.free 8
        obtain ⟨a0, a1⟩ := KA6.out.both
        simp only [List.getElem?_toArray, List.getElem?_cons_succ, List.getElem?_cons_zero] at k7 k8
        have hW7 := (kW6.set 7 (.int .u64 (uv (stH r hh)))).set 8 (.int .u64 (uv (stL r hl)))
        simp only [List.setIfInBounds_toArray, List.set_cons_succ, List.set_cons_zero] at hW7
        have KW7 := Lib.hid hW7
        have KO7 := Lib.hid (ownsRow_setCell_other (a := ⟨p, 8, none⟩) (ownsRow_setCell_other (a := ⟨p, 7, none⟩) HO6.out (fun e => own_apart HO6.out kW6 (by decide) e.symm) (.int .u64 (uv (stH r hh)))) (fun e => own_apart HO6.out kW6 (by decide) e.symm) (.int .u64 (uv (stL r hl))))
        have HB7 := Lib.hid ((HB6.out.setCell (p := ⟨p, 7, none⟩) hp (.int .u64 (uv (stH r hh)))).setCell (p := ⟨p, 8, none⟩) hp (.int .u64 (uv (stL r hl))))
        clear hW7 kW6 HO6 HB6 KA6
        go_upto_region 11 with (fail)
        clear k7 k8 g7 g8 a0 a1
        generalize (wc.setCell ⟨p, 7, none⟩ (.int .u64 (uv (stH r hh)))).setCell ⟨p, 8, none⟩ (.int .u64 (uv (stL r hl))) = w7 at KW7 KO7 HB7 ⊢
        have k6 := (KW7.out.cell 6).trans rfl
        simp only [List.getElem?_toArray, List.getElem?_cons_succ, List.getElem?_cons_zero] at k6
        have hsr := on_some HB7.out HSR.out
        obtain ⟨-, -, -, -, -, c5, c6, c7, c8, c9, c10, c11⟩ := (HAT.out.on HB7.out).out
        rcases HLD.out with hk | hk | ⟨hk, jj, m, q, L', R', hpt, hq, hq2, hqm, hs'⟩ | ⟨hk, u, R', hu, hs'⟩
        · rw [hk] at c5
          go_wp2_with fail
          (with_reducible refine (follow_drop HB7.out hp KW7.out).mono ?_)
          rintro e w8 ⟨rfl, kW8, hC8⟩
          have hN := KO7.out
          have hO8 := hC8.own hN (fun g hg e => own_apart hN KW7.out (by decide) (e ▸ hg).symm)
          have HB8 := Lib.hid (HB7.out.trans (hC8.below HB7.out.size (fun k hk2 e => by omega)))
          have HW8 := Lib.hid kW8
          have HO8 := Lib.hid hO8
          clear kW8 hC8 hN hO8 k6 hsr c5 c6 c7 c8 c9 c10 c11
          go_wp2
          go_ret
          exact ⟨HB8.out, .inl ⟨n, t, stH r hh, stL r hl, 1, 0, 0, H ++ [⟨n, t, i, hh, hl⟩], rfl, wlk_snoc (x := ⟨n, t, i, hh, hl⟩) HW8.out HO8.out, fun k => by rw [runF_hit HST.out HF.out HRI.out, if_pos hk]⟩⟩
        · rw [hk] at c5
          go_wp2_with fail
          (with_reducible refine (follow_deliver HB7.out hp KW7.out).mono ?_)
          rintro e w8 ⟨rfl, kW8, hC8⟩
          have hN := KO7.out
          have hO8 := hC8.own hN (fun g hg e => own_apart hN KW7.out (by decide) (e ▸ hg).symm)
          have HB8 := Lib.hid (HB7.out.trans (hC8.below HB7.out.size (fun k hk2 e => by omega)))
          have HW8 := Lib.hid kW8
          have HO8 := Lib.hid hO8
          clear kW8 hC8 hN hO8 k6 hsr c5 c6 c7 c8 c9 c10 c11
          go_wp2
          go_ret
          exact ⟨HB8.out, .inl ⟨n, t, stH r hh, stL r hl, 2, n, r.port, H ++ [⟨n, t, i, hh, hl⟩], rfl, wlk_snoc (x := ⟨n, t, i, hh, hl⟩) HW8.out HO8.out, fun k => by rw [runF_hit HST.out HF.out HRI.out, if_neg (by omega), if_pos hk]⟩⟩
        · rw [hk] at c5
          go_wp2_with fail
          (with_reducible refine (follow_forward (BB := BB) HB7.out hp KW7.out HT.out (cfg_parts HCFG.out).1 (sta_left HST.out) hq hq2 hqm rfl).mono ?_)
          rintro e w8 ⟨rfl, kW8, hC8⟩
          have hN := KO7.out
          have hO8 := hC8.own hN (fun g hg e => own_apart hN KW7.out (by decide) (e ▸ hg).symm)
          have HB8 := Lib.hid (HB7.out.trans (hC8.below HB7.out.size (fun k hk2 e => by omega)))
          have HW8 := Lib.hid kW8
          have HO8 := Lib.hid hO8
          clear kW8 hC8 hN hO8 k6 hsr c5 c6 c7 c8 c9 c10 c11
          go_wp2
          go_ret
          exact ⟨HB8.out, .inr ⟨m, 0, stH r hh, stL r hl, L', R', ⟨n, t, i, hh, hl⟩, rfl, hs', wlk_snoc (x := ⟨n, t, i, hh, hl⟩) HW8.out HO8.out, fun k => by rw [runF_hit HST.out HF.out HRI.out, if_neg (by omega), if_neg (by omega), if_neg (by omega), hpt, peer_at (sta_left HST.out) hq hqm]⟩⟩
        · rw [hk] at c5
          go_wp2_with fail
          (with_reducible refine (follow_goto HB7.out hp KW7.out).mono ?_)
          rintro e w8 ⟨rfl, kW8, hC8⟩
          have hN := KO7.out
          have hO8 := hC8.own hN (fun g hg e => own_apart hN KW7.out (by decide) (e ▸ hg).symm)
          have HB8 := Lib.hid (HB7.out.trans (hC8.below HB7.out.size (fun k hk2 e => by omega)))
          have HW8 := Lib.hid kW8
          have HO8 := Lib.hid hO8
          clear kW8 hC8 hN hO8 k6 hsr c5 c6 c7 c8 c9 c10 c11
          go_wp2
          go_ret
          exact ⟨HB8.out, .inr ⟨n, u, stH r hh, stL r hl, L, R', ⟨n, t, i, hh, hl⟩, rfl, hs', wlk_snoc (x := ⟨n, t, i, hh, hl⟩) HW8.out HO8.out, fun k => by rw [runF_hit HST.out HF.out HRI.out, if_neg (by omega), if_neg (by omega), if_pos hk, hu, Int.toNat_natCast]⟩⟩
end Go.Proofs

namespace Go.Proofs.Hd
open Go.RowKit
/-- A slice reads as hops. -/
def Hs (w : World) (A : Option Addr) (_cap : Nat) (H : List Hp) : Prop := H ≠ [] → ∃ b o, A = some ⟨b, o, none⟩ ∧ b < w.heap.size ∧ ∀ (i : Nat) (x : Hp), H[i]? = some x → ∀ (j : Nat) (u : Value), x.cs[j]? = some u → w.cell? ⟨b, o + i * 5 + j, none⟩ = some u
theorem Hs.on {w w' : World} {A : Option Addr} {cap : Nat} {H : List Hp} (h : Hs w A cap H) (hb : Below w.heap.size w w') : Hs w' A cap H := fun hne => by
  obtain ⟨b, o, e, hl, hc⟩ := h hne
  exact ⟨b, o, e, Nat.lt_of_lt_of_le hl hb.size, fun i x hx j u hj => on_some hb (hc i x hx j u hj)⟩
theorem Hs.nil (w : World) (A : Option Addr) (cap : Nat) : Hs w A cap [] := fun h => absurd rfl h
theorem Hs.of_own {w : World} {base : Nat} {A : Option Addr} {cap : Nat} {H : List Hp} (h : w.ownsRow base 64 5 (.slice A H.length cap) H.length (H.flatMap Hp.cs)) : Hs w A cap H := fun hne => by
  obtain ⟨A', cap', e, hc⟩ := own_rde h (fun _ => rfl)
  injection e with e1 e2 e3
  subst e1 e3
  exact hc hne
theorem Hs.at {w : World} {A : Option Addr} {cap i : Nat} {H : List Hp} {x : Hp} (h : Hs w A cap H) (hx : H[i]? = some x) : ∃ b o, A = some ⟨b, o, none⟩ ∧ b < w.heap.size ∧ w.cell? ⟨b, o + i * 5, none⟩ = some (.int .i64 x.sw) ∧ w.cell? ⟨b, o + i * 5 + 1, none⟩ = some (.int .i64 x.tb) ∧ w.cell? ⟨b, o + i * 5 + 2, none⟩ = some (.int .i64 x.rl) ∧ w.cell? ⟨b, o + i * 5 + 3, none⟩ = some (.int .u64 (uv x.hh)) ∧ w.cell? ⟨b, o + i * 5 + 4, none⟩ = some (.int .u64 (uv x.hl)) := by
  obtain ⟨b, o, e, hl, hc⟩ := h (by rintro rfl; simp at hx)
  exact ⟨b, o, e, hl, hc i x hx 0 _ rfl, hc i x hx 1 _ rfl, hc i x hx 2 _ rfl, hc i x hx 3 _ rfl, hc i x hx 4 _ rfl⟩
end Go.Proofs.Hd
namespace Go.Proofs
open Go.RowKit Go.Proofs.Hd Go.Lib
attribute [local go_sem] uv_nonneg
set_option maxRecDepth 100000 in
theorem run_eqHp (w : World) (a b c d e : Int) : (Op.equalIn 10000 64 (.agg #[.int .i64 a, .int .i64 b, .int .i64 c, .int .u64 d, .int .u64 e]) (.agg #[.int .i64 a, .int .i64 b, .int .i64 c, .int .u64 d, .int .u64 e])).run Try.prog w = .ok true w := by
  go_simp
set_option maxRecDepth 100000 in
theorem run_eqSp1 (w : World) (a b : Int) : (Op.equalIn 10000 51 (.agg #[.int .i64 a, .int .i64 b]) (.agg #[.int .i64 a, .int .i64 b])).run Try.prog w = .ok true w := by
  go_simp
attribute [local go_sem high] run_eqHp run_eqSp1
set_option maxRecDepth 100000 in
set_option maxHeartbeats 4000000 in
theorem rsame_c {fin sw sp : Int} {A A' : Option Addr} {c c' : Nat} {H : List Hp} {w : World} (hH : H.length ≤ 1000000) (h1 : Hs w A c H) (h2 : Hs w A' c' H) : Calls Try.prog 15 #[.agg #[.int .i64 fin, .int .i64 sw, .int .i64 sp, .slice A H.length c], .agg #[.int .i64 fin, .int .i64 sw, .int .i64 sp, .slice A' H.length c']] w fun e w' => e = .returned (.bool true) ∧ Below w.heap.size w w' := by
  have hHz : (H.length : Int) ≤ 1000000 := by omega
  have B0 := Lib.hid (below2 w (.cells #[.int .i64 fin, .int .i64 sw, .int .i64 sp, .slice A H.length c] 54) (.cells #[.int .i64 fin, .int .i64 sw, .int .i64 sp, .slice A' H.length c'] 54))
  have X0 : Hid (Blk ((w.alloc (.cells #[.int .i64 fin, .int .i64 sw, .int .i64 sp, .slice A H.length c] 54)).alloc (.cells #[.int .i64 fin, .int .i64 sw, .int .i64 sp, .slice A' H.length c'] 54)) w.heap.size 54 #[.int .i64 fin, .int .i64 sw, .int .i64 sp, .slice A H.length c]) := (Blk.new w _ _).on (below1 _ _)
  have Y0 : Hid (Blk ((w.alloc (.cells #[.int .i64 fin, .int .i64 sw, .int .i64 sp, .slice A H.length c] 54)).alloc (.cells #[.int .i64 fin, .int .i64 sw, .int .i64 sp, .slice A' H.length c'] 54)) (w.heap.size + 1) 54 #[.int .i64 fin, .int .i64 sw, .int .i64 sp, .slice A' H.length c']) := Blk.new2 w _ _ _
  have H1 := Lib.hid h1
  have H2 := Lib.hid h2
  clear h1 h2
  go_enter Try.func15, Try.ntmps15
  go_upto_region 1 with (fail)
  generalize ((w.alloc (.cells #[.int .i64 fin, .int .i64 sw, .int .i64 sp, .slice A H.length c] 54)).alloc (.cells #[.int .i64 fin, .int .i64 sw, .int .i64 sp, .slice A' H.length c'] 54)) = w1 at B0 X0 Y0 ⊢
  obtain ⟨x0, x1, x2, x3⟩ := quad X0.out
  obtain ⟨y0, y1, y2, y3⟩ := quad Y0.out
  go_wp2
  go_loopg [5] H.length (fun gk s5 wr => ∃ k : Nat, k ≤ H.length ∧ gk = H.length - k ∧ s5 = .int .i64 k ∧ Hid (Below w1.heap.size w1 wr))
  case atStart => exact ⟨0, Nat.zero_le _, rfl, rfl, Below.refl _ _⟩
  case round =>
    clear x0 x1 x2 x3 y0 y1 y2 y3
    obtain ⟨k, hk, rfl, rfl, HB⟩ := hrel
    obtain ⟨x0, x1, x2, x3⟩ := quad (X0.out.on HB.out)
    obtain ⟨y0, y1, y2, y3⟩ := quad (Y0.out.on HB.out)
    by_cases hlt : k < H.length
    · have hltz : (k : Int) < (H.length : Int) := by omega
      obtain ⟨x, hx⟩ : ∃ x, H[k]? = some x := ⟨_, List.getElem?_eq_getElem hlt⟩
      have hw := B0.out.trans (HB.out.mono B0.out.size)
      obtain ⟨b, o, rfl, -, c0, c1, c2, c3, c4⟩ := Hs.at (H1.out.on hw) hx
      obtain ⟨b', o', rfl, -, d0, d1, d2, d3, d4⟩ := Hs.at (H2.out.on hw) hx
      clear hw hx H1 H2
      go_upto_region 6 with (fail)
      go_quiet (fail)
      have HB2 := Lib.hid (bldrewN HB.out nq)
      clear HB x0 x1 x2 x3 y0 y1 y2 y3 c0 c1 c2 c3 c4 d0 d1 d2 d3 d4
      generalize wr.drewN nq = w2 at HB2 ⊢
      go_wp2
      go_roundg (H.length - (k + 1))
      case measure => omega
      case rel => exact ⟨k + 1, by omega, rfl, by go_num, HB2⟩
    · have hltz : ¬ (k : Int) < (H.length : Int) := by omega
      have HE := Lib.hid (B0.out.trans (HB.out.mono B0.out.size))
      clear HB B0
      go_wp2
      go_ret
      exact ⟨rfl, HE.out⟩
set_option maxRecDepth 100000 in
theorem passed1_c (x : Hp) (n : Int) (b : Nat) (w : World) (hb : w.cell? ⟨b, 0, none⟩ = some (.int .i64 n)) : Calls Try.prog 33 #[.agg #[.int .i64 x.sw, .int .i64 x.tb, .int .i64 x.rl, .int .u64 (uv x.hh), .int .u64 (uv x.hl)], .pointer (some ⟨b, 0, none⟩)] w fun e w' => e = .returned (.bool (x.sw == n)) ∧ Below w.heap.size w w' := by
  have B0 := below1 w (.cells #[.int .i64 x.sw, .int .i64 x.tb, .int .i64 x.rl, .int .u64 (uv x.hh), .int .u64 (uv x.hl)] 64)
  have hb1 := on_some B0 hb
  go_enter Try.func33, Try.ntmps33
  go_wp2
  go_ret
  exact ⟨rfl, B0⟩
/-- Has a hop of switch n been? -/
def psd (H : List Hp) (n : Int) : Bool := H.any fun x => x.sw == n
set_option maxRecDepth 100000 in
set_option maxHeartbeats 4000000 in
theorem idx_hops (n : Int) (b : Nat) {A : Option Addr} {c : Nat} {H : List Hp} {w : World} (hH : H.length ≤ 4611686018427387904) (h1 : Hs w A c H) (hb : w.cell? ⟨b, 0, none⟩ = some (.int .i64 n)) : Calls Try.prog 48 #[.slice A H.length c, .func (.func 33) #[] #[.pointer (some ⟨b, 0, none⟩)]] w fun e w' => (∃ r : Int, e = .returned (.int .i64 r) ∧ (0 ≤ r ↔ psd H n = true)) ∧ Below w.heap.size w w' := by
  have eg : ∀ args w, (callFunc 33 args).run Try.prog w = .ok (.enter 33 args) w := enters_of Try.func33 (by kernel_rfl) rfl
  have hHz : (H.length : Int) ≤ 4611686018427387904 := by omega
  have H1 := Lib.hid h1
  have HB := Lib.hid hb
  clear h1 hb
  go_enter Try.func48, Try.ntmps48
  go_wp2
  go_loopg [5, 8] H.length (fun gg _ s8 wr => ∃ kk : Nat, kk ≤ H.length ∧ H.length - kk ≤ gg ∧ s8 = .int .i64 kk ∧ Hid (Below w.heap.size w wr) ∧ Hid (∀ (j : Nat) (d : Hp), j < kk → H[j]? = some d → (d.sw == n) = false))
  case atStart => exact ⟨0, Nat.zero_le _, by omega, rfl, Below.refl _ w, fun j d hj => absurd hj (Nat.not_lt_zero _)⟩
  case round =>
    obtain ⟨kk, hkk, hg, rfl, BW, AA⟩ := hrel
    by_cases hlt : kk < H.length
    · have hltz : (kk : Int) < (H.length : Int) := by omega
      obtain ⟨x, hx⟩ : ∃ x, H[kk]? = some x := ⟨_, List.getElem?_eq_getElem hlt⟩
      obtain ⟨bb, o, rfl, -, c0, c1, c2, c3, c4⟩ := Hs.at (H1.out.on BW.out) hx
      have hcall := passed1_c x n b wr (on_some BW.out HB.out)
      have HX := Lib.hid hx
      clear hx H1
      cases hq : (x.sw == n) with
      | true =>
        rw [hq] at hcall
        go_wp2_with (go_at_fn 33; refine hcall.mono ?_; rintro e w' ⟨rfl, hb'⟩)
        go_ret
        refine ⟨⟨_, rfl, fun _ => ?_, fun _ => Int.natCast_nonneg _⟩, BW.out.trans (hb'.mono BW.out.size)⟩
        unfold psd
        rw [List.any_eq_true]
        exact ⟨x, List.mem_of_getElem? HX.out, hq⟩
      | false =>
        rw [hq] at hcall
        go_wp2_with (go_at_fn 33; refine hcall.mono ?_; rintro e w' ⟨rfl, hb'⟩)
        go_roundg (H.length - (kk + 1))
        case measure => omega
        case rel =>
          refine ⟨kk + 1, by omega, by omega, by go_num, BW.out.trans (hb'.mono BW.out.size), fun j d hj hd => ?_⟩
          by_cases e : j = kk
          · subst e
            have := HX.out
            rw [hd] at this; injection this with this; subst this; exact hq
          · exact AA.out j d (by omega) hd
    · have hltz : ¬ (kk : Int) < (H.length : Int) := by omega
      go_wp2
      go_ret
      refine ⟨⟨_, rfl, fun h => absurd h (by decide), fun h => ?_⟩, BW.out⟩
      unfold psd at h
      rw [List.any_eq_true] at h
      obtain ⟨d, hd, hq⟩ := h
      obtain ⟨j, hj⟩ := List.getElem?_of_mem hd
      have := AA.out j d (by have := (List.getElem?_eq_some_iff.1 hj).1; omega) hj
      rw [this] at hq
      cases hq
set_option maxRecDepth 100000 in
set_option maxHeartbeats 4000000 in
theorem passed_c (x : Bool) (fin sw sp n : Int) {A : Option Addr} {c : Nat} {H : List Hp} {w : World} (hH : H.length ≤ 4611686018427387904) (h1 : Hs w A c H) (hx : psd H n = x) : Calls Try.prog 17 #[.agg #[.int .i64 fin, .int .i64 sw, .int .i64 sp, .slice A H.length c], .int .i64 n] w fun e w' => e = .returned (.bool x) ∧ Below w.heap.size w w' := by
  have B0 := Lib.hid (below2 w (.cells #[.int .i64 fin, .int .i64 sw, .int .i64 sp, .slice A H.length c] 54) (.cells #[.int .i64 n] 3))
  have X0 : Hid (Blk ((w.alloc (.cells #[.int .i64 fin, .int .i64 sw, .int .i64 sp, .slice A H.length c] 54)).alloc (.cells #[.int .i64 n] 3)) w.heap.size 54 #[.int .i64 fin, .int .i64 sw, .int .i64 sp, .slice A H.length c]) := (Blk.new w _ _).on (below1 _ _)
  have Y0 : Hid (Blk ((w.alloc (.cells #[.int .i64 fin, .int .i64 sw, .int .i64 sp, .slice A H.length c] 54)).alloc (.cells #[.int .i64 n] 3)) (w.heap.size + 1) 3 #[.int .i64 n]) := Blk.new2 w _ _ _
  have H1 := Lib.hid h1
  have HX := Lib.hid hx
  clear h1 hx
  go_enter Try.func17, Try.ntmps17
  go_upto_region 1 with (fail)
  generalize ((w.alloc (.cells #[.int .i64 fin, .int .i64 sw, .int .i64 sp, .slice A H.length c] 54)).alloc (.cells #[.int .i64 n] 3)) = w1 at B0 X0 Y0 ⊢
  obtain ⟨x0, x1, x2, x3⟩ := quad X0.out
  have hcon := idx_hops n (w.heap.size + 1) hH (H1.out.on B0.out) Y0.out.one
  have hcon2 : Calls Try.prog 32 #[.slice A H.length c, .func (.func 33) #[] #[.pointer (some ⟨w.heap.size + 1, 0, none⟩)]] w1 fun e w' => e = .returned (.bool x) ∧ Below w1.heap.size w1 w' := by
    clear x0 x1 x2 x3
    go_enter Try.func32, Try.ntmps32
    go_wp2_with fail
    go_at_call 48
    refine hcon.mono ?_
    rintro e w' ⟨⟨r, rfl, hr⟩, hb⟩
    have HR := Lib.hid hr
    clear hr hcon
    by_cases h0 : 0 ≤ r
    · have hxt : Hid (x = true) := HX.out.symm.trans (HR.out.1 h0)
      go_wp2
      go_ret
      exact ⟨by rw [hxt.out]; rfl, hb⟩
    · have hd : decide (0 ≤ r) = false := decide_eq_false h0
      have hxf : Hid (x = false) := by
        show _ = _
        cases hxx : x with
        | false => rfl
        | true => exact absurd (HR.out.2 (HX.out.trans hxx)) h0
      clear h0
      go_wp2
      go_ret
      exact ⟨by rw [hxf.out]; rfl, hb⟩
  clear hcon
  go_wp2_with fail
  go_at_call 32
  refine hcon2.mono ?_
  rintro e w' ⟨rfl, hb⟩
  have HE := Lib.hid (B0.out.trans (hb.mono B0.out.size))
  clear hb B0 x0 x1 x2 x3 hcon2
  go_wp2
  go_ret
  exact ⟨rfl, HE.out⟩
end Go.Proofs

namespace Go.Proofs.Ytgoenjpllepdjaa
open Go.ChangeShapes Go.WideShapes Go.ChangeAt Go.RowKit Go.Joins Go.Deep Go.Proofs.Hd
theorem cellsHop : Try.prog.cellsOf 64 = 5 := by kernel_rfl
theorem cellsHops : Try.prog.cellsOf 52 = 1 := by kernel_rfl
theorem cellsRun : Try.prog.cellsOf 54 = 4 := by kernel_rfl
theorem cellsSpot9 : Try.prog.cellsOf 51 = 2 := by kernel_rfl
theorem cellsHead9 : Try.prog.cellsOf 25 = 2 := by kernel_rfl
theorem bytesHop : Try.prog.bytesOf 64 = 40 := by kernel_rfl
instance : Inhabited Hp := ⟨⟨0, 0, 0, 0#64, 0#64⟩⟩
section
variable {H : Type} {enc : TypeId × Value → H} {W : World}
set_option maxRecDepth 100000 in
theorem rd_hop : ∀ n cs (y : DataW H × List MemPlace), cs.length = 5 → DataW.trod enc Try.prog W 0 (fun _ => true) true n 64 cs = some y → ∃ x : Hp, cs = x.cs ∧ (Lite 64 y.1 → True) := fun _ cs _ hl h0 => by
  obtain ⟨xs, m, _, _, _, hxs, hf⟩ := DataW.trod_struct Try.underlying64 h0
  have hx4 : xs.length = 4 := hxs
  match cs, hl with
  | [c0, c1, c2, c3, c4], _ =>
    match xs, hx4 with
    | [x0, x1, x2, x3], _ =>
      have q0 := hf 0 _ rfl
      have q1 := hf 1 _ rfl
      have q2 := hf 2 _ rfl
      have q3 := hf 3 _ rfl
      simp [cellsI, cellsHead9] at q0 q1 q2 q3
      obtain ⟨k0, rfl⟩ := int_of q0
      obtain ⟨k1, rfl⟩ := int_of q1
      obtain ⟨k2, rfl⟩ := int_of q2
      obtain ⟨h, l, rfl, rfl, _⟩ := read_head q3
      exact ⟨⟨k0, k1, k2, h, l⟩, rfl, fun _ => trivial⟩
theorem rd_hops {n : Nat} {c : Value} {y : DataW H × List MemPlace} (h : DataW.trod enc Try.prog W 0 (fun _ => true) true n 52 [c] = some y) : ∃ (A : Option Addr) (cap : Nat) (L : List Hp), c = .slice A L.length cap ∧ Hs W A cap L ∧ (Lite 52 y.1 → L.length ≤ 3518437208780) := by
  obtain ⟨A, cap, L, e, hm, hc, hz⟩ := read_slice Try.underlying52 cellsHop (by decide) (fun cs (x : Hp) => cs = x.cs) (fun _ => True) rd_hop h
  injection e with e
  subst e
  refine ⟨A, cap, L, rfl, fun hne => ?_, fun hl => ?_⟩
  · obtain ⟨b, o, e, hb, hk⟩ := hc hne
    refine ⟨b, o, e, hb, fun i x hx j u hu => ?_⟩
    obtain ⟨cs', rfl, h2⟩ := hk i x hx
    exact h2 j u hu
  · have := (hz hl).1
    rw [bytesHop] at this
    unfold reachBytes at this
    omega
set_option maxRecDepth 100000 in
/-- A run by value. -/
theorem open_run {base : Nat} {v : Value} {d : DataW H} {p : List MemPlace} (hok : Value.okWide Try.prog W .any base 54 v) (h0 : DataW.Trod enc Try.prog W 0 (fun _ => true) true 54 v d p) :
    ∃ (fin sw sp : Int) (A : Option Addr) (cap : Nat) (L : List Hp), v = .agg #[.int .i64 fin, .int .i64 sw, .int .i64 sp, .slice A L.length cap] ∧ Hs W A cap L ∧ (Lite 54 d → L.length ≤ 3518437208780) := by
  obtain ⟨cs, rfl, hsz⟩ := okWide_struct Try.underlying54 hok
  obtain ⟨fuel, hf0⟩ := h0
  have hf : DataW.trod enc Try.prog W 0 (fun _ => true) true fuel 54 cs.toList = some (d, p) := by simpa [Value.cells] using hf0
  have hc4 : cs.toList.length = 4 := by simpa using hsz.trans cellsRun
  obtain ⟨l, hl⟩ : ∃ l, cs.toList = l := ⟨_, rfl⟩
  rw [hl] at hf hc4
  match l, hc4 with
  | [c0, c1, c2, c3], _ =>
    obtain ⟨xs, m, _, hx, _, hxs, hff⟩ := DataW.trod_struct Try.underlying54 hf
    have hx3 : xs.length = 3 := hxs
    match xs, hx3 with
    | [x0, x1, x2], _ =>
      have q0 := hff 0 _ rfl
      have q1 := hff 1 _ rfl
      have q2 := hff 2 _ rfl
      simp [cellsI, cellsSpot9, cellsHops] at q0 q1 q2
      obtain ⟨fin, rfl⟩ := int_of q0
      obtain ⟨ys, m2, _, _, _, hys, hfy⟩ := DataW.trod_struct Try.underlying51 q1
      have hy2 : ys.length = 2 := hys
      match ys, hy2 with
      | [y0, y1], _ =>
        have r0 := hfy 0 _ rfl
        have r1 := hfy 1 _ rfl
        simp [cellsI] at r0 r1
        obtain ⟨sw, rfl⟩ := int_of r0
        obtain ⟨sp, rfl⟩ := int_of r1
        obtain ⟨A, cap, L, rfl, hL, hz⟩ := rd_hops q2
        refine ⟨fin, sw, sp, A, cap, L, by congr 1; apply Array.toList_inj.1; rw [hl], hL, fun hlt => ?_⟩
        have hd := congrArg Prod.fst hx
        simp only at hd
        rw [hd] at hlt
        unfold Lite at hlt
        simp [DataW.weights, DataW.weightsEach, Try.underlying54] at hlt
        exact hz fun m hm => hlt m (.inr (.inr hm))
set_option maxRecDepth 100000 in
/-- Tables by value. -/
theorem open_tabz {base : Nat} {v : Value} {d : DataW H} {p : List MemPlace} (hok : Value.okWide Try.prog W .any base 22 v) (h0 : DataW.Trod enc Try.prog W 0 (fun _ => true) true 22 v d p) : ∃ X : List (List Rl), RuT W v X ∧ (Lite 22 d → X.length ≤ 5864062014634 ∧ ∀ L ∈ X, L.length ≤ 1466015503658) := by
  obtain ⟨fuel, hf⟩ := h0
  obtain ⟨va, vl, vc, rfl⟩ := okWide_slice Try.underlying22 hok
  have hf' : DataW.trod enc Try.prog W 0 (fun _ => true) true fuel 22 [.slice va vl vc] = some (d, p) := by simpa [Value.cells] using hf
  obtain ⟨X, ⟨s, e, h⟩, hz⟩ := rd_rut _ _ _ rfl hf'
  injection e with e
  subst e
  exact ⟨X, h, hz⟩
end
end Go.Proofs.Ytgoenjpllepdjaa

namespace Go.Proofs.Hd
open Go.RowKit
/-- The array f lies in block b, whole, and may be written. -/
def Row (w : World) (b : Nat) (f : Nat → Bool) : Prop := w.rangeAt b 0 (bl f) ∧ w.there b 0 128
theorem Row.cell {w : World} {b k : Nat} {f : Nat → Bool} (h : Row w b f) (hk : k < 128) : w.cell? ⟨b, k, none⟩ = some (.bool (f k)) := range_cell h.1 hk
theorem Row.froz {w : World} {b k : Nat} {f : Nat → Bool} (h : Row w b f) (hk : k < 128) : w.frozen? ⟨b, k, none⟩ = false := by
  have := (h.2 k hk).2; rwa [Nat.zero_add] at this
theorem Row.lt {w : World} {b : Nat} {f : Nat → Bool} (h : Row w b f) : b < w.heap.size := World.block_lt_of_cell? w ⟨b, 0, none⟩ (h.cell (by omega))
theorem Row.drew {w : World} {b : Nat} {f : Nat → Bool} (h : Row w b f) : Row w.drew b f := h
theorem Row.far {w : World} {b : Nat} {f : Nat → Bool} {p : Addr} {v : Value} (h : Row w b f) (hp : p.block ≠ b) : Row (w.setCell p v) b f := by
  refine ⟨fun j x hj => ?_, fun j hj => ?_⟩
  · rw [World.cell?_setCell_far w p ⟨b, 0 + j, none⟩ v hp]; exact h.1 j x hj
  · rw [World.cell?_setCell_far w p ⟨b, 0 + j, none⟩ v hp, World.frozen?_setCell]; exact h.2 j hj
theorem Row.set {w : World} {b k : Nat} {f g : Nat → Bool} {x : Bool} (h : Row w b f) (hk : k < 128) (e : (bl f).set k (.bool x) = bl g) : Row (w.setCell ⟨b, k, none⟩ (.bool x)) b g := by
  have hc : ∀ j, j < 128 → (w.setCell ⟨b, k, none⟩ (.bool x)).cell? ⟨b, j, none⟩ = some (if j = k then .bool x else .bool (f j)) := by
    intro j hj
    by_cases ej : j = k
    · subst ej; rw [if_pos rfl]; exact World.cell?_setCell_same w ⟨b, j, none⟩ (.bool x) (h.cell hj)
    · rw [if_neg ej, World.cell?_setCell_other w ⟨b, k, none⟩ ⟨b, j, none⟩ (.bool x) (fun e2 => ej (by injection e2 with _ e3; exact e3.symm)), h.cell hj]
  refine ⟨fun j y hj => ?_, fun j hj => ?_⟩
  · have hj' : j < 128 := by
      have := (List.getElem?_eq_some_iff.1 hj).1; rwa [bl_len] at this
    rw [Nat.zero_add, hc j hj', ← hj, ← e, bl_set, bl_get _ _ hj']
    by_cases ej : j = k <;> simp [ej]
  · rw [Nat.zero_add, hc j hj, World.frozen?_setCell]
    exact ⟨rfl, h.froz hj⟩
theorem Row.below {B b : Nat} {w w' : World} {f : Nat → Bool} (h : Row w b f) (hb : Below B w w') (hl : b < B) : Row w' b f := ⟨range_below hb h.1 hl, there_below hb h.2 hl⟩
theorem Row.of_set {w : World} {b : Nat} (f : Nat → Bool) (h : w.there b 0 128) : Row (w.setCells b 0 (bl f)) b f :=
  ⟨World.rangeAt_setCells_same w b 0 (bl f) (by rw [bl_len]; exact h), World.there_setCells h b 0 (bl f)⟩
theorem Row.apart {w : World} {b c : Nat} {f : Nat → Bool} {vs : List Value} (h : Row w b f) (hne : b ≠ c) : Row (w.setCells c 0 vs) b f :=
  ⟨World.rangeAt_setCells_apart h.1 c 0 vs (Or.inl hne), World.there_setCells h.2 c 0 vs⟩
theorem Row.congr {w : World} {b : Nat} {f g : Nat → Bool} (h : Row w b f) (e : bl f = bl g) : Row w b g := ⟨e ▸ h.1, h.2⟩
/-- g below k, f from k on. -/
def mix (f g : Nat → Bool) (k : Nat) : Nat → Bool := fun j => if j < k then g j else f j
theorem mix_zero (f g : Nat → Bool) : mix f g 0 = f := by funext j; simp [mix]
theorem mix_all (f g : Nat → Bool) : bl (mix f g 128) = bl g := bl_congr fun j hj => by simp [mix, hj]
theorem mix_set (f g : Nat → Bool) (k : Nat) (b : Bool) (h : b = g k) : (bl (mix f g k)).set k (.bool b) = bl (mix f g (k + 1)) := by
  subst h
  rw [bl_set]
  apply bl_congr
  intro j _
  unfold mix
  by_cases e : j = k
  · subst e; simp
  · rw [if_neg e]
    have : (j < k + 1) ↔ (j < k) := by omega
    simp [this]
end Go.Proofs.Hd
