/-
  customhouselaw09.WalkSteps returns true for every input, and each argument reads behind the call as before. No conditions.
  The walk of customhouselaw09.WalkSteps: it returns true. Conditions as the theorem lists them.
-/
import Derived.Test.YtgoenjpllepdjaaJ12
import Derived.Test.YtgoenjpllepdjaaRows
import Derived.Below
import Derived.SizedLaws
namespace Go.Proofs
open Go.RowKit Go.Proofs.Hd Go.Lib
attribute [local go_sem] uv_nonneg
attribute [local go_sem high] run_eq2
set_option maxRecDepth 100000 in
set_option maxHeartbeats 16000000 in
theorem wsteps_c (tv pv wv bv : Value) (T : List (List Pt)) (ten : Int) (P : List (Int × Int)) (Q : List Wa) (BB : List (List (List Rl))) (a b ver : Int) (hh hl : BitVec 64) (w : World) (hv1 : 0 ≤ ver) (hv2 : ver ≤ 255) (hT : PsT w tv T) (hP : Pe w pv P) (hQ : Wy w wv Q) (hB : RuQ w bv BB) (hsz : Szd T P Q BB) : Calls Try.prog 7 #[.agg #[tv, .int .i64 ten, pv, wv, bv], .agg #[.int .i64 a, .int .i64 b], .agg #[.int .u64 (uv hh), .int .u64 (uv hl)], .int .u8 ver] w fun e w' => e = .returned (.bool true) ∧ Below w.heap.size w w' := by
  obtain ⟨K, hK⟩ : ∃ K : Nat, K = 10800 := ⟨_, rfl⟩
  have HT := Lib.hid hT
  have HP := Lib.hid hP
  have HQ := Lib.hid hQ
  have HBQ := Lib.hid hB
  have HSZ : Hid (∀ X ∈ BB, ∀ R ∈ X, R.length ≤ 4611686018427387904) := fun X hX R hR => by have := hsz.r X hX R hR; omega
  obtain ⟨tA, tc, rfl, -, -⟩ := hT
  obtain ⟨pA, pc, rfl, -, -⟩ := hP
  obtain ⟨wA, wcp, rfl, -, -⟩ := hQ
  obtain ⟨bA, bc, rfl, hBm, hQf⟩ := hB
  have HQF := Lib.hid hQf
  have hcv : IntKind.i64.wrap ver = ver := by rw [IntKind.wrap_i64]; omega
  clear hsz hQf hBm
  have HB1 : Hid (Below w.heap.size w (((w.alloc (.cells #[.slice tA T.length tc, .int .i64 ten, .slice pA P.length pc, .slice wA Q.length wcp, .slice bA BB.length bc] 49)).alloc (.cells #[.int .i64 a, .int .i64 b] 51)).alloc (.cells #[.int .u64 (uv hh), .int .u64 (uv hl)] 25))) := below3 w _ _ _
  have N1 : Hid (Blk (((w.alloc (.cells #[.slice tA T.length tc, .int .i64 ten, .slice pA P.length pc, .slice wA Q.length wcp, .slice bA BB.length bc] 49)).alloc (.cells #[.int .i64 a, .int .i64 b] 51)).alloc (.cells #[.int .u64 (uv hh), .int .u64 (uv hl)] 25)) w.heap.size 49 #[.slice tA T.length tc, .int .i64 ten, .slice pA P.length pc, .slice wA Q.length wcp, .slice bA BB.length bc]) := ((Blk.new w _ _).on (below1 _ _)).on (below1 _ _)
  have M1 : Hid (Blk (((w.alloc (.cells #[.slice tA T.length tc, .int .i64 ten, .slice pA P.length pc, .slice wA Q.length wcp, .slice bA BB.length bc] 49)).alloc (.cells #[.int .i64 a, .int .i64 b] 51)).alloc (.cells #[.int .u64 (uv hh), .int .u64 (uv hl)] 25)) (w.heap.size + 1) 51 #[.int .i64 a, .int .i64 b]) := (Blk.new2 w _ _ _).on (below1 _ _)
  have K1 : Hid (Blk (((w.alloc (.cells #[.slice tA T.length tc, .int .i64 ten, .slice pA P.length pc, .slice wA Q.length wcp, .slice bA BB.length bc] 49)).alloc (.cells #[.int .i64 a, .int .i64 b] 51)).alloc (.cells #[.int .u64 (uv hh), .int .u64 (uv hl)] 25)) (w.heap.size + 1 + 1) 25 #[.int .u64 (uv hh), .int .u64 (uv hl)]) := Blk.new3 w _ _ _ _
  obtain ⟨er, her⟩ : ∃ er, errT T (cfgT T ten P Q BB) a b ver = er := ⟨_, rfl⟩
  have HER := Lib.hid her
  clear her
  go_enter Try.func7, Try.ntmps7
  go_upto_region 1 with (fail)
  generalize (((w.alloc (.cells #[.slice tA T.length tc, .int .i64 ten, .slice pA P.length pc, .slice wA Q.length wcp, .slice bA BB.length bc] 49)).alloc (.cells #[.int .i64 a, .int .i64 b] 51)).alloc (.cells #[.int .u64 (uv hh), .int .u64 (uv hl)] 25)) = w1 at HB1 N1 M1 K1 ⊢
  obtain ⟨d0, d1, d2, d3, d4⟩ := N1.out.five
  obtain ⟨s0, s1⟩ := M1.out.both
  obtain ⟨h0, h1⟩ := K1.out.both
  by_cases he0 : er = 0
  · subst he0
    obtain ⟨hz, hv, hed⟩ := errT_zero HER.out
    have HZ := Lib.hid hz
    obtain ⟨i, L0, R0, rfl, hsta⟩ := edge_sta HZ.out hed
    obtain ⟨m, rfl⟩ : ∃ m : Nat, ver = (m : Int) := ⟨ver.toNat, by omega⟩
    obtain ⟨n, hn⟩ : ∃ n : Nat, edgT T i b = (n : Int) := ⟨(edgT T i b).toNat, by omega⟩
    have hm : m ≤ 255 := by omega
    have HN := Lib.hid hn
    obtain ⟨fin, sw, sp, H, hr⟩ : ∃ fin sw sp H, runF fndI T BB K i 0 (num (sF hh hl n m) 64 64) (num (sF hh hl n m) 0 64) [] = ⟨fin, sw, sp, H⟩ := ⟨_, _, _, _, rfl⟩
    have HR := Lib.hid hr
    have hran := run_ran HZ.out K i 0 (num (sF hh hl n m) 64 64) (num (sF hh hl n m) 0 64) L0 R0 hsta
    have hhd := runF_head T BB K i 0 (num (sF hh hl n m) 64 64) (num (sF hh hl n m) 0 64)
    rw [hr] at hran hhd
    have hst : Go.Proofs.Hd.Steps T BB fin H := hran.steps
    have hlo : 1 ≤ fin := hran.lo
    have hhi : fin ≤ 4 := hran.hi
    have hlp : fin = 4 → H.length = K := hran.loop
    have hmo : H.length ≤ K := hran.most
    have hle : 1 ≤ H.length := hran.least (by omega)
    obtain ⟨x0, hx0⟩ : ∃ x0, H[0]? = some x0 := ⟨_, List.getElem?_eq_getElem (by omega)⟩
    have hx0h := hhd x0 (by rw [List.head?_eq_getElem?]; exact hx0)
    obtain ⟨ln, hln⟩ : ∃ ln, H.length = ln := ⟨_, rfl⟩
    rw [hln] at hlp hmo hle
    have HLN := Lib.hid hln
    have HST := Lib.hid hst
    have HX0 := Lib.hid hx0
    have HXA := Lib.hid hx0h.1
    have HXB := Lib.hid hx0h.2.1
    have HLP := Lib.hid hlp
    have hKL : ln ≤ 10800 := by omega
    clear hz hv hed hn hr hran hhd hst hlp hmo hx0 hx0h hln hsta
    go_wp2_with fail
    (with_reducible refine (run_yes _ _ _ _ T ten P Q BB b hh hl _ hK HZ.out hm HN.out HR.out (HT.out.on HB1.out) (HP.out.on HB1.out) (HQ.out.on HB1.out) (HBQ.out.on HB1.out) HSZ.out).mono ?_)
    rintro e w2 ⟨hA, hc, rfl, hH, hb⟩
    rw [HLN.out]
    have bx := below1 w2 (.cells #[.int .i64 fin, .int .i64 sw, .int .i64 sp, .slice hA ln hc] 54)
    have hw := hb.trans (bx.mono hb.size)
    have X2 := Lib.hid (Blk.new w2 54 #[.int .i64 fin, .int .i64 sw, .int .i64 sp, .slice hA ln hc])
    have HB2 := Lib.hid (HB1.out.trans (hw.mono HB1.out.size))
    have N2 := Lib.hid (N1.out.on hw)
    have M2 := Lib.hid (M1.out.on hw)
    have HHS := Lib.hid (hH.on bx)
    clear hb hw HB1 N1 M1 K1 d0 d1 d2 d3 d4 s0 s1 h0 h1 bx hH
    go_upto_region 2 with (fail)
    generalize hgen : w2.alloc (.cells #[.int .i64 fin, .int .i64 sw, .int .i64 sp, .slice hA ln hc] 54) = w3 at X2 HB2 N2 M2 HHS ⊢
    clear hgen
    generalize hgen : w2.heap.size = bq at X2 ⊢
    clear hgen
    go_wp2_with fail
    (with_reducible refine (awake9_c _).mono ?_)
    rintro e w4 ⟨rfl, hb⟩
    have HB4 := Lib.hid (HB2.out.trans (hb.mono HB2.out.size))
    have N4 := Lib.hid (N2.out.on hb)
    have M4 := Lib.hid (M2.out.on hb)
    have X4 := Lib.hid (X2.out.on hb)
    have HH4 := Lib.hid (HHS.out.on hb)
    clear hb HB2 N2 M2 X2 HHS
    obtain ⟨r0, r1, r2, r3⟩ := quad X4.out
    obtain ⟨s0, s1⟩ := M4.out.both
    obtain ⟨hb0, ho0, rfl, -, c0, c1, -, -, -⟩ := Hs.at HH4.out HX0.out
    rw [HXA.out] at c0
    rw [HXB.out] at c1
    simp only [Nat.zero_mul, Nat.add_zero] at c0 c1
    have hlz1 : ¬ (ln : Int) < 1 := by omega
    have hlz2 : ¬ (10800 : Int) < (ln : Int) := by omega
    have hlz3 : (0 : Int) < (ln : Int) := by omega
    have hlz4 : 0 < ln := by omega
    have hg1 : decide ((ln : Int) < 1) = false := decide_eq_false hlz1
    have hg2 : decide ((10800 : Int) < (ln : Int)) = false := decide_eq_false hlz2
    go_upto_region 5 with (fail)
    go_quiet (fail)
    have hdw := bldrewN (Below.refl w4.heap.size w4) nq
    have HB5 := Lib.hid (HB4.out.trans (hdw.mono HB4.out.size))
    have N5 := Lib.hid (N4.out.on hdw)
    have X5 := Lib.hid (X4.out.on hdw)
    have HH5 := Lib.hid (HH4.out.on hdw)
    clear hdw HB4 N4 M4 X4 HH4 r0 r1 r2 r3 s0 s1 c0 c1 hlz1 hlz2 hlz3 hlz4 hg1 hg2 HX0 HXA HXB
    generalize w4.drewN nq = w5 at HB5 N5 X5 HH5 ⊢
    go_wp2
    go_loopg [12, 13, 14, 15, 16] 300 (fun gk s12 _ _ _ _ wr => ∃ k : Nat, k ≤ 300 ∧ gk = 300 - k ∧ k ≤ ln ∧ s12 = .int .i64 k ∧ Hid (Below w5.heap.size w5 wr))
    case atStart => exact ⟨0, Nat.zero_le _, rfl, Nat.zero_le _, rfl, Below.refl _ _⟩
    case round =>
      obtain ⟨k, hk3, rfl, hkl, rfl, HBW⟩ := hrel
      obtain ⟨r0, r1, r2, r3⟩ := quad (X5.out.on HBW.out)
      by_cases hlt : k < ln ∧ k < 300
      · obtain ⟨hl1, hl3⟩ := hlt
        have hl1z : (k : Int) < (ln : Int) := by omega
        have hl3z : (k : Int) < 300 := by omega
        obtain ⟨x, hx⟩ : ∃ x, H[k]? = some x := ⟨_, List.getElem?_eq_getElem (by have := HLN.out; omega)⟩
        obtain ⟨nn, tt, L', R, e1, e2, hs', hcase⟩ := Go.Proofs.Hd.Steps.at HST.out hx
        obtain ⟨xsw, xtb, xr, xh, xl⟩ := x
        have e1 : xsw = (nn : Int) := e1
        have e2 : xtb = (tt : Int) := e2
        subst e1 e2
        have hcase : (fndI R xh xl = none ∧ xr = -1 ∧ H[k + 1]? = none ∧ fin = 3) ∨ ∃ (j : Nat) (r : Rl), fndI R xh xl = some j ∧ R[j]? = some r ∧ xr = (j : Int) ∧ ∀ y, H[k + 1]? = some y → y.hh = stH r xh ∧ y.hl = stL r xl := hcase
        have HCS := Lib.hid hcase
        have hw5 := HB5.out.trans (HBW.out.mono HB5.out.size)
        obtain ⟨hb1, ho1, e3, -, c0, c1, c2, c3, c4⟩ := Hs.at (HH5.out.on HBW.out) hx
        obtain ⟨rfl, rfl⟩ : hb0 = hb1 ∧ ho0 = ho1 := by simpa using e3
        clear e3
        obtain ⟨hTn, X, hBn, hXt⟩ := hs'
        have hnl : nn < BB.length := (List.getElem?_eq_some_iff.1 hBn).1
        have hnz : (nn : Int) < (BB.length : Int) := by omega
        have hRl := HSZ.out X (List.mem_of_getElem? hBn) R (List.mem_of_getElem? hXt)
        obtain ⟨b0, o0, rfl, -, hbk⟩ := HQF.out (by rintro rfl; simp at hnl)
        obtain ⟨sX, hsX, hXr⟩ := hbk nn X hBn
        have HXT : Hid (RuT w sX X) := hXr
        obtain ⟨XA, Xc, rfl, -, -, -⟩ := hXr
        have HSX := Lib.hid hsX
        have HTR := Lib.hid hXt
        obtain ⟨j9, gh, gl, ok9, hI⟩ := OneIs.ex R xh xl
        have HI := Lib.hid hI
        obtain ⟨-, -, -, -, d4⟩ := (N5.out.on HBW.out).five
        clear hI hsX hbk hXt hBn hTn hnl hcase hx hw5
        have bx := below1 wr (.cells #[.int .i64 (nn : Int), .int .i64 (tt : Int), .int .i64 xr, .int .u64 (uv xh), .int .u64 (uv xl)] 64)
        have BX6 := Lib.hid (Blk.new wr 64 #[.int .i64 (nn : Int), .int .i64 (tt : Int), .int .i64 xr, .int .u64 (uv xh), .int .u64 (uv xl)])
        have HB6 := Lib.hid ((HB5.out.trans (HBW.out.mono HB5.out.size)).trans (bx.mono (HB5.out.trans (HBW.out.mono HB5.out.size)).size))
        have HBV := Lib.hid (HBW.out.trans (bx.mono HBW.out.size))
        have d4 := on_some bx d4
        clear bx
        go_upto_region 11 with (fail)
        clear r0 r1 r2 r3 c0 c1 c2 c3 c4 HBW
        generalize hgen : wr.alloc (.cells #[.int .i64 (nn : Int), .int .i64 (tt : Int), .int .i64 xr, .int .u64 (uv xh), .int .u64 (uv xl)] 64) = w6 at BX6 HB6 HBV d4 ⊢
        clear hgen
        generalize hgen : wr.heap.size = bxx at BX6 ⊢
        clear hgen
        obtain ⟨y0, y1, y2, y3, y4⟩ := BX6.out.five
        have hn0 : ¬ (nn : Int) < 0 := by omega
        have hn1 : ¬ (BB.length : Int) ≤ (nn : Int) := by omega
        go_upto_region 13 with (fail)
        clear y0 y1 y2 y3 y4 d4
        go_cut [14, 15, 16] (fun s14 s15 s16 wc => ∃ bg : Nat, s14 = .int .i64 j9 ∧ s15 = .pointer (some ⟨bg, 0, none⟩) ∧ s16 = .bool ok9 ∧ Below w6.heap.size w6 wc ∧ Blk wc bg 25 #[.int .u64 (uv gh), .int .u64 (uv gl)])
        case first =>
          have HKP : Hid (∀ W, Below w6.heap.size w6 W → (Below w6.heap.size w6 W ∧ W.cell? ⟨w.heap.size, 4, none⟩ = some (.slice (some ⟨b0, o0, none⟩) BB.length bc) ∧ W.cell? ⟨b0, o0 + nn, none⟩ = some (.slice XA X.length Xc) ∧ W.cell? ⟨bxx, 0, none⟩ = some (.int .i64 (nn : Int)) ∧ W.cell? ⟨bxx, 1, none⟩ = some (.int .i64 (tt : Int)) ∧ W.cell? ⟨bxx, 3, none⟩ = some (.int .u64 (uv xh)) ∧ W.cell? ⟨bxx, 4, none⟩ = some (.int .u64 (uv xl)))) := fun W hb => by
            have hw := HB6.out.trans (hb.mono HB6.out.size)
            obtain ⟨-, -, -, -, d4⟩ := (N5.out.on (HBV.out.trans (hb.mono HBV.out.size))).five
            obtain ⟨y0, y1, -, y3, y4⟩ := (BX6.out.on hb).five
            exact ⟨hb, d4, on_some hw HSX.out, y0, y1, y3, y4⟩
          refine wp_region_held_drew (S := fun w' => Below w6.heap.size w6 w' ∧ w'.cell? ⟨w.heap.size, 4, none⟩ = some (.slice (some ⟨b0, o0, none⟩) BB.length bc) ∧ w'.cell? ⟨b0, o0 + nn, none⟩ = some (.slice XA X.length Xc) ∧ w'.cell? ⟨bxx, 0, none⟩ = some (.int .i64 (nn : Int)) ∧ w'.cell? ⟨bxx, 1, none⟩ = some (.int .i64 (tt : Int)) ∧ w'.cell? ⟨bxx, 3, none⟩ = some (.int .u64 (uv xh)) ∧ w'.cell? ⟨bxx, 4, none⟩ = some (.int .u64 (uv xl))) (by kernel_rfl) (HKP.out _ (Below.refl _ w6).drew) (fun hHeld => ?_)
          have hB := (Below.refl w6.heap.size w6).drew
          generalize w6.drew = u0 at hHeld hB ⊢
          refine wpAnyH_take (i := 0) (oi := ⟨some 86, _, _, _, _, _⟩) (v := ?vst0_1) rfl (by kernel_rfl) (by kernel_rfl) (by kernel_rfl) (fun _ _ _ h => h) (Or.inl ⟨by rfl, ?yst0_1⟩) hHeld ?rst0_1
          case yst0_1 => (intro w' hSw; (try dsimp only at hSw); go_simp; try (with_reducible rfl))
          simp only [Act.put, List.setIfInBounds_toArray, List.set_cons_zero, List.set_cons_succ]
          refine wpAnyH_take (i := 1) (oi := ⟨some 87, _, _, _, _, _⟩) (v := ?vst1_2) rfl (by kernel_rfl) (by kernel_rfl) (by kernel_rfl) (fun _ _ _ h => h) (Or.inl ⟨by rfl, ?yst1_2⟩) hHeld ?rst1_2
          case yst1_2 => (intro w' hSw; (try dsimp only at hSw); go_simp; try (with_reducible rfl))
          simp only [Act.put, List.setIfInBounds_toArray, List.set_cons_zero, List.set_cons_succ]
          refine wpAnyH_take (i := 2) (oi := ⟨some 88, _, _, _, _, _⟩) (v := ?vst2_3) rfl (by kernel_rfl) (by kernel_rfl) (by kernel_rfl) (fun _ _ _ h => h) (Or.inl ⟨by rfl, ?yst2_3⟩) hHeld ?rst2_3
          case yst2_3 => (intro w' hSw; (try dsimp only at hSw); go_simp; try (with_reducible rfl))
          simp only [Act.put, List.setIfInBounds_toArray, List.set_cons_zero, List.set_cons_succ]
          refine wpAnyH_take (i := 3) (oi := ⟨some 89, _, _, _, _, _⟩) (v := ?vst3_4) rfl (by kernel_rfl) (by kernel_rfl) (by kernel_rfl) (fun _ _ _ h => h) (Or.inl ⟨by rfl, ?yst3_4⟩) hHeld ?rst3_4
          case yst3_4 => (intro w' hSw; (try dsimp only at hSw); go_simp; try (with_reducible rfl))
          simp only [Act.put, List.setIfInBounds_toArray, List.set_cons_zero, List.set_cons_succ]
          refine wpAnyH_take (i := 4) (oi := ⟨some 90, _, _, _, _, _⟩) (v := ?vst4_5) rfl (by kernel_rfl) (by kernel_rfl) (by kernel_rfl) (fun _ _ _ h => h) (Or.inl ⟨by rfl, ?yst4_5⟩) hHeld ?rst4_5
          case yst4_5 => (intro w' hSw; (try dsimp only at hSw); go_simp; try (with_reducible rfl))
          simp only [Act.put, List.setIfInBounds_toArray, List.set_cons_zero, List.set_cons_succ]
          refine wpAnyH_take (i := 5) (oi := ⟨some 91, _, _, _, _, _⟩) (v := ?vst5_6) rfl (by kernel_rfl) (by kernel_rfl) (by kernel_rfl) (fun _ _ _ h => h) (Or.inl ⟨by rfl, ?yst5_6⟩) hHeld ?rst5_6
          case yst5_6 => (intro w' hSw; (try dsimp only at hSw); go_simp; try (with_reducible rfl))
          simp only [Act.put, List.setIfInBounds_toArray, List.set_cons_zero, List.set_cons_succ]
          refine wpAnyH_take (i := 6) (oi := ⟨some 92, _, _, _, _, _⟩) (v := ?vst6_7) rfl (by kernel_rfl) (by kernel_rfl) (by kernel_rfl) (fun _ _ _ h => h) (Or.inl ⟨by rfl, ?yst6_7⟩) hHeld ?rst6_7
          case yst6_7 => (intro w' hSw; (try dsimp only at hSw); go_simp; try (with_reducible rfl))
          simp only [Act.put, List.setIfInBounds_toArray, List.set_cons_zero, List.set_cons_succ]
          refine wpAnyH_take (i := 7) (oi := ⟨some 93, _, _, _, _, _⟩) (v := ?vst7_8) rfl (by kernel_rfl) (by kernel_rfl) (by kernel_rfl) (fun _ _ _ h => h) (Or.inl ⟨by rfl, ?yst7_8⟩) hHeld ?rst7_8
          case yst7_8 => (intro w' hSw; (try dsimp only at hSw); go_simp; try (with_reducible rfl))
          simp only [Act.put, List.setIfInBounds_toArray, List.set_cons_zero, List.set_cons_succ]
          refine wpAnyH_take (i := 8) (oi := ⟨some 94, _, _, _, _, _⟩) (v := ?vst8_9) rfl (by kernel_rfl) (by kernel_rfl) (by kernel_rfl) (fun _ _ _ h => h) (Or.inl ⟨by rfl, ?yst8_9⟩) hHeld ?rst8_9
          case yst8_9 => (intro w' hSw; (try dsimp only at hSw); go_simp; try (with_reducible rfl))
          simp only [Act.put, List.setIfInBounds_toArray, List.set_cons_zero, List.set_cons_succ]
          refine wpAnyH_take (i := 9) (oi := ⟨some 95, _, _, _, _, _⟩) (v := ?vst9_10) rfl (by kernel_rfl) (by kernel_rfl) (by kernel_rfl) (fun _ _ _ h => h) (Or.inl ⟨by rfl, ?yst9_10⟩) hHeld ?rst9_10
          case yst9_10 => (intro w' hSw; (try dsimp only at hSw); go_simp; try (with_reducible rfl))
          simp only [Act.put, List.setIfInBounds_toArray, List.set_cons_zero, List.set_cons_succ]
          refine wpAnyH_ready (rs := [10, 15]) (by kernel_rfl) (by simp) ?_
          refine AllReadyH.cons (o := ⟨some 96, _, _, _, _, _⟩) rfl (fun K hK => ?_) ?_
          · go_simp
            (with_reducible refine (one_c hRl (HXT.out.on (HB6.out.trans (hB.mono HB6.out.size))) HTR.out HI.out).mono ?_)
            rintro e u1 ⟨rfl, hb⟩
            (try dsimp only)
            have hB2 := hB.trans (hb.mono hB.size)
            refine hK.out _ _ (HKP.out _ hB2) (fun hNext => ?_)
            clear hK K hHeld
            have hHeld := hNext
            clear hNext
            clear hB
            have hB := hB2
            clear hB2
            clear hb
            try simp only [Act.put, List.setIfInBounds_toArray, List.set_cons_zero, List.set_cons_succ]
            refine wpAnyH_take (i := 11) (oi := ⟨some 85, _, _, _, _, _⟩) (v := ?vst11_11) rfl (by kernel_rfl) (by kernel_rfl) (by kernel_rfl) (fun _ _ _ h => h) (Or.inl ⟨by rfl, ?yst11_11⟩) hHeld ?rst11_11
            case yst11_11 => (intro w' hSw; (try dsimp only at hSw); go_simp; try (with_reducible rfl))
            simp only [Act.put, List.setIfInBounds_toArray, List.set_cons_zero, List.set_cons_succ]
            refine wpAnyH_take (i := 12) (oi := ⟨some 97, _, _, _, _, _⟩) (v := ?vst12_12) rfl (by kernel_rfl) (by kernel_rfl) (by kernel_rfl) (fun _ _ _ h => h) (Or.inl ⟨by rfl, ?yst12_12⟩) hHeld ?rst12_12
            case yst12_12 => (intro w' hSw; (try dsimp only at hSw); go_simp; try (with_reducible rfl))
            simp only [Act.put, List.setIfInBounds_toArray, List.set_cons_zero, List.set_cons_succ]
            refine wpAnyH_take (i := 13) (oi := ⟨some 98, _, _, _, _, _⟩) (v := ?vst13_13) rfl (by kernel_rfl) (by kernel_rfl) (by kernel_rfl) (fun _ _ _ h => h) (Or.inl ⟨by rfl, ?yst13_13⟩) hHeld ?rst13_13
            case yst13_13 => (intro w' hSw; (try dsimp only at hSw); go_simp; try (with_reducible rfl))
            simp only [Act.put, List.setIfInBounds_toArray, List.set_cons_zero, List.set_cons_succ]
            refine wpAnyH_take (i := 14) (oi := ⟨some 99, _, _, _, _, _⟩) (v := ?vst14_14) rfl (by kernel_rfl) (by kernel_rfl) (by kernel_rfl) (fun _ _ _ h => h) (Or.inl ⟨by rfl, ?yst14_14⟩) hHeld ?rst14_14
            case yst14_14 => (intro w' hSw; (try dsimp only at hSw); go_simp; try (with_reducible rfl))
            simp only [Act.put, List.setIfInBounds_toArray, List.set_cons_zero, List.set_cons_succ]
            refine wpAnyH_ready (rs := [15]) (by kernel_rfl) (by simp) ?_
            refine AllReadyH.cons (o := ⟨some 15, _, _, _, _, _⟩) rfl (fun K hK => ?_) AllReadyH.nil
            go_simp
            have hb := below1 u1 (.cells #[.int .u64 0, .int .u64 0] 25)
            have hB2 := hB.trans (hb.mono hB.size)
            refine hK.out _ _ (HKP.out _ hB2) (fun hNext => ?_)
            have t_g : Nb w6.heap.size (u1.alloc (.cells #[.int .u64 0, .int .u64 0] 25)) u1.heap.size 25 #[.int .u64 0, .int .u64 0] := Nb.top u1 hB.size
            clear hK K hHeld
            have hHeld := hNext
            clear hNext
            clear hB
            have hB := hB2
            clear hB2
            clear hb
            generalize hgen : (u1.alloc (.cells #[.int .u64 0, .int .u64 0] 25)) = u2 at hHeld hB  t_g ⊢
            clear hgen
            generalize hgen : u1.heap.size = b_g at t_g  ⊢
            clear hgen
            try simp only [Act.put, List.setIfInBounds_toArray, List.set_cons_zero, List.set_cons_succ]
            refine wpAnyH_take (i := 16) (oi := ⟨some 14, _, _, _, _, _⟩) (v := ?vst16_15) rfl (by kernel_rfl) (by kernel_rfl) (by kernel_rfl) (fun _ _ _ h => h) (Or.inl ⟨by rfl, ?yst16_15⟩) hHeld ?rst16_15
            case yst16_15 => (intro w' hSw; (try dsimp only at hSw); go_simp; try (with_reducible rfl))
            simp only [Act.put, List.setIfInBounds_toArray, List.set_cons_zero, List.set_cons_succ]
            refine wpAnyH_ready (rs := [17]) (by kernel_rfl) (by simp) ?_
            refine AllReadyH.cons (o := ⟨none, _, _, _, _, _⟩) rfl (fun K hK => ?_) AllReadyH.nil
            rw [if_pos (by rfl)]
            refine wp_store_mid 25 _ _ rfl b_g 0 #[.int .u64 (uv gh), .int .u64 (uv gl)] rfl rfl t_g.there infoHeadS (by simp [Value.oneCell']) ?_
            (try dsimp only)
            have hB2 := (Below.setCells [.int .u64 (uv gh), .int .u64 (uv gl)] 0 _ hB t_g.2)
            refine hK.out _ _ (HKP.out _ hB2) (fun hNext => ?_)
            clear hK K hHeld
            have hHeld := hNext
            clear hNext
            clear hB
            have hB := hB2
            clear hB2
            replace t_g := t_g.put [.int .u64 (uv gh), .int .u64 (uv gl)] rfl
            generalize hgen : (World.setCells u2 b_g 0 [.int .u64 (uv gh), .int .u64 (uv gl)]) = u3 at hHeld hB t_g ⊢
            clear hgen
            try simp only [Act.put]
            refine wpAnyH_take (i := 18) (oi := ⟨some 16, _, _, _, _, _⟩) (v := ?vst18_16) rfl (by kernel_rfl) (by kernel_rfl) (by kernel_rfl) (fun _ _ _ h => h) (Or.inl ⟨by rfl, ?yst18_16⟩) hHeld ?rst18_16
            case yst18_16 => (intro w' hSw; (try dsimp only at hSw); go_simp; try (with_reducible rfl))
            simp only [Act.put, List.setIfInBounds_toArray, List.set_cons_zero, List.set_cons_succ]
            refine wpAnyH_done (by kernel_rfl) ?_ _
            go_wp2_with fail
            go_meet
            exact ⟨b_g, rfl, rfl, rfl, hB, t_g.1⟩
          refine AllReadyH.cons (o := ⟨some 15, _, _, _, _, _⟩) rfl (fun K hK => ?_) AllReadyH.nil
          go_simp
          have hb := below1 u0 (.cells #[.int .u64 0, .int .u64 0] 25)
          have hB2 := hB.trans (hb.mono hB.size)
          refine hK.out _ _ (HKP.out _ hB2) (fun hNext => ?_)
          have t_g : Nb w6.heap.size (u0.alloc (.cells #[.int .u64 0, .int .u64 0] 25)) u0.heap.size 25 #[.int .u64 0, .int .u64 0] := Nb.top u0 hB.size
          clear hK K hHeld
          have hHeld := hNext
          clear hNext
          clear hB
          have hB := hB2
          clear hB2
          clear hb
          generalize hgen : (u0.alloc (.cells #[.int .u64 0, .int .u64 0] 25)) = u4 at hHeld hB  t_g ⊢
          clear hgen
          generalize hgen : u0.heap.size = b_g at t_g  ⊢
          clear hgen
          try simp only [Act.put, List.setIfInBounds_toArray, List.set_cons_zero, List.set_cons_succ]
          refine wpAnyH_ready (rs := [10]) (by kernel_rfl) (by simp) ?_
          refine AllReadyH.cons (o := ⟨some 96, _, _, _, _, _⟩) rfl (fun K hK => ?_) AllReadyH.nil
          go_simp
          (with_reducible refine (one_c hRl (HXT.out.on (HB6.out.trans (hB.mono HB6.out.size))) HTR.out HI.out).mono ?_)
          rintro e u5 ⟨rfl, hb⟩
          (try dsimp only)
          have hB2 := hB.trans (hb.mono hB.size)
          refine hK.out _ _ (HKP.out _ hB2) (fun hNext => ?_)
          clear hK K hHeld
          have hHeld := hNext
          clear hNext
          clear hB
          have hB := hB2
          clear hB2
          replace t_g := t_g.on hb
          clear hb
          try simp only [Act.put, List.setIfInBounds_toArray, List.set_cons_zero, List.set_cons_succ]
          refine wpAnyH_take (i := 11) (oi := ⟨some 85, _, _, _, _, _⟩) (v := ?vst11_17) rfl (by kernel_rfl) (by kernel_rfl) (by kernel_rfl) (fun _ _ _ h => h) (Or.inl ⟨by rfl, ?yst11_17⟩) hHeld ?rst11_17
          case yst11_17 => (intro w' hSw; (try dsimp only at hSw); go_simp; try (with_reducible rfl))
          simp only [Act.put, List.setIfInBounds_toArray, List.set_cons_zero, List.set_cons_succ]
          refine wpAnyH_take (i := 12) (oi := ⟨some 97, _, _, _, _, _⟩) (v := ?vst12_18) rfl (by kernel_rfl) (by kernel_rfl) (by kernel_rfl) (fun _ _ _ h => h) (Or.inl ⟨by rfl, ?yst12_18⟩) hHeld ?rst12_18
          case yst12_18 => (intro w' hSw; (try dsimp only at hSw); go_simp; try (with_reducible rfl))
          simp only [Act.put, List.setIfInBounds_toArray, List.set_cons_zero, List.set_cons_succ]
          refine wpAnyH_take (i := 13) (oi := ⟨some 98, _, _, _, _, _⟩) (v := ?vst13_19) rfl (by kernel_rfl) (by kernel_rfl) (by kernel_rfl) (fun _ _ _ h => h) (Or.inl ⟨by rfl, ?yst13_19⟩) hHeld ?rst13_19
          case yst13_19 => (intro w' hSw; (try dsimp only at hSw); go_simp; try (with_reducible rfl))
          simp only [Act.put, List.setIfInBounds_toArray, List.set_cons_zero, List.set_cons_succ]
          refine wpAnyH_take (i := 14) (oi := ⟨some 99, _, _, _, _, _⟩) (v := ?vst14_20) rfl (by kernel_rfl) (by kernel_rfl) (by kernel_rfl) (fun _ _ _ h => h) (Or.inl ⟨by rfl, ?yst14_20⟩) hHeld ?rst14_20
          case yst14_20 => (intro w' hSw; (try dsimp only at hSw); go_simp; try (with_reducible rfl))
          simp only [Act.put, List.setIfInBounds_toArray, List.set_cons_zero, List.set_cons_succ]
          refine wpAnyH_take (i := 16) (oi := ⟨some 14, _, _, _, _, _⟩) (v := ?vst16_21) rfl (by kernel_rfl) (by kernel_rfl) (by kernel_rfl) (fun _ _ _ h => h) (Or.inl ⟨by rfl, ?yst16_21⟩) hHeld ?rst16_21
          case yst16_21 => (intro w' hSw; (try dsimp only at hSw); go_simp; try (with_reducible rfl))
          simp only [Act.put, List.setIfInBounds_toArray, List.set_cons_zero, List.set_cons_succ]
          refine wpAnyH_ready (rs := [17]) (by kernel_rfl) (by simp) ?_
          refine AllReadyH.cons (o := ⟨none, _, _, _, _, _⟩) rfl (fun K hK => ?_) AllReadyH.nil
          rw [if_pos (by rfl)]
          refine wp_store_mid 25 _ _ rfl b_g 0 #[.int .u64 (uv gh), .int .u64 (uv gl)] rfl rfl t_g.there infoHeadS (by simp [Value.oneCell']) ?_
          (try dsimp only)
          have hB2 := (Below.setCells [.int .u64 (uv gh), .int .u64 (uv gl)] 0 _ hB t_g.2)
          refine hK.out _ _ (HKP.out _ hB2) (fun hNext => ?_)
          clear hK K hHeld
          have hHeld := hNext
          clear hNext
          clear hB
          have hB := hB2
          clear hB2
          replace t_g := t_g.put [.int .u64 (uv gh), .int .u64 (uv gl)] rfl
          generalize hgen : (World.setCells u5 b_g 0 [.int .u64 (uv gh), .int .u64 (uv gl)]) = u6 at hHeld hB t_g ⊢
          clear hgen
          try simp only [Act.put]
          refine wpAnyH_take (i := 18) (oi := ⟨some 16, _, _, _, _, _⟩) (v := ?vst18_22) rfl (by kernel_rfl) (by kernel_rfl) (by kernel_rfl) (fun _ _ _ h => h) (Or.inl ⟨by rfl, ?yst18_22⟩) hHeld ?rst18_22
          case yst18_22 => (intro w' hSw; (try dsimp only at hSw); go_simp; try (with_reducible rfl))
          simp only [Act.put, List.setIfInBounds_toArray, List.set_cons_zero, List.set_cons_succ]
          refine wpAnyH_done (by kernel_rfl) ?_ _
          go_wp2_with fail
          go_meet
          exact ⟨b_g, rfl, rfl, rfl, hB, t_g.1⟩
        case rest =>
          obtain ⟨bg, rfl, rfl, rfl, hB, hG⟩ := hcut
          have HB7 := Lib.hid (HB6.out.trans (hB.mono HB6.out.size))
          have HBV7 := Lib.hid (HBV.out.trans (hB.mono HBV.out.size))
          have G7 := Lib.hid hG
          have BX7 := Lib.hid (BX6.out.on hB)
          clear hB hG HB6 HBV BX6 HXT HSX
          obtain ⟨-, -, y2, -, -⟩ := BX7.out.five
          obtain ⟨r0, r1, r2, r3⟩ := quad (X5.out.on HBV7.out)
          have hkw : IntKind.i64.wrap ((ln : Int) - 1) = (ln : Int) - 1 := by rw [IntKind.wrap_i64]; omega
          rcases HI.out with ⟨hf, rfl, rfl, rfl, rfl⟩ | ⟨j, r, hf, hr, rfl, rfl, rfl, rfl⟩
          · rcases HCS.out with ⟨hf2, rfl, hnx, rfl⟩ | ⟨j, r, hf2, -⟩
            · have hkn : (ln : Int) - 1 = (k : Int) := by
                have h := List.getElem?_eq_none_iff.1 hnx
                have := HLN.out
                omega
              rw [hkn] at hkw
              clear hf hf2 hnx HI HCS
              go_upto_region 16 with (fail)
              go_quiet (fail)
              have HBE := Lib.hid (HBV7.out.trans (bldrewN (Below.refl _ wc) nq |>.mono HBV7.out.size))
              clear HB7 HBV7 G7 BX7 y2 r0 r1 r2 r3
              generalize wc.drewN nq = w8 at HBE ⊢
              go_wp2
              go_roundg (300 - (k + 1))
              case measure => omega
              case rel => exact ⟨k + 1, by omega, rfl, by omega, by go_num, HBE⟩
            · rw [hf] at hf2; cases hf2
          · rcases HCS.out with ⟨hf2, -⟩ | ⟨j2, r2x, hf2, hr2, rfl, hnx⟩
            · rw [hf] at hf2; cases hf2
            · have ej : j = j2 := by rw [hf] at hf2; injection hf2
              subst ej
              have er2 : r = r2x := by rw [hr] at hr2; injection hr2
              subst er2
              have hj0 : (0 : Int) ≤ (j : Int) := Int.natCast_nonneg _
              by_cases hlast : k + 1 < ln
              · obtain ⟨y, hy⟩ : ∃ y, H[k + 1]? = some y := ⟨_, List.getElem?_eq_getElem (by have := HLN.out; omega)⟩
                obtain ⟨hy1, hy2⟩ := hnx y hy
                obtain ⟨hb2, ho2, e3, -, -, -, -, c3, c4⟩ := Hs.at (HH5.out.on HBV7.out) hy
                obtain ⟨rfl, rfl⟩ : hb0 = hb2 ∧ ho0 = ho2 := by simpa using e3
                clear e3
                rw [hy1] at c3
                rw [hy2] at c4
                obtain ⟨g0, g1⟩ := G7.out.both
                have hlk : (k : Int) < (ln : Int) - 1 := by omega
                have hgk : decide ((k : Int) < (ln : Int) - 1) = true := decide_eq_true hlk
                have hk1z : (k : Int) + 1 < (ln : Int) := by omega
                have hkw2 : IntKind.i64.wrap ((k : Int) + 1) = (k : Int) + 1 := by rw [IntKind.wrap_i64]; omega
                have hk0 : (0 : Int) ≤ (k : Int) + 1 := by omega
                have hkt : ((k : Int) + 1).toNat = k + 1 := by omega
                have hq := eq2_self (uv (stH r xh)) (uv (stL r xl))
                clear hf hf2 hnx hr hr2 hy hy1 hy2 HI HCS
                go_upto_region 16 with (fail)
                go_quiet (fail)
                have HBE := Lib.hid (HBV7.out.trans (bldrewN (Below.refl _ wc) nq |>.mono HBV7.out.size))
                clear HB7 HBV7 G7 BX7 y2 r0 r1 r2 r3 c3 c4 g0 g1 hq hlk hgk hk1z hkw2 hk0 hkt
                generalize wc.drewN nq = w8 at HBE ⊢
                go_wp2
                go_roundg (300 - (k + 1))
                case measure => omega
                case rel => exact ⟨k + 1, by omega, rfl, by omega, by go_num, HBE⟩
              · have hlk : ¬ (k : Int) < (ln : Int) - 1 := by omega
                have hgk : decide ((k : Int) < (ln : Int) - 1) = false := decide_eq_false hlk
                clear hf hf2 hnx hr hr2 HI HCS
                go_upto_region 16 with (fail)
                go_quiet (fail)
                have HBE := Lib.hid (HBV7.out.trans (bldrewN (Below.refl _ wc) nq |>.mono HBV7.out.size))
                clear HB7 HBV7 G7 BX7 y2 r0 r1 r2 r3 hlk hgk
                generalize wc.drewN nq = w8 at HBE ⊢
                go_wp2
                go_roundg (300 - (k + 1))
                case measure => omega
                case rel => exact ⟨k + 1, by omega, rfl, by omega, by go_num, HBE⟩
      · have HE := Lib.hid (HB5.out.trans (HBW.out.mono HB5.out.size))
        have hf1 : decide (1 ≤ fin) = true := decide_eq_true hlo
        have hf2 : decide (fin ≤ 4) = true := decide_eq_true hhi
        have hnlt : ¬ ((k : Int) < (ln : Int)) ∨ ¬ ((k : Int) < 300) := by omega
        have HFL : Hid (fin = 4 → ln = 10800) := fun h => by have := HLP.out h; omega
        by_cases h4 : fin = 4
        · have hl8 : (ln : Int) = 10800 := by have := HFL.out h4; omega
          subst h4
          by_cases hl1 : k < ln
          · have hl1z : (k : Int) < (ln : Int) := by omega
            have hl3z : ¬ (k : Int) < 300 := by omega
            clear hlt hnlt HBW
            go_wp2
            go_ret
            exact ⟨by simp, HE.out⟩
          · exact absurd (show k < ln by omega) hl1
        · have h4b : (fin != 4) = true := by simp [h4]
          by_cases hl1 : k < ln
          · have hl1z : (k : Int) < (ln : Int) := by omega
            have hl3z : ¬ (k : Int) < 300 := by omega
            clear hlt hnlt HBW
            go_wp2
            go_ret
            exact ⟨rfl, HE.out⟩
          · have hl1z : ¬ (k : Int) < (ln : Int) := by omega
            clear hlt hnlt HBW
            go_wp2
            go_ret
            exact ⟨rfl, HE.out⟩
  · have hne : ¬ er = 0 := he0
    go_wp2_with fail
    (with_reducible refine (run_no _ _ _ _ T ten P Q BB a b ver hh hl _ HER.out hne (HT.out.on HB1.out) (HP.out.on HB1.out) (HQ.out.on HB1.out) (HBQ.out.on HB1.out) HSZ.out).mono ?_)
    rintro e w2 ⟨rfl, hb⟩
    have bx := below1 w2 (.cells #[.int .i64 0, .int .i64 0, .int .i64 0, .slice none 0 0] 54)
    have hw := hb.trans (bx.mono hb.size)
    have HB2 := Lib.hid (HB1.out.trans (hw.mono HB1.out.size))
    clear hb hw HB1 N1 M1 K1 d0 d1 d2 d3 d4 s0 s1 h0 h1 bx
    go_upto_region 2 with (fail)
    generalize hgen : w2.alloc (.cells #[.int .i64 0, .int .i64 0, .int .i64 0, .slice none 0 0] 54) = w3 at HB2 ⊢
    clear hgen
    generalize hgen : w2.heap.size = bq at ⊢
    clear hgen
    go_wp2_with fail
    (with_reducible refine (awake9_c _).mono ?_)
    rintro e w4 ⟨rfl, hb⟩
    have HB4 := Lib.hid (HB2.out.trans (hb.mono HB2.out.size))
    clear hb HB2
    go_wp2_with fail
    (with_reducible refine (awake9_c _).mono ?_)
    rintro e w5 ⟨rfl, hb⟩
    have HB5 := Lib.hid (HB4.out.trans (hb.mono HB4.out.size))
    clear hb HB4
    go_wp2
    go_ret
    exact ⟨rfl, HB5.out⟩
end Go.Proofs

namespace Go.Proofs.Ytgoenjpllepdjaa
open Go.ChangeShapes Go.WideShapes Go.ChangeAt Go.RowKit Go.Joins Go.Proofs.Hd

theorem laidOut_wsteps : laidOutB Try.prog = true := by kernel_rfl
set_option maxRecDepth 100000 in
theorem wsteps_lifted (os : Os) (started : os.Started) (H : Type) (enc : TypeId × Value → H) :
    ReturnsInHanded {} Try.checked os 7 .any (Rows.walkStepsSpec.pre6 enc Try.prog Try.f7 Rows.walkStepsRow.domain false) (Rows.walkStepsSpec.post enc Try.prog Try.f7 false true false false) := by
  refine returnsInHanded_of_change_sized (C := Try.checked) own started (by kernel_rfl) Try.func7
    (ChangeSpec.witness6 (enc := enc) (C := Try.checked) false ⟨#[], #[.agg #[.slice none 0 0, .int .i64 0, .slice none 0 0, .slice none 0 0, .slice none 0 0], .agg #[.int .i64 0, .int .i64 0], .agg #[.int .u64 0, .int .u64 0], .int .u8 0], []⟩ 8 (by kernel_rfl) (by kernel_rfl) (by kernel_rfl) (by kernel_rfl)) ?_
  intro W base args ds gs before hval0 hW hcnd hsz _
  have hval : ∀ (j : Nat) t v, Try.f7.params[j]? = some t → args[j]? = some v → Value.okWide Try.prog W .any base t v := hval0
  have hW' := hW
  obtain ⟨p, q, hA0, hV, rfl, hfz, hnd⟩ := hW
  have hA : DataW.TrodAll enc Try.prog W 0 (fun _ => true) true Try.f7.params.toList args.toList ds p := hA0
  rw [Try.params7] at hA hval
  obtain ⟨v0, vs0, d0, ds0, p0, q0, hargs, rfl, rfl, h0, r0⟩ := trodAll_cons hA
  obtain ⟨v1, vs1, d1, ds1, p1, q1, rfl, rfl, rfl, h1, r1⟩ := trodAll_cons r0
  obtain ⟨v2, vs2, d2, ds2, p2, q2, rfl, rfl, rfl, h2, r2⟩ := trodAll_cons r1
  obtain ⟨v3, vs3, d3, ds3, p3, q3, rfl, rfl, rfl, h3, r3⟩ := trodAll_cons r2
  obtain ⟨rfl, rfl, rfl⟩ := trodAll_nil r3
  obtain rfl : args = #[v0, v1, v2, v3] := by cases args; simp_all
  obtain ⟨rfl, rfl⟩ := trodVars_none hV
  have k0 := h0
  have lt0 : ∀ x ∈ p0, x.block < W.heap.size := by obtain ⟨m, hm⟩ := k0; exact DataW.trod_lt m _ _ _ hm
  obtain ⟨ctv, cT, cn, cpv, cP, cwv, cQ, cbv, cB, rfl, chT, chP, chQ, chB, cz⟩ := open_cfg (hval 0 49 v0 rfl rfl) h0
  have cs := cz fun m hm => by simpa using List.all_eq_true.1 hsz m (DataW.weights_mem_each (j := 0) (t := 49) (by rw [Try.params7]; rfl) rfl m hm)
  have k1 := h1
  have lt1 : ∀ x ∈ p1, x.block < W.heap.size := by obtain ⟨m, hm⟩ := k1; exact DataW.trod_lt m _ _ _ hm
  obtain ⟨sa, sb, rfl⟩ := open_spot (hval 1 51 v1 rfl rfl) h1
  obtain ⟨hh, hl, rfl, rfl, rfl, s2⟩ := open_head (hval 2 25 v2 rfl rfl) h2
  obtain ⟨v, rfl, rfl, rfl, wf3⟩ := open_int Try.underlying5 (hval 3 5 v3 rfl rfl) h3
  clear hA0 hval0
  obtain ⟨bv1, bv2⟩ := bounds_u8 wf3
  refine (wsteps_c ctv cpv cwv cbv cT cn cP cQ cB sa sb v hh hl W bv1 (by omega) chT chP chQ chB cs).mono fun e W' ⟨he, hg⟩ => ?_
  subst he
  exact ⟨_, rfl, _, _, _, [], _, [], hW', trodAll_mk1 (shut_bool Try.underlying4 _), (trodAll_cons_mk (Below.trod laidOut_wsteps (by kernel_rfl) (of_decide_eq_true (by kernel_rfl)) k0 hg lt0) (trodAll_cons_mk (Below.trod laidOut_wsteps (by kernel_rfl) (of_decide_eq_true (by kernel_rfl)) k1 hg lt1) (trodAll_cons_mk (s2 _ _) (trodAll_cons_mk (shut_int Try.underlying5 wf3) trodAll_mk0)))), rfl, hg.frame _, (fun h => by cases h)⟩

theorem wsteps_holds : Rows.WalkStepsSaid :=
  OpenClaim.holds_of_wide 7 Try.f7 rfl rfl rfl rfl rfl rfl rfl ⟨rfl, rfl, rfl, rfl, rfl⟩ rfl rfl rfl rfl rfl (by kernel_rfl) Try.func7 (by kernel_rfl)
    (of_decide_eq_true (by kernel_rfl)) (by unfold Func.isWrapper; first | (rw [if_pos (by decide +kernel)]; kernel_rfl) | (rw [if_neg (by decide +kernel)]; exact ⟨rfl, rfl⟩))
    (fun os started H enc _ => wsteps_lifted os started H enc)
#print axioms wsteps_holds
end Go.Proofs.Ytgoenjpllepdjaa
