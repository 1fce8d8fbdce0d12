/-
  customhouselaw09.WalkSame returns true for every input, and each argument reads behind the call as before. No conditions.
  Headers that differ in nothing but stamped bits become one when they are stamped. Conditions as each theorem lists them.
  The walk of customhouselaw09.WalkSame: it returns true. Conditions as the theorem lists them.
-/
import Derived.Test.YtgoenjpllepdjaaJ12
import Derived.Test.YtgoenjpllepdjaaRows
import Derived.Below
import Derived.SizedLaws
namespace Go.Proofs.Hd
open Go.RowKit
theorem sF_cong {hh hl hh' hl' : BitVec 64} (n m : Nat) (h : ∀ j, j < 88 → hbit hh hl j = hbit hh' hl' j) : sF hh hl n m = sF hh' hl' n m := by
  funext j
  unfold sF
  by_cases h1 : j < 88
  · rw [if_pos h1, if_pos h1, h j h1]
  · rw [if_neg h1, if_neg h1]
theorem hbit_high (hh hl b : BitVec 64) (j : Nat) (hj : j < 88) : hbit (hh ^^^ ((b >>> 24) <<< 24)) hl j = hbit hh hl j := by
  unfold hbit
  by_cases h1 : j < 64
  · rw [if_pos h1, if_pos h1]
  · rw [if_neg h1, if_neg h1, BitVec.getLsbD_xor, BitVec.getLsbD_shiftLeft]
    have h2 : j - 64 < 24 := by omega
    simp [h2]
/-- What WalkSame stamps over. -/
theorem stamp_one (hh hl b : BitVec 64) (n m : Nat) : sF (hh ^^^ ((b >>> 24) <<< 24)) hl n m = sF hh hl n m := sF_cong n m fun j hj => hbit_high hh hl b j hj
end Go.Proofs.Hd

namespace Go.Proofs
open Go.RowKit Go.Proofs.Hd Go.Lib
attribute [local go_sem] uv_nonneg
theorem rsame_zz (w : World) : Calls Try.prog 15 #[.agg #[.int .i64 0, .int .i64 0, .int .i64 0, .slice none 0 0], .agg #[.int .i64 0, .int .i64 0, .int .i64 0, .slice none 0 0]] w fun e w' => e = .returned (.bool true) ∧ Below w.heap.size w w' := rsame_c (H := []) (by decide) (Hs.nil w none 0) (Hs.nil w none 0)
set_option maxRecDepth 100000 in
set_option maxHeartbeats 8000000 in
theorem wsame_c (tv pv wv bv : Value) (T : List (List Pt)) (ten : Int) (P : List (Int × Int)) (Q : List Wa) (BB : List (List (List Rl))) (a b ver : Int) (hh hl g : BitVec 64) (w : World) (hv1 : 0 ≤ ver) (hv2 : ver ≤ 255) (hT : PsT w tv T) (hP : Pe w pv P) (hQ : Wy w wv Q) (hB : RuQ w bv BB) (hsz : Szd T P Q BB) : Calls Try.prog 6 #[.agg #[tv, .int .i64 ten, pv, wv, bv], .agg #[.int .i64 a, .int .i64 b], .agg #[.int .u64 (uv hh), .int .u64 (uv hl)], .int .u64 (uv g), .int .u8 ver] w fun e w' => e = .returned (.bool true) ∧ Below w.heap.size w w' := by
  obtain ⟨K, hK⟩ : ∃ K : Nat, K = 10800 := ⟨_, rfl⟩
  have HT := Lib.hid hT
  have HP := Lib.hid hP
  have HQ := Lib.hid hQ
  have HBQ := Lib.hid hB
  have HSZ : Hid (∀ X ∈ BB, ∀ R ∈ X, R.length ≤ 4611686018427387904) := fun X hX R hR => by have := hsz.r X hX R hR; omega
  obtain ⟨tA, tc, rfl, -, -⟩ := hT
  obtain ⟨pA, pc, rfl, -, -⟩ := hP
  obtain ⟨wA, wcp, rfl, -, -⟩ := hQ
  obtain ⟨bA, bc, rfl, -, -⟩ := hB
  have HV1 : Hid (0 ≤ ver) := hv1
  have HV2 : Hid (ver ≤ 255) := hv2
  have hcv : IntKind.i64.wrap ver = ver := by rw [IntKind.wrap_i64]; omega
  have e24 : (2 : Int) ^ 24 = 16777216 := by decide
  have hgx0 : bits .xor .u64 (uv hh) (IntKind.u64.wrap (uv g / 16777216 * 16777216)) = uv (hh ^^^ ((g >>> 24) <<< 24)) := by rw [← e24, uv_shr, uv_shl, uv_xor]
  have HGX := Lib.hid hgx0
  clear e24 hgx0
  clear hsz
  have HB1 : Hid (Below w.heap.size w (((w.alloc (.cells #[.slice tA T.length tc, .int .i64 ten, .slice pA P.length pc, .slice wA Q.length wcp, .slice bA BB.length bc] 49)).alloc (.cells #[.int .i64 a, .int .i64 b] 51)).alloc (.cells #[.int .u64 (uv hh), .int .u64 (uv hl)] 25))) := below3 w _ _ _
  have N1 : Hid (Blk (((w.alloc (.cells #[.slice tA T.length tc, .int .i64 ten, .slice pA P.length pc, .slice wA Q.length wcp, .slice bA BB.length bc] 49)).alloc (.cells #[.int .i64 a, .int .i64 b] 51)).alloc (.cells #[.int .u64 (uv hh), .int .u64 (uv hl)] 25)) w.heap.size 49 #[.slice tA T.length tc, .int .i64 ten, .slice pA P.length pc, .slice wA Q.length wcp, .slice bA BB.length bc]) := ((Blk.new w _ _).on (below1 _ _)).on (below1 _ _)
  have M1 : Hid (Blk (((w.alloc (.cells #[.slice tA T.length tc, .int .i64 ten, .slice pA P.length pc, .slice wA Q.length wcp, .slice bA BB.length bc] 49)).alloc (.cells #[.int .i64 a, .int .i64 b] 51)).alloc (.cells #[.int .u64 (uv hh), .int .u64 (uv hl)] 25)) (w.heap.size + 1) 51 #[.int .i64 a, .int .i64 b]) := (Blk.new2 w _ _ _).on (below1 _ _)
  have K1 : Hid (Blk (((w.alloc (.cells #[.slice tA T.length tc, .int .i64 ten, .slice pA P.length pc, .slice wA Q.length wcp, .slice bA BB.length bc] 49)).alloc (.cells #[.int .i64 a, .int .i64 b] 51)).alloc (.cells #[.int .u64 (uv hh), .int .u64 (uv hl)] 25)) (w.heap.size + 1 + 1) 25 #[.int .u64 (uv hh), .int .u64 (uv hl)]) := Blk.new3 w _ _ _ _
  obtain ⟨er, her⟩ : ∃ er, errT T (cfgT T ten P Q BB) a b ver = er := ⟨_, rfl⟩
  have HER := Lib.hid her
  clear her
  go_enter Try.func6, Try.ntmps6
  go_upto_region 1 with (fail)
  generalize (((w.alloc (.cells #[.slice tA T.length tc, .int .i64 ten, .slice pA P.length pc, .slice wA Q.length wcp, .slice bA BB.length bc] 49)).alloc (.cells #[.int .i64 a, .int .i64 b] 51)).alloc (.cells #[.int .u64 (uv hh), .int .u64 (uv hl)] 25)) = w1 at HB1 N1 M1 K1 ⊢
  obtain ⟨d0, d1, d2, d3, d4⟩ := N1.out.five
  obtain ⟨s0, s1⟩ := M1.out.both
  obtain ⟨h0, h1⟩ := K1.out.both
  by_cases he0 : er = 0
  · subst he0
    obtain ⟨hz, hv, hed⟩ := errT_zero HER.out
    have HZ := Lib.hid hz
    obtain ⟨i, L0, R0, rfl, -⟩ := edge_sta HZ.out hed
    obtain ⟨m, rfl⟩ : ∃ m : Nat, ver = (m : Int) := ⟨ver.toNat, by omega⟩
    obtain ⟨n, hn⟩ : ∃ n : Nat, edgT T i b = (n : Int) := ⟨(edgT T i b).toNat, by omega⟩
    have hm : m ≤ 255 := by omega
    have HN := Lib.hid hn
    obtain ⟨fin, sw, sp, H, hr⟩ : ∃ fin sw sp H, runF fndI T BB K i 0 (num (sF hh hl n m) 64 64) (num (sF hh hl n m) 0 64) [] = ⟨fin, sw, sp, H⟩ := ⟨_, _, _, _, rfl⟩
    have HR := Lib.hid hr
    have HR2 : Hid (runF fndI T BB K i 0 (num (sF (hh ^^^ ((g >>> 24) <<< 24)) hl n m) 64 64) (num (sF (hh ^^^ ((g >>> 24) <<< 24)) hl n m) 0 64) [] = ⟨fin, sw, sp, H⟩) := by
      show _ = _
      rw [stamp_one]
      exact HR.out
    have hHl : H.length ≤ 1000000 := by
      have h := runF_len fndI T BB K i 0 (num (sF hh hl n m) 64 64) (num (sF hh hl n m) 0 64) []
      rw [hr] at h
      have h2 : H.length ≤ 0 + K := h
      omega
    clear hz hv hed hn hr
    go_wp2_with fail
    (with_reducible refine (run_yes _ _ _ _ T ten P Q BB b hh hl _ hK HZ.out hm HN.out HR.out (HT.out.on HB1.out) (HP.out.on HB1.out) (HQ.out.on HB1.out) (HBQ.out.on HB1.out) HSZ.out).mono ?_)
    rintro e w2 ⟨hA, hc, rfl, hH, hb⟩
    have bx := below1 w2 (.cells #[.int .i64 fin, .int .i64 sw, .int .i64 sp, .slice hA H.length hc] 54)
    have hw := hb.trans (bx.mono hb.size)
    have X2 := Lib.hid (Blk.new w2 54 #[.int .i64 fin, .int .i64 sw, .int .i64 sp, .slice hA H.length hc])
    have HB2 := Lib.hid (HB1.out.trans (hw.mono HB1.out.size))
    have N2 := Lib.hid (N1.out.on hw)
    have M2 := Lib.hid (M1.out.on hw)
    have K2 := Lib.hid (K1.out.on hw)
    clear hb hw HB1 N1 M1 K1 d0 d1 d2 d3 d4 s0 s1 h0 h1
    go_upto_region 2 with (fail)
    generalize hgen : w2.alloc (.cells #[.int .i64 fin, .int .i64 sw, .int .i64 sp, .slice hA H.length hc] 54) = w3 at bx X2 HB2 N2 M2 K2 ⊢
    clear hgen
    generalize hgen : w2.heap.size = bq at X2 ⊢
    clear hgen
    obtain ⟨d0, d1, d2, d3, d4⟩ := N2.out.five
    obtain ⟨s0, s1⟩ := M2.out.both
    obtain ⟨h0, h1⟩ := K2.out.both
    go_wp2_with fail
    rw [HGX.out]
    (with_reducible refine (run_yes _ _ _ _ T ten P Q BB b (hh ^^^ ((g >>> 24) <<< 24)) hl _ hK HZ.out hm HN.out HR2.out (HT.out.on HB2.out) (HP.out.on HB2.out) (HQ.out.on HB2.out) (HBQ.out.on HB2.out) HSZ.out).mono ?_)
    rintro e w4 ⟨gA, gc, rfl, hG, hb⟩
    have HHH := Lib.hid (hH.on bx)
    have HGG := Lib.hid hG
    clear hH hG bx
    have by1 := below1 w4 (.cells #[.int .i64 fin, .int .i64 sw, .int .i64 sp, .slice gA H.length gc] 54)
    have hw := hb.trans (by1.mono hb.size)
    have Y4 := Lib.hid (Blk.new w4 54 #[.int .i64 fin, .int .i64 sw, .int .i64 sp, .slice gA H.length gc])
    have HB4 := Lib.hid (HB2.out.trans (hw.mono HB2.out.size))
    have X4 := Lib.hid (X2.out.on hw)
    have HBW := Lib.hid hw
    clear hb hw HB2 N2 M2 K2 X2 d0 d1 d2 d3 d4 s0 s1 h0 h1
    go_upto_region 3 with (fail)
    generalize hgen : w4.alloc (.cells #[.int .i64 fin, .int .i64 sw, .int .i64 sp, .slice gA H.length gc] 54) = w5 at by1 Y4 HB4 X4 HBW ⊢
    clear hgen
    generalize hgen : w4.heap.size = bq2 at Y4 ⊢
    clear hgen
    go_wp2_with fail
    (with_reducible refine (awake9_c _).mono ?_)
    rintro e w6 ⟨rfl, hb⟩
    have HB6 := Lib.hid (HB4.out.trans (hb.mono HB4.out.size))
    obtain ⟨x0, x1, x2, x3⟩ := quad (X4.out.on hb)
    obtain ⟨y0, y1, y2, y3⟩ := quad (Y4.out.on hb)
    have HBV := Lib.hid (hb)
    clear hb HB4 X4 Y4
    go_wp2_with fail
    (with_reducible refine (rsame_c hHl (HHH.out.on (HBW.out.trans (HBV.out.mono HBW.out.size))) (HGG.out.on (by1.trans (HBV.out.mono by1.size)))).mono ?_)
    rintro e w7 ⟨rfl, hb⟩
    have HB7 := Lib.hid (HB6.out.trans (hb.mono HB6.out.size))
    clear hb HB6 x0 x1 x2 x3 y0 y1 y2 y3
    go_wp2
    go_ret
    exact ⟨rfl, HB7.out⟩
  · have hne : ¬ er = 0 := he0
    go_wp2_with fail
    (with_reducible refine (run_no _ _ _ _ T ten P Q BB a b ver hh hl _ HER.out hne (HT.out.on HB1.out) (HP.out.on HB1.out) (HQ.out.on HB1.out) (HBQ.out.on HB1.out) HSZ.out).mono ?_)
    rintro e w2 ⟨rfl, hb⟩
    have bx := below1 w2 (.cells #[.int .i64 0, .int .i64 0, .int .i64 0, .slice none 0 0] 54)
    have hw := hb.trans (bx.mono hb.size)
    have X2 := Lib.hid (Blk.new w2 54 #[.int .i64 0, .int .i64 0, .int .i64 0, .slice none 0 0])
    have HB2 := Lib.hid (HB1.out.trans (hw.mono HB1.out.size))
    have N2 := Lib.hid (N1.out.on hw)
    have M2 := Lib.hid (M1.out.on hw)
    have K2 := Lib.hid (K1.out.on hw)
    clear hb hw HB1 N1 M1 K1 d0 d1 d2 d3 d4 s0 s1 h0 h1
    go_upto_region 2 with (fail)
    generalize hgen : w2.alloc (.cells #[.int .i64 0, .int .i64 0, .int .i64 0, .slice none 0 0] 54) = w3 at bx X2 HB2 N2 M2 K2 ⊢
    clear hgen
    generalize hgen : w2.heap.size = bq at X2 ⊢
    clear hgen
    obtain ⟨d0, d1, d2, d3, d4⟩ := N2.out.five
    obtain ⟨s0, s1⟩ := M2.out.both
    obtain ⟨h0, h1⟩ := K2.out.both
    go_wp2_with fail
    rw [HGX.out]
    (with_reducible refine (run_no _ _ _ _ T ten P Q BB a b ver (hh ^^^ ((g >>> 24) <<< 24)) hl _ HER.out hne (HT.out.on HB2.out) (HP.out.on HB2.out) (HQ.out.on HB2.out) (HBQ.out.on HB2.out) HSZ.out).mono ?_)
    rintro e w4 ⟨rfl, hb⟩
    have by1 := below1 w4 (.cells #[.int .i64 0, .int .i64 0, .int .i64 0, .slice none 0 0] 54)
    have hw := hb.trans (by1.mono hb.size)
    have Y4 := Lib.hid (Blk.new w4 54 #[.int .i64 0, .int .i64 0, .int .i64 0, .slice none 0 0])
    have HB4 := Lib.hid (HB2.out.trans (hw.mono HB2.out.size))
    have X4 := Lib.hid (X2.out.on hw)
    have HBW := Lib.hid hw
    clear hb hw HB2 N2 M2 K2 X2 d0 d1 d2 d3 d4 s0 s1 h0 h1
    go_upto_region 3 with (fail)
    generalize hgen : w4.alloc (.cells #[.int .i64 0, .int .i64 0, .int .i64 0, .slice none 0 0] 54) = w5 at by1 Y4 HB4 X4 HBW ⊢
    clear hgen
    generalize hgen : w4.heap.size = bq2 at Y4 ⊢
    clear hgen
    go_wp2_with fail
    (with_reducible refine (awake9_c _).mono ?_)
    rintro e w6 ⟨rfl, hb⟩
    have HB6 := Lib.hid (HB4.out.trans (hb.mono HB4.out.size))
    obtain ⟨x0, x1, x2, x3⟩ := quad (X4.out.on hb)
    obtain ⟨y0, y1, y2, y3⟩ := quad (Y4.out.on hb)
    have HBV := Lib.hid (hb)
    clear hb HB4 X4 Y4
    go_wp2_with fail
    (with_reducible refine (rsame_zz _).mono ?_)
    rintro e w7 ⟨rfl, hb⟩
    have HB7 := Lib.hid (HB6.out.trans (hb.mono HB6.out.size))
    clear hb HB6 x0 x1 x2 x3 y0 y1 y2 y3
    go_wp2
    go_ret
    exact ⟨rfl, HB7.out⟩
end Go.Proofs

namespace Go.Proofs.Ytgoenjpllepdjaa
open Go.ChangeShapes Go.WideShapes Go.ChangeAt Go.RowKit Go.Joins Go.Proofs.Hd

theorem laidOut_wsame : laidOutB Try.prog = true := by kernel_rfl
set_option maxRecDepth 100000 in
theorem wsame_lifted (os : Os) (started : os.Started) (H : Type) (enc : TypeId × Value → H) :
    ReturnsInHanded {} Try.checked os 6 .any (Rows.walkSameSpec.pre6 enc Try.prog Try.f6 Rows.walkSameRow.domain false) (Rows.walkSameSpec.post enc Try.prog Try.f6 false true false false) := by
  refine returnsInHanded_of_change_sized (C := Try.checked) own started (by kernel_rfl) Try.func6
    (ChangeSpec.witness6 (enc := enc) (C := Try.checked) false ⟨#[], #[.agg #[.slice none 0 0, .int .i64 0, .slice none 0 0, .slice none 0 0, .slice none 0 0], .agg #[.int .i64 0, .int .i64 0], .agg #[.int .u64 0, .int .u64 0], .int .u64 0, .int .u8 0], []⟩ 8 (by kernel_rfl) (by kernel_rfl) (by kernel_rfl) (by kernel_rfl)) ?_
  intro W base args ds gs before hval0 hW hcnd hsz _
  have hval : ∀ (j : Nat) t v, Try.f6.params[j]? = some t → args[j]? = some v → Value.okWide Try.prog W .any base t v := hval0
  have hW' := hW
  obtain ⟨p, q, hA0, hV, rfl, hfz, hnd⟩ := hW
  have hA : DataW.TrodAll enc Try.prog W 0 (fun _ => true) true Try.f6.params.toList args.toList ds p := hA0
  rw [Try.params6] at hA hval
  obtain ⟨v0, vs0, d0, ds0, p0, q0, hargs, rfl, rfl, h0, r0⟩ := trodAll_cons hA
  obtain ⟨v1, vs1, d1, ds1, p1, q1, rfl, rfl, rfl, h1, r1⟩ := trodAll_cons r0
  obtain ⟨v2, vs2, d2, ds2, p2, q2, rfl, rfl, rfl, h2, r2⟩ := trodAll_cons r1
  obtain ⟨v3, vs3, d3, ds3, p3, q3, rfl, rfl, rfl, h3, r3⟩ := trodAll_cons r2
  obtain ⟨v4, vs4, d4, ds4, p4, q4, rfl, rfl, rfl, h4, r4⟩ := trodAll_cons r3
  obtain ⟨rfl, rfl, rfl⟩ := trodAll_nil r4
  obtain rfl : args = #[v0, v1, v2, v3, v4] := by cases args; simp_all
  obtain ⟨rfl, rfl⟩ := trodVars_none hV
  have k0 := h0
  have lt0 : ∀ x ∈ p0, x.block < W.heap.size := by obtain ⟨m, hm⟩ := k0; exact DataW.trod_lt m _ _ _ hm
  obtain ⟨ctv, cT, cn, cpv, cP, cwv, cQ, cbv, cB, rfl, chT, chP, chQ, chB, cz⟩ := open_cfg (hval 0 49 v0 rfl rfl) h0
  have cs := cz fun m hm => by simpa using List.all_eq_true.1 hsz m (DataW.weights_mem_each (j := 0) (t := 49) (by rw [Try.params6]; rfl) rfl m hm)
  have k1 := h1
  have lt1 : ∀ x ∈ p1, x.block < W.heap.size := by obtain ⟨m, hm⟩ := k1; exact DataW.trod_lt m _ _ _ hm
  obtain ⟨sa, sb, rfl⟩ := open_spot (hval 1 51 v1 rfl rfl) h1
  obtain ⟨hh, hl, rfl, rfl, rfl, s2⟩ := open_head (hval 2 25 v2 rfl rfl) h2
  obtain ⟨g, rfl, rfl, rfl, wf3⟩ := open_int Try.underlying23 (hval 3 23 v3 rfl rfl) h3
  obtain ⟨v, rfl, rfl, rfl, wf4⟩ := open_int Try.underlying5 (hval 4 5 v4 rfl rfl) h4
  clear hA0 hval0
  obtain ⟨g, rfl⟩ := uv_of g wf3
  obtain ⟨bv1, bv2⟩ := bounds_u8 wf4
  refine (wsame_c ctv cpv cwv cbv cT cn cP cQ cB sa sb v hh hl g W bv1 (by omega) chT chP chQ chB cs).mono fun e W' ⟨he, hg⟩ => ?_
  subst he
  exact ⟨_, rfl, _, _, _, [], _, [], hW', trodAll_mk1 (shut_bool Try.underlying4 _), (trodAll_cons_mk (Below.trod laidOut_wsame (by kernel_rfl) (of_decide_eq_true (by kernel_rfl)) k0 hg lt0) (trodAll_cons_mk (Below.trod laidOut_wsame (by kernel_rfl) (of_decide_eq_true (by kernel_rfl)) k1 hg lt1) (trodAll_cons_mk (s2 _ _) (trodAll_cons_mk (shut_int Try.underlying23 wf3) (trodAll_cons_mk (shut_int Try.underlying5 wf4) trodAll_mk0))))), rfl, hg.frame _, (fun h => by cases h)⟩

theorem wsame_holds : Rows.WalkSameSaid :=
  OpenClaim.holds_of_wide 6 Try.f6 rfl rfl rfl rfl rfl rfl rfl ⟨rfl, rfl, rfl, rfl, rfl⟩ rfl rfl rfl rfl rfl (by kernel_rfl) Try.func6 (by kernel_rfl)
    (of_decide_eq_true (by kernel_rfl)) (by unfold Func.isWrapper; first | (rw [if_pos (by decide +kernel)]; kernel_rfl) | (rw [if_neg (by decide +kernel)]; exact ⟨rfl, rfl⟩))
    (fun os started H enc _ => wsame_lifted os started H enc)
#print axioms wsame_holds
end Go.Proofs.Ytgoenjpllepdjaa
