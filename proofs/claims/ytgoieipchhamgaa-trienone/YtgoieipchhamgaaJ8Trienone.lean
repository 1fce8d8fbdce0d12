/-
  The row of customhouselaw12.TrieNone: for every input it returns true, and each argument reads as it did. No conditions.
  The law TrieNone: no trie answers as it should. Conditions as each theorem lists them.
-/
import Derived.Test.YtgoieipchhamgaaJ7
import Derived.Test.YtgoieipchhamgaaRows
namespace Go.Proofs
open Go.RowKit Go.Proofs.Hd Go.Lib
attribute [local go_sem] uv_nonneg
set_option maxRecDepth 100000 in
set_option maxHeartbeats 4000000 in
theorem trnone_c (x : Int) (c : Cb) (hh hl : BitVec 64) (w : World) : Calls Try.prog 5 #[.int .i64 x, .agg #[.int .u64 (uv c.vh), .int .u64 (uv c.vl), .int .u64 (uv c.ch), .int .u64 (uv c.cl)], .agg #[.int .u64 (uv hh), .int .u64 (uv hl)]] w fun e w' => e = .returned (.bool true) ∧ Below w.heap.size w w' := by
  have HB0 := Lib.hid (below2 w (.cells #[.int .u64 (uv c.vh), .int .u64 (uv c.vl), .int .u64 (uv c.ch), .int .u64 (uv c.cl)] 27) (.cells #[.int .u64 (uv hh), .int .u64 (uv hl)] 25))
  have HC0 : Hid (Blk ((w.alloc (.cells #[.int .u64 (uv c.vh), .int .u64 (uv c.vl), .int .u64 (uv c.ch), .int .u64 (uv c.cl)] 27)).alloc (.cells #[.int .u64 (uv hh), .int .u64 (uv hl)] 25)) w.heap.size 27 #[.int .u64 (uv c.vh), .int .u64 (uv c.vl), .int .u64 (uv c.ch), .int .u64 (uv c.cl)]) := (Blk.new w _ _).on (below1 _ _)
  have HH0 : Hid (Blk ((w.alloc (.cells #[.int .u64 (uv c.vh), .int .u64 (uv c.vl), .int .u64 (uv c.ch), .int .u64 (uv c.cl)] 27)).alloc (.cells #[.int .u64 (uv hh), .int .u64 (uv hl)] 25)) (w.heap.size + 1) 25 #[.int .u64 (uv hh), .int .u64 (uv hl)]) := by
    have h := Blk.new (w.alloc (.cells #[.int .u64 (uv c.vh), .int .u64 (uv c.vl), .int .u64 (uv c.ch), .int .u64 (uv c.cl)] 27)) 25 #[.int .u64 (uv hh), .int .u64 (uv hl)]
    show Blk _ _ _ _
    simpa using h
  go_enter Try.func5, Try.ntmps5
  go_upto_region 1 with (fail)
  generalize ((w.alloc (.cells #[.int .u64 (uv c.vh), .int .u64 (uv c.vl), .int .u64 (uv c.ch), .int .u64 (uv c.cl)] 27)).alloc (.cells #[.int .u64 (uv hh), .int .u64 (uv hl)] 25)) = w0 at HB0 HC0 HH0 ⊢
  generalize w.heap.size = b0 at HC0 HH0 ⊢
  go_wp2_with fail
  (with_reducible refine (awake12_c _).mono ?_)
  rintro e w1 ⟨rfl, hb⟩
  have HC1 := Lib.hid (HC0.out.on hb)
  have HH1 := Lib.hid (HH0.out.on hb)
  have HB1 := Lib.hid (HB0.out.trans (hb.mono HB0.out.size))
  clear hb HC0 HH0 HB0
  have x0 := (HC1.out.cell 0).trans rfl
  have x1 := (HC1.out.cell 1).trans rfl
  have x2 := (HC1.out.cell 2).trans rfl
  have x3 := (HC1.out.cell 3).trans rfl
  simp only [List.getElem?_toArray, List.getElem?_cons_succ, List.getElem?_cons_zero] at x0 x1 x2 x3
  go_wp2_with fail
  (with_reducible refine (add_nil x c _).mono ?_)
  rintro e w2 ⟨rfl, hb⟩
  have HC2 := Lib.hid (HC1.out.on hb)
  have HH2 := Lib.hid (HH1.out.on hb)
  have HB2 := Lib.hid (HB1.out.trans (hb.mono HB1.out.size))
  clear hb HC1 HH1 HB1 x0 x1 x2 x3
  go_wp2_with fail
  (with_reducible refine (rem_nil x _).mono ?_)
  rintro e w3 ⟨rfl, rfl⟩
  have HC3 := HC2
  have HH3 := HH2
  have HB3 := HB2
  clear HC2 HH2 HB2
  have y0 := (HH3.out.cell 0).trans rfl
  have y1 := (HH3.out.cell 1).trans rfl
  simp only [List.getElem?_toArray, List.getElem?_cons_succ, List.getElem?_cons_zero] at y0 y1
  go_wp2_with fail
  (with_reducible refine (match_nil hh hl _).mono ?_)
  rintro e w4 ⟨rfl, hb⟩
  have HC4 := Lib.hid (HC3.out.on hb)
  have HH4 := Lib.hid (HH3.out.on hb)
  have HB4 := Lib.hid (HB3.out.trans (hb.mono HB3.out.size))
  clear hb HC3 HH3 HB3 y0 y1
  have x0 := (HC4.out.cell 0).trans rfl
  have x1 := (HC4.out.cell 1).trans rfl
  have x2 := (HC4.out.cell 2).trans rfl
  have x3 := (HC4.out.cell 3).trans rfl
  simp only [List.getElem?_toArray, List.getElem?_cons_succ, List.getElem?_cons_zero] at x0 x1 x2 x3
  go_wp2_with fail
  (with_reducible refine (ov_nil c _).mono ?_)
  rintro e w5 ⟨rfl, hb⟩
  have HC5 := Lib.hid (HC4.out.on hb)
  have HH5 := Lib.hid (HH4.out.on hb)
  have HB5 := Lib.hid (HB4.out.trans (hb.mono HB4.out.size))
  clear hb HC4 HH4 HB4 x0 x1 x2 x3
  go_wp2_with fail
  (with_reducible refine (len_nil _).mono ?_)
  rintro e w6 ⟨rfl, rfl⟩
  have HC6 := HC5
  have HH6 := HH5
  have HB6 := HB5
  clear HC5 HH5 HB5
  go_wp2
  go_ret
  exact ⟨rfl, HB6.out⟩
end Go.Proofs

namespace Go.Proofs.Ytgoieipchhamgaa
open Go.ChangeShapes Go.WideShapes Go.ChangeAt Go.RowKit Go.Joins Go.Proofs.Hd

set_option maxRecDepth 100000 in
theorem tnn_lifted (os : Os) (started : os.Started) (H : Type) (enc : TypeId × Value → H) :
    ReturnsInHanded {} Try.checked os 5 .any (Rows.trieNoneSpec.pre6 enc Try.prog Try.f5 Rows.trieNoneRow.domain false) (Rows.trieNoneSpec.post enc Try.prog Try.f5 false true false false) := by
  refine returnsInHanded_of_change (C := Try.checked) own started (by kernel_rfl) Try.func5
    (ChangeSpec.witness6 (enc := enc) (C := Try.checked) false ⟨#[], #[.int .i64 0, .agg #[.int .u64 0, .int .u64 0, .int .u64 0, .int .u64 0], .agg #[.int .u64 0, .int .u64 0]], []⟩ 8 (by kernel_rfl) (by kernel_rfl) (by kernel_rfl) (by kernel_rfl)) ?_
  intro W base args ds gs before hval0 hW hcnd _
  have hval : ∀ (j : Nat) t v, Try.f5.params[j]? = some t → args[j]? = some v → Value.okWide Try.prog W .any base t v := hval0
  have hW' := hW
  obtain ⟨p, q, hA0, hV, rfl, hfz, hnd⟩ := hW
  have hA : DataW.TrodAll enc Try.prog W 0 (fun _ => true) true Try.f5.params.toList args.toList ds p := hA0
  rw [Try.params5] at hA hval
  obtain ⟨v0, vs0, d0, ds0, p0, q0, hargs, rfl, rfl, h0, r0⟩ := trodAll_cons hA
  obtain ⟨v1, vs1, d1, ds1, p1, q1, rfl, rfl, rfl, h1, r1⟩ := trodAll_cons r0
  obtain ⟨v2, vs2, d2, ds2, p2, q2, rfl, rfl, rfl, h2, r2⟩ := trodAll_cons r1
  obtain ⟨rfl, rfl, rfl⟩ := trodAll_nil r2
  obtain rfl : args = #[v0, v1, v2] := by cases args; simp_all
  obtain ⟨rfl, rfl⟩ := trodVars_none hV
  obtain ⟨i, rfl, rfl, rfl, wf0⟩ := open_int Try.underlying3 (hval 0 3 v0 rfl rfl) h0
  obtain ⟨mvh, mvl, mch, mcl, rfl, rfl, rfl, s1⟩ := open_cube (hval 1 27 v1 rfl rfl) h1
  obtain ⟨hh, hl, rfl, rfl, rfl, s2⟩ := open_head (hval 2 25 v2 rfl rfl) h2
  clear hA0 hval0
  simp only [List.append_nil] at hW'
  obtain ⟨bi1, bi2⟩ := bounds_i64 wf0
  refine (trnone_c i ⟨mvh, mvl, mch, mcl⟩ hh hl W).mono fun e W' ⟨he, hg⟩ => ?_
  subst he
  exact ⟨_, rfl, _, _, _, [], [], [], hW', trodAll_mk1 (shut_bool Try.underlying4 _), (trodAll_cons_mk (shut_int Try.underlying3 wf0) (trodAll_cons_mk (s1 _ _) (trodAll_cons_mk (s2 _ _) trodAll_mk0))), rfl, hg.frame _, (fun h => by cases h)⟩

theorem tnn_holds : Rows.TrieNoneSaid :=
  OpenClaim.holds_of_wide 5 Try.f5 rfl rfl rfl rfl rfl rfl rfl ⟨rfl, rfl, rfl, rfl, rfl⟩ rfl rfl rfl rfl rfl (by kernel_rfl) Try.func5 (by kernel_rfl)
    (of_decide_eq_true (by kernel_rfl)) (by unfold Func.isWrapper; first | (rw [if_pos (by decide +kernel)]; kernel_rfl) | (rw [if_neg (by decide +kernel)]; exact ⟨rfl, rfl⟩))
    (fun os started H enc _ => tnn_lifted os started H enc)
#print axioms tnn_holds
end Go.Proofs.Ytgoieipchhamgaa
