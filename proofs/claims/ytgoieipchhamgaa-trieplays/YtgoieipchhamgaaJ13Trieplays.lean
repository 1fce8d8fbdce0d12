/-
  The row of customhouselaw12.TriePlays: for every input it returns true, and each argument reads as it did. No conditions.
  The law TriePlays. Conditions as each theorem lists them.
-/
import Derived.Test.YtgoieipchhamgaaJ12Trieplays
import Derived.Test.YtgoieipchhamgaaRows
import Derived.Below
namespace Go.Proofs
open Go.RowKit Go.Proofs.Hd Go.Lib
theorem trplays_c (v : Value) (L : List Sp6) (hh hl : BitVec 64) (c : Cb) (w : World) (hv : St w v L) :
    Calls Try.prog 3 #[v, .agg #[.int .u64 (uv hh), .int .u64 (uv hl)], .agg #[.int .u64 (uv c.vh), .int .u64 (uv c.vl), .int .u64 (uv c.ch), .int .u64 (uv c.cl)]] w fun e w' => e = .returned (.bool true) ∧ Below w.heap.size w w' := by
  cases hs : c.snd with
  | true => exact trplays_t v L hh hl c w hs hv
  | false => exact trplays_f v L hh hl c w hs hv
end Go.Proofs

namespace Go.Proofs.Ytgoieipchhamgaa
open Go.ChangeShapes Go.WideShapes Go.ChangeAt Go.RowKit Go.Joins Go.Proofs.Hd

theorem laidOut_tpl : laidOutB Try.prog = true := by kernel_rfl
set_option maxRecDepth 100000 in
theorem tpl_lifted (os : Os) (started : os.Started) (H : Type) (enc : TypeId × Value → H) :
    ReturnsInHanded {} Try.checked os 3 .any (Rows.triePlaysSpec.pre6 enc Try.prog Try.f3 Rows.triePlaysRow.domain false) (Rows.triePlaysSpec.post enc Try.prog Try.f3 false true false false) := by
  refine returnsInHanded_of_change (C := Try.checked) own started (by kernel_rfl) Try.func3
    (ChangeSpec.witness6 (enc := enc) (C := Try.checked) false ⟨#[], #[.slice none 0 0, .agg #[.int .u64 0, .int .u64 0], .agg #[.int .u64 0, .int .u64 0, .int .u64 0, .int .u64 0]], []⟩ 8 (by kernel_rfl) (by kernel_rfl) (by kernel_rfl) (by kernel_rfl)) ?_
  intro W base args ds gs before hval0 hW hcnd _
  have hval : ∀ (j : Nat) t v, Try.f3.params[j]? = some t → args[j]? = some v → Value.okWide Try.prog W .any base t v := hval0
  have hW' := hW
  obtain ⟨p, q, hA0, hV, rfl, hfz, hnd⟩ := hW
  have hA : DataW.TrodAll enc Try.prog W 0 (fun _ => true) true Try.f3.params.toList args.toList ds p := hA0
  rw [Try.params3] at hA hval
  obtain ⟨v0, vs0, d0, ds0, p0, q0, hargs, rfl, rfl, h0, r0⟩ := trodAll_cons hA
  obtain ⟨v1, vs1, d1, ds1, p1, q1, rfl, rfl, rfl, h1, r1⟩ := trodAll_cons r0
  obtain ⟨v2, vs2, d2, ds2, p2, q2, rfl, rfl, rfl, h2, r2⟩ := trodAll_cons r1
  obtain ⟨rfl, rfl, rfl⟩ := trodAll_nil r2
  obtain rfl : args = #[v0, v1, v2] := by cases args; simp_all
  obtain ⟨rfl, rfl⟩ := trodVars_none hV
  have k0 := h0
  have lt0 : ∀ x ∈ p0, x.block < W.heap.size := by obtain ⟨m, hm⟩ := k0; exact DataW.trod_lt m _ _ _ hm
  obtain ⟨yL, py⟩ := open_steps (hval 0 22 v0 rfl rfl) h0
  obtain ⟨hh, hl, rfl, rfl, rfl, s1⟩ := open_head (hval 1 25 v1 rfl rfl) h1
  obtain ⟨mvh, mvl, mch, mcl, rfl, rfl, rfl, s2⟩ := open_cube (hval 2 27 v2 rfl rfl) h2
  clear hA0 hval0
  refine (trplays_c _ yL hh hl ⟨mvh, mvl, mch, mcl⟩ W py).mono fun e W' ⟨he, hg⟩ => ?_
  subst he
  exact ⟨_, rfl, _, _, _, [], _, [], hW', trodAll_mk1 (shut_bool Try.underlying4 _), (trodAll_cons_mk (Below.trod laidOut_tpl (by kernel_rfl) (of_decide_eq_true (by kernel_rfl)) k0 hg lt0) (trodAll_cons_mk (s1 _ _) (trodAll_cons_mk (s2 _ _) trodAll_mk0))), rfl, hg.frame _, (fun h => by cases h)⟩

theorem tpl_holds : Rows.TriePlaysSaid :=
  OpenClaim.holds_of_wide 3 Try.f3 rfl rfl rfl rfl rfl rfl rfl ⟨rfl, rfl, rfl, rfl, rfl⟩ rfl rfl rfl rfl rfl (by kernel_rfl) Try.func3 (by kernel_rfl)
    (of_decide_eq_true (by kernel_rfl)) (by unfold Func.isWrapper; first | (rw [if_pos (by decide +kernel)]; kernel_rfl) | (rw [if_neg (by decide +kernel)]; exact ⟨rfl, rfl⟩))
    (fun os started H enc _ => tpl_lifted os started H enc)
#print axioms tpl_holds
end Go.Proofs.Ytgoieipchhamgaa
