/-
  customhouselaw06.TableSpare returns true for every input, and each argument reads behind the call as before. No conditions.
-/
import Derived.Test.YtmlammdipbkkfaaJ14Tablespare
import Derived.Test.YtmlammdipbkkfaaRows
import Derived.Below
import Derived.SizedLaws
namespace Go.Proofs.Ytmlammdipbkkfaa
open Go.ChangeShapes Go.WideShapes Go.ChangeAt Go.RowKit Go.Joins Go.Proofs.Hd

theorem laidOut_tpr : laidOutB Try.prog = true := by kernel_rfl
set_option maxRecDepth 100000 in
theorem tpr_lifted (os : Os) (started : os.Started) (H : Type) (enc : TypeId × Value → H) :
    ReturnsInHanded {} Try.checked os 7 .any (Rows.tableSpareSpec.pre6 enc Try.prog Try.f7 Rows.tableSpareRow.domain false) (Rows.tableSpareSpec.post enc Try.prog Try.f7 false true false false) := by
  refine returnsInHanded_of_change_sized (C := Try.checked) own started (by kernel_rfl) Try.func7
    (ChangeSpec.witness6 (enc := enc) (C := Try.checked) false ⟨#[], #[.slice none 0 0, .agg #[.int .u64 0, .int .u64 0], .int .u8 0], []⟩ 8 (by kernel_rfl) (by kernel_rfl) (by kernel_rfl) (by kernel_rfl)) ?_
  intro W base args ds gs before hval0 hW hcnd hsz _
  have hval : ∀ (j : Nat) t v, Try.f7.params[j]? = some t → args[j]? = some v → Value.okWide Try.prog W .any base t v := hval0
  have hW' := hW
  obtain ⟨p, q, hA0, hV, rfl, hfz, hnd⟩ := hW
  have hA : DataW.TrodAll enc Try.prog W 0 (fun _ => true) true Try.f7.params.toList args.toList ds p := hA0
  rw [Try.params7] at hA hval
  obtain ⟨v0, vs0, d0, ds0, p0, q0, hargs, rfl, rfl, h0, r0⟩ := trodAll_cons hA
  obtain ⟨v1, vs1, d1, ds1, p1, q1, rfl, rfl, rfl, h1, r1⟩ := trodAll_cons r0
  obtain ⟨v2, vs2, d2, ds2, p2, q2, rfl, rfl, rfl, h2, r2⟩ := trodAll_cons r1
  obtain ⟨rfl, rfl, rfl⟩ := trodAll_nil r2
  obtain rfl : args = #[v0, v1, v2] := by cases args; simp_all
  obtain ⟨rfl, rfl⟩ := trodVars_none hV
  have k0 := h0
  have lt0 : ∀ x ∈ p0, x.block < W.heap.size := by obtain ⟨m, hm⟩ := k0; exact DataW.trod_lt m _ _ _ hm
  have kc0 := open_rcap (hval 0 22 v0 rfl rfl) h0
  obtain ⟨lA, lc, lL, rfl, pl, dl⟩ := open_rules (hval 0 22 v0 rfl rfl) h0
  have zl : lL.length ≤ 1466015503658 := by
    rcases dl with e | ⟨el, sp, e1, e2⟩
    · omega
    · subst e1
      have hh := sized_slice hsz (j := 0) (t := 22) (by rw [Try.params7]; rfl) rfl Try.underlying22
      have hb : Try.checked.prog.bytesOf 55 = 96 := by kernel_rfl
      have hr : reachBytes ≤ 140737488351232 := by decide
      rw [hb] at hh
      omega
  have cl := kc0 _ _ _ rfl
  obtain ⟨hh, hl, rfl, rfl, rfl, s1⟩ := open_head (hval 1 25 v1 rfl rfl) h1
  obtain ⟨k, rfl, rfl, rfl, wf2⟩ := open_int Try.underlying5 (hval 2 5 v2 rfl rfl) h2
  clear hA0 hval0
  obtain ⟨bk1, bk2⟩ := bounds_u8 wf2
  refine (tpr_c lA lc lL hh hl k W (by omega) (by omega) (by omega) cl pl).mono fun e W' ⟨he, hg⟩ => ?_
  subst he
  exact ⟨_, rfl, _, _, _, [], _, [], hW', trodAll_mk1 (shut_bool Try.underlying4 _), (trodAll_cons_mk (Below.trod laidOut_tpr (by kernel_rfl) (of_decide_eq_true (by kernel_rfl)) k0 hg lt0) (trodAll_cons_mk (s1 _ _) (trodAll_cons_mk (shut_int Try.underlying5 wf2) trodAll_mk0))), rfl, hg.frame _, (fun h => by cases h)⟩

theorem tpr_holds : Rows.TableSpareSaid :=
  OpenClaim.holds_of_wide 7 Try.f7 rfl rfl rfl rfl rfl rfl rfl ⟨rfl, rfl, rfl, rfl, rfl⟩ rfl rfl rfl rfl rfl (by kernel_rfl) Try.func7 (by kernel_rfl)
    (of_decide_eq_true (by kernel_rfl)) (by unfold Func.isWrapper; first | (rw [if_pos (by decide +kernel)]; kernel_rfl) | (rw [if_neg (by decide +kernel)]; exact ⟨rfl, rfl⟩))
    (fun os started H enc _ => tpr_lifted os started H enc)
#print axioms tpr_holds
end Go.Proofs.Ytmlammdipbkkfaa
