/-
  customhouselaw09.WalkPassed returns true for every input, and each argument reads behind the call as before. No conditions.
  The walk of customhouselaw09.WalkPassed: it returns true. Conditions as the theorem lists them.
-/
import Derived.Test.YtgoenjpllepdjaaJ12
import Derived.BigQuiet
import Derived.Test.YtgoenjpllepdjaaRows
import Derived.Below
import Derived.SizedLaws
namespace Go.Proofs
open Go.RowKit Go.Proofs.Hd Go.Lib
attribute [local go_sem] uv_nonneg
attribute [local go_sem high] run_eq2
theorem psd_take {H : List Hp} {k : Nat} {x : Hp} (n : Int) (hx : H[k]? = some x) : psd (H.take (k + 1)) n = (psd (H.take k) n || (x.sw == n)) := by
  unfold psd
  rw [List.take_add_one, hx, List.any_append]
  simp
set_option maxRecDepth 100000 in
set_option maxHeartbeats 8000000 in
theorem wpass_c (fin sw sp n : Int) (A : Option Addr) (c : Nat) (H : List Hp) (w : World) (hH : H.length ≤ 3518437208780) (h1 : Hs w A c H) : Calls Try.prog 5 #[.agg #[.int .i64 fin, .int .i64 sw, .int .i64 sp, .slice A H.length c], .int .i64 n] w fun e w' => e = .returned (.bool true) ∧ Below w.heap.size w w' := by
  have hHz : (H.length : Int) ≤ 3518437208780 := by omega
  have H1 := Lib.hid h1
  clear h1
  have HB0 := Lib.hid (below1 w (.cells #[.int .i64 fin, .int .i64 sw, .int .i64 sp, .slice A H.length c] 54))
  have X0 : Hid (Blk (w.alloc (.cells #[.int .i64 fin, .int .i64 sw, .int .i64 sp, .slice A H.length c] 54)) w.heap.size 54 #[.int .i64 fin, .int .i64 sw, .int .i64 sp, .slice A H.length c]) := Blk.new w _ _
  go_enter Try.func5, Try.ntmps5
  go_upto_region 1 with (fail)
  generalize (w.alloc (.cells #[.int .i64 fin, .int .i64 sw, .int .i64 sp, .slice A H.length c] 54)) = w1 at HB0 X0 ⊢
  obtain ⟨x0, x1, x2, x3⟩ := quad X0.out
  go_wp2
  go_loopg [5, 6] H.length (fun gk s5 s6 wr => ∃ k : Nat, k ≤ H.length ∧ gk = H.length - k ∧ s6 = .int .i64 k ∧ s5 = .bool (psd (H.take k) n) ∧ Hid (Below w1.heap.size w1 wr))
  case atStart => exact ⟨0, Nat.zero_le _, rfl, rfl, rfl, Below.refl _ _⟩
  case round =>
    clear x0 x1 x2 x3
    obtain ⟨k, hk, rfl, rfl, rfl, HB⟩ := hrel
    obtain ⟨x0, x1, x2, x3⟩ := quad (X0.out.on HB.out)
    by_cases hlt : k < H.length
    · have hltz : (k : Int) < (H.length : Int) := by omega
      obtain ⟨x, hx⟩ : ∃ x, H[k]? = some x := ⟨_, List.getElem?_eq_getElem hlt⟩
      have hw := HB0.out.trans (HB.out.mono HB0.out.size)
      obtain ⟨b, o, rfl, -, c0, c1, c2, c3, c4⟩ := Hs.at (H1.out.on hw) hx
      have HP := Lib.hid (psd_take n hx)
      clear hw hx H1 c1 c2 c3 c4
      cases hp : psd (H.take k) n with
      | true =>
        go_wp2
        go_roundg (H.length - (k + 1))
        case measure => omega
        case rel => exact ⟨k + 1, by omega, rfl, by go_num, by rw [HP.out, hp]; rfl, HB⟩
      | false =>
        go_wp2
        go_roundg (H.length - (k + 1))
        case measure => omega
        case rel => exact ⟨k + 1, by omega, rfl, by go_num, by rw [HP.out, hp]; rfl, HB⟩
    · have hltz : ¬ (k : Int) < (H.length : Int) := by omega
      obtain rfl : k = H.length := by omega
      rw [List.take_length]
      obtain ⟨q, hq⟩ : ∃ q, psd H n = q := ⟨_, rfl⟩
      rw [hq]
      have HQ := Lib.hid hq
      have HB1 := Lib.hid (HB0.out.trans (HB.out.mono HB0.out.size))
      have X1 := Lib.hid (X0.out.on HB.out)
      clear hq HB HB0 X0
      go_wp2_with fail
      (with_reducible refine (awake9_c _).mono ?_)
      rintro e w2 ⟨rfl, hb⟩
      have HB2 := Lib.hid (HB1.out.trans (hb.mono HB1.out.size))
      have X2 := X1.out.on hb
      clear hb HB1 X1 x0 x1 x2 x3
      obtain ⟨x0, x1, x2, x3⟩ := quad X2
      go_wp2_with fail
      (with_reducible refine (passed_c q _ _ _ n (by omega) (H1.out.on HB2.out) HQ.out).mono ?_)
      rintro e w3 ⟨rfl, hb⟩
      have HB3 := Lib.hid (HB2.out.trans (hb.mono HB2.out.size))
      clear hb HB2 X2 x0 x1 x2 x3
      go_wp2
      go_ret
      exact ⟨by simp, HB3.out⟩
end Go.Proofs

namespace Go.Proofs.Ytgoenjpllepdjaa
open Go.ChangeShapes Go.WideShapes Go.ChangeAt Go.RowKit Go.Joins Go.Proofs.Hd

theorem laidOut_wpass : laidOutB Try.prog = true := by kernel_rfl
set_option maxRecDepth 100000 in
theorem wpass_lifted (os : Os) (started : os.Started) (H : Type) (enc : TypeId × Value → H) :
    ReturnsInHanded {} Try.checked os 5 .any (Rows.walkPassedSpec.pre6 enc Try.prog Try.f5 Rows.walkPassedRow.domain false) (Rows.walkPassedSpec.post enc Try.prog Try.f5 false true false false) := by
  refine returnsInHanded_of_change_sized (C := Try.checked) own started (by kernel_rfl) Try.func5
    (ChangeSpec.witness6 (enc := enc) (C := Try.checked) false ⟨#[], #[.agg #[.int .i64 0, .int .i64 0, .int .i64 0, .slice none 0 0], .int .i64 0], []⟩ 8 (by kernel_rfl) (by kernel_rfl) (by kernel_rfl) (by kernel_rfl)) ?_
  intro W base args ds gs before hval0 hW hcnd hsz _
  have hval : ∀ (j : Nat) t v, Try.f5.params[j]? = some t → args[j]? = some v → Value.okWide Try.prog W .any base t v := hval0
  have hW' := hW
  obtain ⟨p, q, hA0, hV, rfl, hfz, hnd⟩ := hW
  have hA : DataW.TrodAll enc Try.prog W 0 (fun _ => true) true Try.f5.params.toList args.toList ds p := hA0
  rw [Try.params5] at hA hval
  obtain ⟨v0, vs0, d0, ds0, p0, q0, hargs, rfl, rfl, h0, r0⟩ := trodAll_cons hA
  obtain ⟨v1, vs1, d1, ds1, p1, q1, rfl, rfl, rfl, h1, r1⟩ := trodAll_cons r0
  obtain ⟨rfl, rfl, rfl⟩ := trodAll_nil r1
  obtain rfl : args = #[v0, v1] := by cases args; simp_all
  obtain ⟨rfl, rfl⟩ := trodVars_none hV
  have k0 := h0
  have lt0 : ∀ x ∈ p0, x.block < W.heap.size := by obtain ⟨m, hm⟩ := k0; exact DataW.trod_lt m _ _ _ hm
  obtain ⟨rf, rw, rq, rA, rc, rL, rfl, rh, rz⟩ := open_run (hval 0 54 v0 rfl rfl) h0
  have rs := rz fun m hm => by simpa using List.all_eq_true.1 hsz m (DataW.weights_mem_each (j := 0) (t := 54) (by rw [Try.params5]; rfl) rfl m hm)
  obtain ⟨n, rfl, rfl, rfl, wf1⟩ := open_int Try.underlying3 (hval 1 3 v1 rfl rfl) h1
  clear hA0 hval0
  obtain ⟨bn1, bn2⟩ := bounds_i64 wf1
  refine (wpass_c rf rw rq n rA rc rL W rs rh).mono fun e W' ⟨he, hg⟩ => ?_
  subst he
  exact ⟨_, rfl, _, _, _, [], _, [], hW', trodAll_mk1 (shut_bool Try.underlying4 _), (trodAll_cons_mk (Below.trod laidOut_wpass (by kernel_rfl) (of_decide_eq_true (by kernel_rfl)) k0 hg lt0) (trodAll_cons_mk (shut_int Try.underlying3 wf1) trodAll_mk0)), rfl, hg.frame _, (fun h => by cases h)⟩

theorem wpass_holds : Rows.WalkPassedSaid :=
  OpenClaim.holds_of_wide 5 Try.f5 rfl rfl rfl rfl rfl rfl rfl ⟨rfl, rfl, rfl, rfl, rfl⟩ rfl rfl rfl rfl rfl (by kernel_rfl) Try.func5 (by kernel_rfl)
    (of_decide_eq_true (by kernel_rfl)) (by unfold Func.isWrapper; first | (rw [if_pos (by decide +kernel)]; kernel_rfl) | (rw [if_neg (by decide +kernel)]; exact ⟨rfl, rfl⟩))
    (fun os started H enc _ => wpass_lifted os started H enc)
#print axioms wpass_holds
end Go.Proofs.Ytgoenjpllepdjaa
