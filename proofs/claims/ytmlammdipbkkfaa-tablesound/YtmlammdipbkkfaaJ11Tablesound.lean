/-
  customhouselaw06.TableSound returns true for every input, and each argument reads behind the call as before. No conditions.
  The walks of customhouselaw06.TableFinds and customhouselaw06.TableSound: they return true. Conditions as each theorem lists them.
-/
import Derived.Test.YtmlammdipbkkfaaJ10
import Derived.Test.YtmlammdipbkkfaaRows
import Derived.Below
namespace Go.Proofs
open Go.RowKit Go.Proofs.Hd Go.Sort Go.Shelf Go.Lib
attribute [local go_sem] uv_nonneg
set_option maxHeartbeats 4000000 in
set_option maxRecDepth 100000 in
theorem tfl_c (v : Value) (L : List Rl) (hh hl : BitVec 64) (w : World) (hn : L.length ≤ 4611686018427387904) (hv : Ru w v L) : Calls Try.prog 3 #[v, .agg #[.int .u64 (uv hh), .int .u64 (uv hl)]] w fun e w' => e = .returned (.bool true) ∧ Below w.heap.size w w' := by
  have B0 := below1 w (.cells #[.int .u64 (uv hh), .int .u64 (uv hl)] 25)
  have X0 : Blk (w.alloc (.cells #[.int .u64 (uv hh), .int .u64 (uv hl)] 25)) w.heap.size 25 #[.int .u64 (uv hh), .int .u64 (uv hl)] := Blk.new w _ _
  obtain ⟨A, cap, rfl, _⟩ := hv.form
  have HV := Lib.hid (hv.on B0)
  obtain ⟨z, hz⟩ : ∃ z, fndI L hh hl = z := ⟨_, rfl⟩
  obtain ⟨a, ha⟩ : ∃ a, fz z = a := ⟨_, rfl⟩
  obtain ⟨x, hx⟩ : ∃ x, z.isSome = x := ⟨_, rfl⟩
  have F1 : Hid (∀ W, Ru W (.slice A L.length cap) L → Calls Try.prog 9 #[.slice A L.length cap, .agg #[.int .u64 (uv hh), .int .u64 (uv hl)]] W fun e w' => e = .returned (.tuple #[.int .i64 a, .bool x]) ∧ Below W.heap.size W w') := fun W h => by
    have q := find_c (.slice A L.length cap) L hh hl W hn h
    rw [hz, ha, hx] at q
    exact q
  have F2 : Hid (∀ W, Ru W (.slice A L.length cap) L → Calls Try.prog 10 #[.slice A L.length cap, .agg #[.int .u64 (uv hh), .int .u64 (uv hl)]] W fun e w' => e = .returned (.tuple #[.int .i64 a, .bool x]) ∧ Below W.heap.size W w') := fun W h => by
    have q := rfind_c (.slice A L.length cap) L hh hl W hn h
    rw [hz, ha, hx] at q
    exact q
  have x0 := X0.cell 0
  have x1 := X0.cell 1
  have HX := Lib.hid X0
  clear hv X0 hz ha hx
  go_enter Try.func3, Try.ntmps3
  go_wp2_with fail
  (with_reducible refine (F1.out _ HV.out).mono ?_)
  rintro e w1 ⟨rfl, hb⟩
  have B1 := B0.trans (hb.mono B0.size)
  have HV1 := Lib.hid (HV.out.on hb)
  have HX1 := HX.out.on hb
  have y0 := HX1.cell 0
  have y1 := HX1.cell 1
  clear B0 hb HV HX HX1 x0 x1
  go_wp2_with fail
  (with_reducible refine (F2.out _ HV1.out).mono ?_)
  rintro e w2 ⟨rfl, hb⟩
  have B2 := B1.trans (hb.mono B1.size)
  clear B1 hb HV1 y0 y1
  go_wp2_with fail
  (with_reducible refine (awake6_c _).mono ?_)
  rintro e w3 ⟨rfl, hb⟩
  have B3 := B2.trans (hb.mono B2.size)
  clear B2 hb
  go_wp2
  go_ret
  exact ⟨by simp, B3⟩
set_option maxHeartbeats 4000000 in
theorem tsl_c (v pv : Value) (T : List (List Rl)) (KK : List Int) (w : World) (hv : RuT w v T) (hp : Po w pv KK) : Calls Try.prog 4 #[v, pv] w fun e w' => e = .returned (.bool true) ∧ Below w.heap.size w w' := by
  have HV := Lib.hid hv
  have HP := Lib.hid hp
  obtain ⟨a, ha⟩ : ∃ a, sT T KK = a := ⟨_, rfl⟩
  have F1 : Hid (∀ W, Below w.heap.size w W → Calls Try.prog 12 #[v, pv] W fun e w' => e = .returned (.int .i64 a) ∧ Below W.heap.size W w') := fun W h => by
    have q := tabs_c v pv T KK W (HV.out.on h) (HP.out.on h)
    rw [ha] at q
    exact q
  have F2 : Hid (∀ W, Below w.heap.size w W → Calls Try.prog 13 #[v, pv] W fun e w' => e = .returned (.int .i64 a) ∧ Below W.heap.size W w') := fun W h => by
    have q := rtabs_c v pv T KK W (HV.out.on h) (HP.out.on h)
    rw [ha] at q
    exact q
  clear hv hp ha HV HP
  go_enter Try.func4, Try.ntmps4
  go_wp2_with fail
  (with_reducible refine (awake6_c _).mono ?_)
  rintro e w1 ⟨rfl, B1⟩
  go_wp2_with fail
  (with_reducible refine (F1.out _ B1).mono ?_)
  rintro e w2 ⟨rfl, hb⟩
  have B2 := B1.trans (hb.mono B1.size)
  clear B1 hb
  go_wp2_with fail
  (with_reducible refine (F2.out _ B2).mono ?_)
  rintro e w3 ⟨rfl, hb⟩
  have B3 := B2.trans (hb.mono B2.size)
  clear B2 hb
  go_wp2
  go_ret
  exact ⟨by simp, B3⟩
end Go.Proofs

namespace Go.Proofs.Ytmlammdipbkkfaa
open Go.ChangeShapes Go.WideShapes Go.ChangeAt Go.RowKit Go.Joins Go.Proofs.Hd

theorem laidOut_tsl : laidOutB Try.prog = true := by kernel_rfl
set_option maxRecDepth 100000 in
theorem tsl_lifted (os : Os) (started : os.Started) (H : Type) (enc : TypeId × Value → H) :
    ReturnsInHanded {} Try.checked os 4 .any (Rows.tableSoundSpec.pre6 enc Try.prog Try.f4 Rows.tableSoundRow.domain false) (Rows.tableSoundSpec.post enc Try.prog Try.f4 false true false false) := by
  refine returnsInHanded_of_change (C := Try.checked) own started (by kernel_rfl) Try.func4
    (ChangeSpec.witness6 (enc := enc) (C := Try.checked) false ⟨#[], #[.slice none 0 0, .slice none 0 0], []⟩ 8 (by kernel_rfl) (by kernel_rfl) (by kernel_rfl) (by kernel_rfl)) ?_
  intro W base args ds gs before hval0 hW hcnd _
  have hval : ∀ (j : Nat) t v, Try.f4.params[j]? = some t → args[j]? = some v → Value.okWide Try.prog W .any base t v := hval0
  have hW' := hW
  obtain ⟨p, q, hA0, hV, rfl, hfz, hnd⟩ := hW
  have hA : DataW.TrodAll enc Try.prog W 0 (fun _ => true) true Try.f4.params.toList args.toList ds p := hA0
  rw [Try.params4] at hA hval
  obtain ⟨v0, vs0, d0, ds0, p0, q0, hargs, rfl, rfl, h0, r0⟩ := trodAll_cons hA
  obtain ⟨v1, vs1, d1, ds1, p1, q1, rfl, rfl, rfl, h1, r1⟩ := trodAll_cons r0
  obtain ⟨rfl, rfl, rfl⟩ := trodAll_nil r1
  obtain rfl : args = #[v0, v1] := by cases args; simp_all
  obtain ⟨rfl, rfl⟩ := trodVars_none hV
  have k0 := h0
  have lt0 : ∀ x ∈ p0, x.block < W.heap.size := by obtain ⟨m, hm⟩ := k0; exact DataW.trod_lt m _ _ _ hm
  obtain ⟨tT, pt⟩ := open_tables (hval 0 30 v0 rfl rfl) h0
  have k1 := h1
  have lt1 : ∀ x ∈ p1, x.block < W.heap.size := by obtain ⟨m, hm⟩ := k1; exact DataW.trod_lt m _ _ _ hm
  obtain ⟨pA, pc, pK, rfl, pp⟩ := open_ports (hval 1 31 v1 rfl rfl) h1
  clear hA0 hval0
  refine (tsl_c _ _ tT pK W pt pp).mono fun e W' ⟨he, hg⟩ => ?_
  subst he
  exact ⟨_, rfl, _, _, _, [], _, [], hW', trodAll_mk1 (shut_bool Try.underlying4 _), (trodAll_cons_mk (Below.trod laidOut_tsl (by kernel_rfl) (of_decide_eq_true (by kernel_rfl)) k0 hg lt0) (trodAll_cons_mk (Below.trod laidOut_tsl (by kernel_rfl) (of_decide_eq_true (by kernel_rfl)) k1 hg lt1) trodAll_mk0)), rfl, hg.frame _, (fun h => by cases h)⟩

theorem tsl_holds : Rows.TableSoundSaid :=
  OpenClaim.holds_of_wide 4 Try.f4 rfl rfl rfl rfl rfl rfl rfl ⟨rfl, rfl, rfl, rfl, rfl⟩ rfl rfl rfl rfl rfl (by kernel_rfl) Try.func4 (by kernel_rfl)
    (of_decide_eq_true (by kernel_rfl)) (by unfold Func.isWrapper; first | (rw [if_pos (by decide +kernel)]; kernel_rfl) | (rw [if_neg (by decide +kernel)]; exact ⟨rfl, rfl⟩))
    (fun os started H enc _ => tsl_lifted os started H enc)
#print axioms tsl_holds
end Go.Proofs.Ytmlammdipbkkfaa
