/-
  customhouselaw07.TopoOver returns true for every input, and each argument reads behind the call as before. No conditions.
  The law TopoOver's walk. Conditions as the theorem lists them.
-/
import Derived.Test.YtgehddklojplpaaJ4
import Derived.Test.YtgehddklojplpaaRows
import Derived.Below
namespace Go.Proofs.Hd
open Go.RowKit
theorem emod_nat {x : Int} {n : Nat} (hx : 0 ≤ x) (hn : 0 < n) : ∃ a : Nat, x.tmod (n : Int) = (a : Int) ∧ a < n := by
  obtain ⟨k, rfl⟩ : ∃ k : Nat, x = (k : Int) := ⟨x.toNat, by omega⟩
  exact ⟨k % n, (Int.ofNat_tmod k n).symm ▸ rfl, Nat.mod_lt _ hn⟩
end Go.Proofs.Hd
namespace Go.Proofs
open Go.RowKit Go.Proofs.Hd Go.Lib
theorem farn_c (tv : Value) (T : List (List Pt)) (a : Nat) (w : World) (hT : PsT w tv T) (hs : sTp T = 0) (ha : a < T.length) : Calls Try.prog 14 #[.agg #[tv], .int .i64 a] w fun e w' => ∃ b c, e = .returned (.tuple #[.slice (some ⟨b, 0, none⟩) T.length c, .int .i64 0]) ∧ (∀ k, k < T.length → w'.cell? ⟨b, k, none⟩ = some (.int .i64 (dst (Gt T) a k))) ∧ Below w.heap.size w w' := by
  refine (far_c tv T a w hT).mono ?_
  rintro e w1 (⟨hz, _⟩ | ⟨_, n, v, hn, _, rfl, hv, hb1⟩)
  · exact absurd (strT_nat hs ha) hz
  · obtain rfl : n = a := by omega
    obtain ⟨b, c, rfl, _, hc⟩ := hv
    exact ⟨b, c, by rw [farL_len], fun k hk => hc k _ (farL_get T n hk), hb1⟩
set_option maxRecDepth 100000 in
set_option maxHeartbeats 4000000 in
theorem tovrl_c (tv : Value) (T : List (List Pt)) (x y z : Int) (w : World) (hT : PsT w tv T) (hx0 : 0 ≤ x) (hx1 : x ≤ 255) (hy0 : 0 ≤ y) (hy1 : y ≤ 255) (hz0 : 0 ≤ z) (hz1 : z ≤ 255) : Calls Try.prog 7 #[.agg #[tv], .int .u8 x, .int .u8 y, .int .u8 z] w fun e w' => e = .returned (.bool true) ∧ Below w.heap.size w w' := by
  have HT := Lib.hid hT
  obtain ⟨A, cap, rfl, htm, -⟩ := hT
  have B0 := below1 w (.cells #[.slice A T.length cap] 24)
  have N0 : Hid (Blk (w.alloc (.cells #[.slice A T.length cap] 24)) w.heap.size 24 #[.slice A T.length cap]) := Blk.new w _ _
  go_enter Try.func7, Try.ntmps7
  go_wp2_with fail
  (with_reducible refine (awake7_c _).mono ?_)
  rintro e w1 ⟨rfl, hb1⟩
  have HB1 := Lib.hid (B0.trans (hb1.mono B0.size))
  have N1 := Lib.hid (N0.out.on hb1)
  have d1 := N1.out.one
  clear hb1 B0 N0
  go_wp2_with fail
  (with_reducible refine (tpsound_c _ T _ (HT.out.on HB1.out)).mono ?_)
  rintro e w2 ⟨rfl, hb2⟩
  have HB2 := Lib.hid (HB1.out.trans (hb2.mono HB1.out.size))
  have N2 := Lib.hid (N1.out.on hb2)
  have d2 := N2.out.one
  clear hb2 HB1 N1 d1
  by_cases hs : sTp T = 0
  · rw [hs]
    have hS := Snd.of hs
    have h6 := hS.n6
    have h1 := hS.n1
    have HS := Lib.hid hS
    have HZ := Lib.hid hs
    have htz : (T.length : Int) ≤ 6 := by omega
    have htz1 : (1 : Int) ≤ (T.length : Int) := by omega
    have htz0 : ¬ (T.length : Int) = 0 := by omega
    have htn0 : ¬ T.length = 0 := by omega
    obtain ⟨a, ea, ha⟩ := emod_nat (n := T.length) hx0 (by omega)
    obtain ⟨b, eb, hb⟩ := emod_nat (n := T.length) hy0 (by omega)
    obtain ⟨c, ec, hc⟩ := emod_nat (n := T.length) hz0 (by omega)
    have wx : IntKind.i64.wrap x = x := by rw [IntKind.wrap_i64]; omega
    have wy : IntKind.i64.wrap y = y := by rw [IntKind.wrap_i64]; omega
    have wz : IntKind.i64.wrap z = z := by rw [IntKind.wrap_i64]; omega
    have wa : IntKind.i64.wrap (a : Int) = (a : Int) := by rw [IntKind.wrap_i64]; omega
    have wb : IntKind.i64.wrap (b : Int) = (b : Int) := by rw [IntKind.wrap_i64]; omega
    have wc : IntKind.i64.wrap (c : Int) = (c : Int) := by rw [IntKind.wrap_i64]; omega
    clear hS hs
    go_wp2_with fail
    go_quiet (fail)
    have HB3 := Lib.hid (bldrewN HB2.out nq)
    have N3 := Lib.hid (N2.out.drewN nq)
    have d3 := N3.out.one
    clear HB2 N2 d2
    generalize w2.drewN nq = w3 at HB3 N3 d3 ⊢
    clear ea eb ec wx wy wz wa wb wc nq
    go_wp2_with fail
    (with_reducible refine (farn_c _ T a _ (HT.out.on HB3.out) HZ.out ha).mono ?_)
    rintro e w4 ⟨fb, fc, rfl, hf, hb4⟩
    have HB4 := Lib.hid (HB3.out.trans (hb4.mono HB3.out.size))
    have N4 := Lib.hid (N3.out.on hb4)
    have d4 := N4.out.one
    have HF := Lib.hid hf
    clear hb4 hf d3 N3 HB3
    go_wp2_with fail
    (with_reducible refine (farn_c _ T b _ (HT.out.on HB4.out) HZ.out hb).mono ?_)
    rintro e w5 ⟨gb, gc, rfl, hg, hb5⟩
    have HB5 := Lib.hid (HB4.out.trans (hb5.mono HB4.out.size))
    have p_b := on_some hb5 (HF.out b hb)
    have p_a := on_some hb5 (HF.out a ha)
    have p_c := on_some hb5 (HF.out c hc)
    have q_a := hg a ha
    have q_c := hg c hc
    have hsym : ∀ i j, dst (Gt T) i j = dst (Gt T) j i := dst_sym (fun b c w g => g.sym HS.out)
    rw [dst_self] at p_a
    rw [hsym b a] at q_a
    have t1 := fun h1 h2 => dst_tri (Gt T) (a := a) (b := b) (c := c) h1 h2
    have t2 := fun h1 h2 => dst_tri (Gt T) (a := a) (b := c) (c := b) h1 h2
    rw [hsym c b] at t2
    have l1 := dst_le HS.out (b := b) ha
    have l2 := dst_le HS.out (b := c) hb
    obtain ⟨Db, hDb⟩ : ∃ D, dst (Gt T) a b = D := ⟨_, rfl⟩
    obtain ⟨Dc, hDc⟩ : ∃ D, dst (Gt T) a c = D := ⟨_, rfl⟩
    obtain ⟨E, hE⟩ : ∃ D, dst (Gt T) b c = D := ⟨_, rfl⟩
    rw [hDb] at p_b q_a t1 t2 l1
    rw [hDc] at p_c t1 t2
    rw [hE] at q_c t1 t2 l2
    have haz : (a : Int) < (T.length : Int) := by omega
    have hbz : (b : Int) < (T.length : Int) := by omega
    have hcz : (c : Int) < (T.length : Int) := by omega
    have hbb : (Db != Db) = false := by simp
    have T1 := Lib.hid t1
    have T2 := Lib.hid t2
    clear hb5 HB4 hg d4 N4 HF hsym t1 t2 hDb hDc hE HT
    go_wp2_with fail
    go_quiet (fail)
    have HB6 := Lib.hid (bldrewN HB5.out nq)
    have p_b := on_some (bldrewN (Below.refl _ w5) nq) p_b
    have p_c := on_some (bldrewN (Below.refl _ w5) nq) p_c
    have q_c := on_some (bldrewN (Below.refl _ w5) nq) q_c
    clear HB5 p_a q_a
    generalize w5.drewN nq = w6 at HB6 p_b p_c q_c ⊢
    by_cases k1 : Db < 0
    · have k1' : ¬ 0 ≤ Db := by omega
      by_cases k2 : Dc < 0
      · go_wp2
        go_ret
        exact ⟨rfl, HB6.out⟩
      · have k3 : E < 0 := by
          by_cases h : E < 0
          · exact h
          · have := T2.out (by omega) (by omega)
            omega
        go_wp2
        go_ret
        exact ⟨rfl, HB6.out⟩
    · have k1' : 0 ≤ Db := by omega
      by_cases k3 : E < 0
      · go_wp2
        go_ret
        exact ⟨rfl, HB6.out⟩
      · obtain ⟨k4, k5⟩ := T1.out (by omega) (by omega)
        have ws : IntKind.i64.wrap (Db + E) = Db + E := by rw [IntKind.wrap_i64]; omega
        have k3' : ¬ E < 0 := k3
        go_wp2_with fail
        go_quiet (fail)
        have HB7 := Lib.hid (bldrewN HB6.out nq)
        clear HB6 p_b p_c q_c
        generalize w6.drewN nq = w7 at HB7 ⊢
        go_wp2
        go_ret
        exact ⟨rfl, HB7.out⟩
  · obtain ⟨q, hq⟩ : ∃ q, sTp T = q := ⟨_, rfl⟩
    rw [hq] at hs ⊢
    clear hq
    go_wp2_with fail
    (with_reducible refine (awake7_c _).mono ?_)
    rintro e w3 ⟨rfl, hb3⟩
    have HB3 := Lib.hid (HB2.out.trans (hb3.mono HB2.out.size))
    clear hb3 HB2 d2
    go_wp2
    go_ret
    exact ⟨rfl, HB3.out⟩
end Go.Proofs

namespace Go.Proofs.Ytgehddklojplpaa
open Go.ChangeShapes Go.WideShapes Go.ChangeAt Go.RowKit Go.Joins Go.Proofs.Hd

theorem laidOut_tovr : laidOutB Try.prog = true := by kernel_rfl
set_option maxRecDepth 100000 in
theorem tovr_lifted (os : Os) (started : os.Started) (H : Type) (enc : TypeId × Value → H) :
    ReturnsInHanded {} Try.checked os 7 .any (Rows.topoOverSpec.pre6 enc Try.prog Try.f7 Rows.topoOverRow.domain false) (Rows.topoOverSpec.post enc Try.prog Try.f7 false true false false) := by
  refine returnsInHanded_of_change (C := Try.checked) own started (by kernel_rfl) Try.func7
    (ChangeSpec.witness6 (enc := enc) (C := Try.checked) false ⟨#[], #[.agg #[.slice none 0 0], .int .u8 0, .int .u8 0, .int .u8 0], []⟩ 8 (by kernel_rfl) (by kernel_rfl) (by kernel_rfl) (by kernel_rfl)) ?_
  intro W base args ds gs before hval0 hW hcnd _
  have hval : ∀ (j : Nat) t v, Try.f7.params[j]? = some t → args[j]? = some v → Value.okWide Try.prog W .any base t v := hval0
  have hW' := hW
  obtain ⟨p, q, hA0, hV, rfl, hfz, hnd⟩ := hW
  have hA : DataW.TrodAll enc Try.prog W 0 (fun _ => true) true Try.f7.params.toList args.toList ds p := hA0
  rw [Try.params7] at hA hval
  obtain ⟨v0, vs0, d0, ds0, p0, q0, hargs, rfl, rfl, h0, r0⟩ := trodAll_cons hA
  obtain ⟨v1, vs1, d1, ds1, p1, q1, rfl, rfl, rfl, h1, r1⟩ := trodAll_cons r0
  obtain ⟨v2, vs2, d2, ds2, p2, q2, rfl, rfl, rfl, h2, r2⟩ := trodAll_cons r1
  obtain ⟨v3, vs3, d3, ds3, p3, q3, rfl, rfl, rfl, h3, r3⟩ := trodAll_cons r2
  obtain ⟨rfl, rfl, rfl⟩ := trodAll_nil r3
  obtain rfl : args = #[v0, v1, v2, v3] := by cases args; simp_all
  obtain ⟨rfl, rfl⟩ := trodVars_none hV
  have k0 := h0
  have lt0 : ∀ x ∈ p0, x.block < W.heap.size := by obtain ⟨m, hm⟩ := k0; exact DataW.trod_lt m _ _ _ hm
  obtain ⟨tV, tT, rfl, pt, dt⟩ := open_topo (hval 0 24 v0 rfl rfl) h0
  obtain ⟨x, rfl, rfl, rfl, wf1⟩ := open_int Try.underlying5 (hval 1 5 v1 rfl rfl) h1
  obtain ⟨y, rfl, rfl, rfl, wf2⟩ := open_int Try.underlying5 (hval 2 5 v2 rfl rfl) h2
  obtain ⟨z, rfl, rfl, rfl, wf3⟩ := open_int Try.underlying5 (hval 3 5 v3 rfl rfl) h3
  clear hA0 hval0
  obtain ⟨bx1, bx2⟩ := bounds_u8 wf1
  obtain ⟨by1, by2⟩ := bounds_u8 wf2
  obtain ⟨bz1, bz2⟩ := bounds_u8 wf3
  refine (tovrl_c tV tT x y z W pt (by omega) (by omega) (by omega) (by omega) (by omega) (by omega)).mono fun e W' ⟨he, hg⟩ => ?_
  subst he
  exact ⟨_, rfl, _, _, _, [], _, [], hW', trodAll_mk1 (shut_bool Try.underlying4 _), (trodAll_cons_mk (Below.trod laidOut_tovr (by kernel_rfl) (of_decide_eq_true (by kernel_rfl)) k0 hg lt0) (trodAll_cons_mk (shut_int Try.underlying5 wf1) (trodAll_cons_mk (shut_int Try.underlying5 wf2) (trodAll_cons_mk (shut_int Try.underlying5 wf3) trodAll_mk0)))), rfl, hg.frame _, (fun h => by cases h)⟩

theorem tovr_holds : Rows.TopoOverSaid :=
  OpenClaim.holds_of_wide 7 Try.f7 rfl rfl rfl rfl rfl rfl rfl ⟨rfl, rfl, rfl, rfl, rfl⟩ rfl rfl rfl rfl rfl (by kernel_rfl) Try.func7 (by kernel_rfl)
    (of_decide_eq_true (by kernel_rfl)) (by unfold Func.isWrapper; first | (rw [if_pos (by decide +kernel)]; kernel_rfl) | (rw [if_neg (by decide +kernel)]; exact ⟨rfl, rfl⟩))
    (fun os started H enc _ => tovr_lifted os started H enc)
#print axioms tovr_holds
end Go.Proofs.Ytgehddklojplpaa
