/-
  customhouselaw07.TopoNext returns true for every input, and each argument reads behind the call as before. No conditions.
  The law TopoOver's walk. Conditions as the theorem lists them.
  The law TopoNext's walk. Conditions as the theorem lists them.
-/
import Derived.Test.YtgehddklojplpaaJ4
import Derived.Test.YtgehddklojplpaaRows
import Derived.Below
namespace Go.Proofs.Hd
open Go.RowKit
theorem emod_nat {x : Int} {n : Nat} (hx : 0 ≤ x) (hn : 0 < n) : ∃ a : Nat, x.tmod (n : Int) = (a : Int) ∧ a < n := by
  obtain ⟨k, rfl⟩ : ∃ k : Nat, x = (k : Int) := ⟨x.toNat, by omega⟩
  exact ⟨k % n, (Int.ofNat_tmod k n).symm ▸ rfl, Nat.mod_lt _ hn⟩
end Go.Proofs.Hd
namespace Go.Proofs
open Go.RowKit Go.Proofs.Hd Go.Lib
theorem farn_c (tv : Value) (T : List (List Pt)) (a : Nat) (w : World) (hT : PsT w tv T) (hs : sTp T = 0) (ha : a < T.length) : Calls Try.prog 14 #[.agg #[tv], .int .i64 a] w fun e w' => ∃ b c, e = .returned (.tuple #[.slice (some ⟨b, 0, none⟩) T.length c, .int .i64 0]) ∧ (∀ k, k < T.length → w'.cell? ⟨b, k, none⟩ = some (.int .i64 (dst (Gt T) a k))) ∧ Below w.heap.size w w' := by
  refine (far_c tv T a w hT).mono ?_
  rintro e w1 (⟨hz, _⟩ | ⟨_, n, v, hn, _, rfl, hv, hb1⟩)
  · exact absurd (strT_nat hs ha) hz
  · obtain rfl : n = a := by omega
    obtain ⟨b, c, rfl, _, hc⟩ := hv
    exact ⟨b, c, by rw [farL_len], fun k hk => hc k _ (farL_get T n hk), hb1⟩
set_option maxRecDepth 100000 in
set_option maxHeartbeats 4000000 in
theorem tovrl_c (tv : Value) (T : List (List Pt)) (x y z : Int) (w : World) (hT : PsT w tv T) (hx0 : 0 ≤ x) (hx1 : x ≤ 255) (hy0 : 0 ≤ y) (hy1 : y ≤ 255) (hz0 : 0 ≤ z) (hz1 : z ≤ 255) : Calls Try.prog 7 #[.agg #[tv], .int .u8 x, .int .u8 y, .int .u8 z] w fun e w' => e = .returned (.bool true) ∧ Below w.heap.size w w' := by
  have HT := Lib.hid hT
  obtain ⟨A, cap, rfl, htm, -⟩ := hT
  have B0 := below1 w (.cells #[.slice A T.length cap] 24)
  have N0 : Hid (Blk (w.alloc (.cells #[.slice A T.length cap] 24)) w.heap.size 24 #[.slice A T.length cap]) := Blk.new w _ _
  go_enter Try.func7, Try.ntmps7
  go_wp2_with fail
  (with_reducible refine (awake7_c _).mono ?_)
  rintro e w1 ⟨rfl, hb1⟩
  have HB1 := Lib.hid (B0.trans (hb1.mono B0.size))
  have N1 := Lib.hid (N0.out.on hb1)
  have d1 := N1.out.one
  clear hb1 B0 N0
  go_wp2_with fail
  (with_reducible refine (tpsound_c _ T _ (HT.out.on HB1.out)).mono ?_)
  rintro e w2 ⟨rfl, hb2⟩
  have HB2 := Lib.hid (HB1.out.trans (hb2.mono HB1.out.size))
  have N2 := Lib.hid (N1.out.on hb2)
  have d2 := N2.out.one
  clear hb2 HB1 N1 d1
  by_cases hs : sTp T = 0
  · rw [hs]
    have hS := Snd.of hs
    have h6 := hS.n6
    have h1 := hS.n1
    have HS := Lib.hid hS
    have HZ := Lib.hid hs
    have htz : (T.length : Int) ≤ 6 := by omega
    have htz1 : (1 : Int) ≤ (T.length : Int) := by omega
    have htz0 : ¬ (T.length : Int) = 0 := by omega
    have htn0 : ¬ T.length = 0 := by omega
    obtain ⟨a, ea, ha⟩ := emod_nat (n := T.length) hx0 (by omega)
    obtain ⟨b, eb, hb⟩ := emod_nat (n := T.length) hy0 (by omega)
    obtain ⟨c, ec, hc⟩ := emod_nat (n := T.length) hz0 (by omega)
    have wx : IntKind.i64.wrap x = x := by rw [IntKind.wrap_i64]; omega
    have wy : IntKind.i64.wrap y = y := by rw [IntKind.wrap_i64]; omega
    have wz : IntKind.i64.wrap z = z := by rw [IntKind.wrap_i64]; omega
    have wa : IntKind.i64.wrap (a : Int) = (a : Int) := by rw [IntKind.wrap_i64]; omega
    have wb : IntKind.i64.wrap (b : Int) = (b : Int) := by rw [IntKind.wrap_i64]; omega
    have wc : IntKind.i64.wrap (c : Int) = (c : Int) := by rw [IntKind.wrap_i64]; omega
    clear hS hs
    go_wp2_with fail
    go_quiet (fail)
    have HB3 := Lib.hid (bldrewN HB2.out nq)
    have N3 := Lib.hid (N2.out.drewN nq)
    have d3 := N3.out.one
    clear HB2 N2 d2
    generalize w2.drewN nq = w3 at HB3 N3 d3 ⊢
    clear ea eb ec wx wy wz wa wb wc nq
    go_wp2_with fail
    (with_reducible refine (farn_c _ T a _ (HT.out.on HB3.out) HZ.out ha).mono ?_)
    rintro e w4 ⟨fb, fc, rfl, hf, hb4⟩
    have HB4 := Lib.hid (HB3.out.trans (hb4.mono HB3.out.size))
    have N4 := Lib.hid (N3.out.on hb4)
    have d4 := N4.out.one
    have HF := Lib.hid hf
    clear hb4 hf d3 N3 HB3
    go_wp2_with fail
    (with_reducible refine (farn_c _ T b _ (HT.out.on HB4.out) HZ.out hb).mono ?_)
    rintro e w5 ⟨gb, gc, rfl, hg, hb5⟩
    have HB5 := Lib.hid (HB4.out.trans (hb5.mono HB4.out.size))
    have p_b := on_some hb5 (HF.out b hb)
    have p_a := on_some hb5 (HF.out a ha)
    have p_c := on_some hb5 (HF.out c hc)
    have q_a := hg a ha
    have q_c := hg c hc
    have hsym : ∀ i j, dst (Gt T) i j = dst (Gt T) j i := dst_sym (fun b c w g => g.sym HS.out)
    rw [dst_self] at p_a
    rw [hsym b a] at q_a
    have t1 := fun h1 h2 => dst_tri (Gt T) (a := a) (b := b) (c := c) h1 h2
    have t2 := fun h1 h2 => dst_tri (Gt T) (a := a) (b := c) (c := b) h1 h2
    rw [hsym c b] at t2
    have l1 := dst_le HS.out (b := b) ha
    have l2 := dst_le HS.out (b := c) hb
    obtain ⟨Db, hDb⟩ : ∃ D, dst (Gt T) a b = D := ⟨_, rfl⟩
    obtain ⟨Dc, hDc⟩ : ∃ D, dst (Gt T) a c = D := ⟨_, rfl⟩
    obtain ⟨E, hE⟩ : ∃ D, dst (Gt T) b c = D := ⟨_, rfl⟩
    rw [hDb] at p_b q_a t1 t2 l1
    rw [hDc] at p_c t1 t2
    rw [hE] at q_c t1 t2 l2
    have haz : (a : Int) < (T.length : Int) := by omega
    have hbz : (b : Int) < (T.length : Int) := by omega
    have hcz : (c : Int) < (T.length : Int) := by omega
    have hbb : (Db != Db) = false := by simp
    have T1 := Lib.hid t1
    have T2 := Lib.hid t2
    clear hb5 HB4 hg d4 N4 HF hsym t1 t2 hDb hDc hE HT
    go_wp2_with fail
    go_quiet (fail)
    have HB6 := Lib.hid (bldrewN HB5.out nq)
    have p_b := on_some (bldrewN (Below.refl _ w5) nq) p_b
    have p_c := on_some (bldrewN (Below.refl _ w5) nq) p_c
    have q_c := on_some (bldrewN (Below.refl _ w5) nq) q_c
    clear HB5 p_a q_a
    generalize w5.drewN nq = w6 at HB6 p_b p_c q_c ⊢
    by_cases k1 : Db < 0
    · have k1' : ¬ 0 ≤ Db := by omega
      by_cases k2 : Dc < 0
      · go_wp2
        go_ret
        exact ⟨rfl, HB6.out⟩
      · have k3 : E < 0 := by
          by_cases h : E < 0
          · exact h
          · have := T2.out (by omega) (by omega)
            omega
        go_wp2
        go_ret
        exact ⟨rfl, HB6.out⟩
    · have k1' : 0 ≤ Db := by omega
      by_cases k3 : E < 0
      · go_wp2
        go_ret
        exact ⟨rfl, HB6.out⟩
      · obtain ⟨k4, k5⟩ := T1.out (by omega) (by omega)
        have ws : IntKind.i64.wrap (Db + E) = Db + E := by rw [IntKind.wrap_i64]; omega
        have k3' : ¬ E < 0 := k3
        go_wp2_with fail
        go_quiet (fail)
        have HB7 := Lib.hid (bldrewN HB6.out nq)
        clear HB6 p_b p_c q_c
        generalize w6.drewN nq = w7 at HB7 ⊢
        go_wp2
        go_ret
        exact ⟨rfl, HB7.out⟩
  · obtain ⟨q, hq⟩ : ∃ q, sTp T = q := ⟨_, rfl⟩
    rw [hq] at hs ⊢
    clear hq
    go_wp2_with fail
    (with_reducible refine (awake7_c _).mono ?_)
    rintro e w3 ⟨rfl, hb3⟩
    have HB3 := Lib.hid (HB2.out.trans (hb3.mono HB2.out.size))
    clear hb3 HB2 d2
    go_wp2
    go_ret
    exact ⟨rfl, HB3.out⟩
end Go.Proofs

namespace Go.Proofs
open Go.RowKit Go.Proofs.Hd Go.Lib
theorem rfarn_c (tv : Value) (T : List (List Pt)) (a : Nat) (w : World) (hT : PsT w tv T) (hS : Snd T) (ha : a < T.length) : Calls Try.prog 16 #[.agg #[tv], .int .i64 a] w fun e w' => (∃ b c, e = .returned (.slice (some ⟨b, 0, none⟩) T.length c) ∧ (∀ k, k < T.length → w'.cell? ⟨b, k, none⟩ = some (.int .i64 (dst (Gt T) a k)))) ∧ Below w.heap.size w w' := by
  refine (rfar_c tv T a w hT hS ha).mono ?_
  rintro e w1 ⟨v, rfl, ⟨b, c, rfl, _, hc⟩, hb1⟩
  exact ⟨⟨b, c, by rw [farL_len], fun k hk => hc k _ (farL_get T a hk)⟩, hb1⟩
set_option maxRecDepth 100000 in
set_option maxHeartbeats 4000000 in
theorem tnxtl_c (tv : Value) (T : List (List Pt)) (a b : Int) (w : World) (hT : PsT w tv T) : Calls Try.prog 5 #[.agg #[tv], .int .i64 a, .int .i64 b] w fun e w' => e = .returned (.bool true) ∧ Below w.heap.size w w' := by
  have HT := Lib.hid hT
  obtain ⟨A, cap, rfl, htm, hA⟩ := hT
  have HA := Lib.hid hA
  have B0 := below1 w (.cells #[.slice A T.length cap] 24)
  have N0 : Hid (Blk (w.alloc (.cells #[.slice A T.length cap] 24)) w.heap.size 24 #[.slice A T.length cap]) := Blk.new w _ _
  clear hA
  go_enter Try.func5, Try.ntmps5
  go_wp2_with fail
  (with_reducible refine (next_c _ T a b _ (HT.out.on B0)).mono ?_)
  rintro e w1 ⟨hb1, h⟩
  have HB1 := Lib.hid (B0.trans (hb1.mono B0.size))
  have N1 := Lib.hid (N0.out.on hb1)
  have d1 := N1.out.one
  clear hb1 B0 N0
  have hsnd := rtsound_c _ T w1 (HT.out.on HB1.out)
  rcases h with ⟨hz, rfl⟩ | ⟨hz, hab, rfl⟩ | ⟨hz, hab, hbi, rfl⟩ | ⟨n, m, hs, rfl, rfl, hn, hm, hnm, hrest⟩
  · obtain ⟨x, hx⟩ : ∃ x, strT T a = x := ⟨_, rfl⟩
    rw [hx] at hz ⊢
    go_wp2_with fail
    (with_reducible refine hsnd.mono ?_)
    rintro e w2 ⟨rfl, hb2⟩
    have HB2 := Lib.hid (HB1.out.trans (hb2.mono HB1.out.size))
    have d2 := (N1.out.on hb2).one
    clear hb2 HB1 N1 d1 hsnd
    by_cases hs : sTp T = 0
    · rw [hs]
      unfold strT at hx
      rw [if_pos hs] at hx
      have hi : inB a T.length = false := by
        cases h : inB a T.length with
        | false => rfl
        | true => rw [h, if_pos rfl] at hx; exact absurd hx.symm hz
      rw [hi, if_neg (by decide)] at hx
      subst hx
      have hi2 : a < 0 ∨ (T.length : Int) ≤ a := by simp [inB] at hi; omega
      clear hs hz hi
      by_cases h0 : a < 0
      · go_wp2_with fail
        (with_reducible refine (awake7_c _).mono ?_)
        rintro e w3 ⟨rfl, hb3⟩
        have HB3 := Lib.hid (HB2.out.trans (hb3.mono HB2.out.size))
        clear hb3 HB2 d2
        go_wp2
        go_ret
        exact ⟨rfl, HB3.out⟩
      · have h1 : (T.length : Int) ≤ a := by omega
        go_wp2_with fail
        (with_reducible refine (awake7_c _).mono ?_)
        rintro e w3 ⟨rfl, hb3⟩
        have HB3 := Lib.hid (HB2.out.trans (hb3.mono HB2.out.size))
        clear hb3 HB2 d2
        go_wp2
        go_ret
        exact ⟨rfl, HB3.out⟩
    · unfold strT at hx
      rw [if_neg hs] at hx
      rw [hx]
      clear hs hx
      go_wp2_with fail
      (with_reducible refine (awake7_c _).mono ?_)
      rintro e w3 ⟨rfl, hb3⟩
      have HB3 := Lib.hid (HB2.out.trans (hb3.mono HB2.out.size))
      clear hb3 HB2 d2
      go_wp2
      go_ret
      exact ⟨rfl, HB3.out⟩
  · obtain ⟨hs, n, rfl, hn⟩ := strT_zero hz
    subst hab
    rw [hs] at hsnd
    have hnz : ¬ (T.length : Int) ≤ (n : Int) := by omega
    have hnz0 : ¬ (n : Int) < 0 := by omega
    clear hz hs
    go_wp2_with fail
    (with_reducible refine hsnd.mono ?_)
    rintro e w2 ⟨rfl, hb2⟩
    have HB2 := Lib.hid (HB1.out.trans (hb2.mono HB1.out.size))
    have d2 := (N1.out.on hb2).one
    clear hb2 HB1 N1 d1 hsnd
    go_wp2_with fail
    (with_reducible refine (awake7_c _).mono ?_)
    rintro e w3 ⟨rfl, hb3⟩
    have HB3 := Lib.hid (HB2.out.trans (hb3.mono HB2.out.size))
    clear hb3 HB2 d2
    go_wp2
    go_ret
    exact ⟨rfl, HB3.out⟩
  · obtain ⟨hs, n, rfl, hn⟩ := strT_zero hz
    rw [hs] at hsnd
    have hnz : ¬ (T.length : Int) ≤ (n : Int) := by omega
    have hnz0 : ¬ (n : Int) < 0 := by omega
    have hbi2 : b < 0 ∨ (T.length : Int) ≤ b := by simp [inB] at hbi; omega
    clear hz hs hbi
    go_wp2_with fail
    (with_reducible refine hsnd.mono ?_)
    rintro e w2 ⟨rfl, hb2⟩
    have HB2 := Lib.hid (HB1.out.trans (hb2.mono HB1.out.size))
    have d2 := (N1.out.on hb2).one
    clear hb2 HB1 N1 d1 hsnd
    by_cases h0 : b < 0
    · go_wp2_with fail
      (with_reducible refine (awake7_c _).mono ?_)
      rintro e w3 ⟨rfl, hb3⟩
      have HB3 := Lib.hid (HB2.out.trans (hb3.mono HB2.out.size))
      clear hb3 HB2 d2
      go_wp2
      go_ret
      exact ⟨rfl, HB3.out⟩
    · have h1 : (T.length : Int) ≤ b := by omega
      go_wp2_with fail
      (with_reducible refine (awake7_c _).mono ?_)
      rintro e w3 ⟨rfl, hb3⟩
      have HB3 := Lib.hid (HB2.out.trans (hb3.mono HB2.out.size))
      clear hb3 HB2 d2
      go_wp2
      go_ret
      exact ⟨rfl, HB3.out⟩
  · have hS := Snd.of hs
    rw [hs] at hsnd
    have HS := Lib.hid hS
    have HZ := Lib.hid hs
    have hnz : (n : Int) < (T.length : Int) := by omega
    have hmz : (m : Int) < (T.length : Int) := by omega
    have hnz0 : ¬ (n : Int) < 0 := by omega
    have hmz0 : ¬ (m : Int) < 0 := by omega
    have hnz1 : ¬ (T.length : Int) ≤ (n : Int) := by omega
    have hmz1 : ¬ (T.length : Int) ≤ (m : Int) := by omega
    have hnmz : ¬ (n : Int) = (m : Int) := by omega
    have hsym : ∀ i j, dst (Gt T) i j = dst (Gt T) j i := dst_sym (fun b c w g => g.sym hS)
    have HY := Lib.hid hsym
    have hDl := dst_le hS (a := m) (b := n) hm
    obtain ⟨D, hD⟩ : ∃ D, dst (Gt T) m n = D := ⟨_, rfl⟩
    have hDn : dst (Gt T) n m = D := by rw [hsym n m]; exact hD
    rw [hD] at hrest hDl
    have HD := Lib.hid hD
    have HDn := Lib.hid hDn
    clear hS hs hsym hD hDn
    rcases hrest with ⟨hneg, rfl⟩ | ⟨hpos, i, hnx, rfl⟩
    · go_wp2_with fail
      (with_reducible refine hsnd.mono ?_)
      rintro e w2 ⟨rfl, hb2⟩
      have HB2 := Lib.hid (HB1.out.trans (hb2.mono HB1.out.size))
      have N2 := Lib.hid (N1.out.on hb2)
      have d2 := N2.out.one
      clear hb2 HB1 N1 d1 hsnd
      go_wp2_with fail
      (with_reducible refine (rfarn_c _ T n _ (HT.out.on HB2.out) HS.out hn).mono ?_)
      rintro e w3 ⟨⟨fb, fc, rfl, hf⟩, hb3⟩
      have HB3 := Lib.hid (HB2.out.trans (hb3.mono HB2.out.size))
      have p_m := hf m hm
      rw [HDn.out] at p_m
      clear hb3 HB2 N2 d2 hf
      go_wp2_with fail
      (with_reducible refine (awake7_c _).mono ?_)
      rintro e w4 ⟨rfl, hb4⟩
      have HB4 := Lib.hid (HB3.out.trans (hb4.mono HB3.out.size))
      clear hb4 HB3 p_m
      go_wp2
      go_ret
      exact ⟨rfl, HB4.out⟩
    · obtain ⟨L, p0, hL, hp0, hnp, hmin⟩ := hnx
      have hiL := (List.getElem?_eq_some_iff.1 hp0).1
      have hiz : (i : Int) < (L.length : Int) := by omega
      have hiz1 : ¬ (L.length : Int) ≤ (i : Int) := by omega
      have hiz0 : ¬ (i : Int) < 0 := by omega
      have hl6 : L.length ≤ 6 := HS.out.l6 L (List.mem_of_getElem? hL)
      obtain ⟨tb, to, rfl, _, hcc⟩ := HA.out (by rintro rfl; simp at hn)
      obtain ⟨s, hs, A1, c1, rfl, hLm, hA1⟩ := hcc n L hL
      obtain ⟨b1, o1, rfl, _, hpc⟩ := hA1 (by rintro rfl; simp at hp0)
      have HPC := Lib.hid hpc
      have HCS := Lib.hid hs
      have HL := Lib.hid hL
      have HNX := Lib.hid hnp
      have HP0 := Lib.hid hp0
      have HMN := Lib.hid hmin
      have hneg : ¬ D < 0 := by omega
      clear hcc hA1 hpc hs hL hnp hp0 hmin
      go_wp2_with fail
      (with_reducible refine hsnd.mono ?_)
      rintro e w2 ⟨rfl, hb2⟩
      have HB2 := Lib.hid (HB1.out.trans (hb2.mono HB1.out.size))
      have N2 := Lib.hid (N1.out.on hb2)
      have d2 := N2.out.one
      clear hb2 HB1 N1 d1 hsnd
      go_wp2_with fail
      (with_reducible refine (rfarn_c _ T n _ (HT.out.on HB2.out) HS.out hn).mono ?_)
      rintro e w3 ⟨⟨fb, fc, rfl, hf⟩, hb3⟩
      have HB3 := Lib.hid (HB2.out.trans (hb3.mono HB2.out.size))
      have N3 := Lib.hid (N2.out.on hb3)
      have d3 := N3.out.one
      have cs3 := on_some HB3.out HCS.out
      have p_m := hf m hm
      rw [HDn.out] at p_m
      clear hb3 HB2 N2 d2 hf
      go_wp2_with fail
      (with_reducible refine (rfarn_c _ T n _ (HT.out.on HB3.out) HS.out hn).mono ?_)
      rintro e w4 ⟨⟨gb, gc, rfl, hg⟩, hb4⟩
      have HB4 := Lib.hid (HB3.out.trans (hb4.mono HB3.out.size))
      have N4 := Lib.hid (N3.out.on hb4)
      have q_m := hg m hm
      rw [HDn.out] at q_m
      clear hb4 HB3 N3 d3 hg cs3 p_m
      go_wp2
      clear q_m
      go_loopg [11, 12, 13, 14] (i + 1) (fun gk s11 _ _ _ wi => ∃ (k : Nat), k ≤ i + 1 ∧ gk = i + 1 - k ∧ s11 = .int .i64 k ∧ Hid (Blk wi w.heap.size 24 #[.slice (some ⟨tb, to, none⟩) T.length cap]) ∧ Hid (Below w.heap.size w wi))
      case atStart => exact ⟨0, Nat.zero_le _, rfl, rfl, N4, HB4⟩
      case round =>
        clear N4 HB4
        obtain ⟨k, hk, rfl, rfl, N5, HB5⟩ := hrel
        by_cases hki : k ≤ i
        · have hkz : (k : Int) ≤ (i : Int) := by omega
          have hkL : k < L.length := by omega
          have hkLz : (k : Int) < (L.length : Int) := by omega
          obtain ⟨q, hq⟩ : ∃ q, L[k]? = some q := ⟨_, List.getElem?_eq_getElem hkL⟩
          have t5 := N5.out.one
          have cs5 := on_some HB5.out HCS.out
          have hap := (HPC.out k q hq).on HB5.out
          have hbest : (nxt T n m q) ↔ k = i := by
            constructor
            · intro h
              by_cases e : k = i
              · exact e
              · exact absurd h (HMN.out k q (by omega) hq)
            · rintro rfl
              rw [HP0.out] at hq
              injection hq with hq
              rw [← hq]
              exact HNX.out
          by_cases hkd : q.kind = 2
          · obtain ⟨m', j, c', L', e1, e2, e3, hc1, hc2, _, hmL, _⟩ := HS.out.lk n k L q HL.out hq hkd
            have hmT : m' < T.length := (List.getElem?_eq_some_iff.1 hmL).1
            have hg' : Gt T n m' c' := ⟨L, k, q, HL.out, hq, hkd, e1, e3⟩
            have hr0 : 0 ≤ dst (Gt T) m m' := (dst_link (a := m) hg' (by rw [HD.out]; exact hpos)).1
            have hrl := dst_le HS.out (a := m) (b := m') hm
            obtain ⟨R, hR⟩ : ∃ R, dst (Gt T) m' m = R := ⟨_, rfl⟩
            rw [HY.out m m', hR] at hr0 hrl
            have hb2 : R + (c' : Int) = D ↔ k = i := by
              rw [← hbest]
              unfold nxt
              rw [e1, e3, Int.toNat_natCast, HY.out m m', hR, HD.out]
              constructor
              · intro h; exact ⟨hkd, by omega⟩
              · intro h; omega
            have HR := Lib.hid hR
            obtain ⟨kd, tn, pr, sp, co⟩ := q
            simp only at hkd e1 e2 e3
            subst hkd e1 e3
            obtain ⟨c0, c1', c2, c3, c4⟩ := hap
            have hb6 := below1 wr (.cells #[.int .i64 2, .int .i64 tn, .int .i64 (m' : Int), .int .i64 sp, .int .i64 (c' : Int)] 35)
            have HB6 := Lib.hid (HB5.out.trans (hb6.mono HB5.out.size))
            have N6 := Lib.hid (N5.out.on hb6)
            have NP : Hid (Blk (wr.alloc (.cells #[.int .i64 2, .int .i64 tn, .int .i64 (m' : Int), .int .i64 sp, .int .i64 (c' : Int)] 35)) wr.heap.size 35 #[.int .i64 2, .int .i64 tn, .int .i64 (m' : Int), .int .i64 sp, .int .i64 (c' : Int)]) := Blk.new wr _ _
            have t6 := N6.out.one
            have hz5 := N5.out.lt
            have hz5n := Nat.ne_of_lt hz5
            clear hb6 HB5 N5 hq hbest hmL hg' hR e2
            go_wp2_with fail
            (with_reducible refine (rfarn_c _ T m' _ (HT.out.on HB6.out) HS.out hmT).mono ?_)
            rintro e w7 ⟨⟨hb, hc, rfl, hh⟩, hb7⟩
            have HB7 := Lib.hid (HB6.out.trans (hb7.mono HB6.out.size))
            have N7 := Lib.hid (N6.out.on hb7)
            have r_m := hh m hm
            rw [HR.out] at r_m
            obtain ⟨y0, y1, y2, y3, y4⟩ := (NP.out.on hb7).five
            have ws : IntKind.i64.wrap (R + (c' : Int)) = R + (c' : Int) := by rw [IntKind.wrap_i64]; omega
            clear hb7 HB6 N6 hh t6 t5 cs5 hz5 hz5n c0 c1' c2 c3 c4 NP
            by_cases hke : k = i
            · have hz : R + (c' : Int) = D := hb2.2 hke
              have hzb : (R + (c' : Int) == D) = true := by simp [hz]
              subst hke
              clear hb2
              go_wp2
              go_roundg (k + 1 - (k + 1))
              case measure => omega
              case rel => exact ⟨k + 1, by omega, rfl, by go_num, N7, HB7⟩
            · have hz : ¬ R + (c' : Int) = D := fun h => hke (hb2.1 h)
              have hzb : (R + (c' : Int) == D) = false := beq_false_of_ne hz
              have hkez : ¬ (k : Int) = (i : Int) := by omega
              have hkeb : ((k : Int) == (i : Int)) = false := beq_false_of_ne hkez
              have hkebn : (k == i) = false := beq_false_of_ne hke
              clear hb2
              go_wp2
              go_roundg (i + 1 - (k + 1))
              case measure => omega
              case rel => exact ⟨k + 1, by omega, rfl, by go_num, N7, HB7⟩
          · have hke : ¬ k = i := fun e => hkd ((hbest.2 e).1)
            have hkez : ¬ (k : Int) = (i : Int) := by omega
            have hkeb : ((k : Int) == (i : Int)) = false := beq_false_of_ne hkez
            have hkebn : (k == i) = false := beq_false_of_ne hke
            obtain ⟨kd, tn, pr, sp, co⟩ := q
            simp only at hkd
            obtain ⟨c0, c1', c2, c3, c4⟩ := hap
            have hb6 := below1 wr (.cells #[.int .i64 kd, .int .i64 tn, .int .i64 pr, .int .i64 sp, .int .i64 co] 35)
            have HB6 := Lib.hid (HB5.out.trans (hb6.mono HB5.out.size))
            have N6 := Lib.hid (N5.out.on hb6)
            clear hb6 HB5 N5 hq hbest
            go_wp2
            go_roundg (i + 1 - (k + 1))
            case measure => omega
            case rel => exact ⟨k + 1, by omega, rfl, by go_num, N6, HB6⟩
        · have hkz : ¬ (k : Int) ≤ (i : Int) := by omega
          go_wp2_with fail
          (with_reducible refine (awake7_c _).mono ?_)
          rintro e w6 ⟨rfl, hb6⟩
          have HB6 := Lib.hid (HB5.out.trans (hb6.mono HB5.out.size))
          clear hb6 HB5
          go_wp2
          go_ret
          exact ⟨rfl, HB6.out⟩
end Go.Proofs

namespace Go.Proofs.Ytgehddklojplpaa
open Go.ChangeShapes Go.WideShapes Go.ChangeAt Go.RowKit Go.Joins Go.Proofs.Hd

theorem laidOut_tnxt : laidOutB Try.prog = true := by kernel_rfl
set_option maxRecDepth 100000 in
theorem tnxt_lifted (os : Os) (started : os.Started) (H : Type) (enc : TypeId × Value → H) :
    ReturnsInHanded {} Try.checked os 5 .any (Rows.topoNextSpec.pre6 enc Try.prog Try.f5 Rows.topoNextRow.domain false) (Rows.topoNextSpec.post enc Try.prog Try.f5 false true false false) := by
  refine returnsInHanded_of_change (C := Try.checked) own started (by kernel_rfl) Try.func5
    (ChangeSpec.witness6 (enc := enc) (C := Try.checked) false ⟨#[], #[.agg #[.slice none 0 0], .int .i64 0, .int .i64 0], []⟩ 8 (by kernel_rfl) (by kernel_rfl) (by kernel_rfl) (by kernel_rfl)) ?_
  intro W base args ds gs before hval0 hW hcnd _
  have hval : ∀ (j : Nat) t v, Try.f5.params[j]? = some t → args[j]? = some v → Value.okWide Try.prog W .any base t v := hval0
  have hW' := hW
  obtain ⟨p, q, hA0, hV, rfl, hfz, hnd⟩ := hW
  have hA : DataW.TrodAll enc Try.prog W 0 (fun _ => true) true Try.f5.params.toList args.toList ds p := hA0
  rw [Try.params5] at hA hval
  obtain ⟨v0, vs0, d0, ds0, p0, q0, hargs, rfl, rfl, h0, r0⟩ := trodAll_cons hA
  obtain ⟨v1, vs1, d1, ds1, p1, q1, rfl, rfl, rfl, h1, r1⟩ := trodAll_cons r0
  obtain ⟨v2, vs2, d2, ds2, p2, q2, rfl, rfl, rfl, h2, r2⟩ := trodAll_cons r1
  obtain ⟨rfl, rfl, rfl⟩ := trodAll_nil r2
  obtain rfl : args = #[v0, v1, v2] := by cases args; simp_all
  obtain ⟨rfl, rfl⟩ := trodVars_none hV
  have k0 := h0
  have lt0 : ∀ x ∈ p0, x.block < W.heap.size := by obtain ⟨m, hm⟩ := k0; exact DataW.trod_lt m _ _ _ hm
  obtain ⟨tV, tT, rfl, pt, dt⟩ := open_topo (hval 0 24 v0 rfl rfl) h0
  obtain ⟨a, rfl, rfl, rfl, wf1⟩ := open_int Try.underlying3 (hval 1 3 v1 rfl rfl) h1
  obtain ⟨b, rfl, rfl, rfl, wf2⟩ := open_int Try.underlying3 (hval 2 3 v2 rfl rfl) h2
  clear hA0 hval0
  obtain ⟨ba1, ba2⟩ := bounds_i64 wf1
  obtain ⟨bb1, bb2⟩ := bounds_i64 wf2
  refine (tnxtl_c tV tT a b W pt).mono fun e W' ⟨he, hg⟩ => ?_
  subst he
  exact ⟨_, rfl, _, _, _, [], _, [], hW', trodAll_mk1 (shut_bool Try.underlying4 _), (trodAll_cons_mk (Below.trod laidOut_tnxt (by kernel_rfl) (of_decide_eq_true (by kernel_rfl)) k0 hg lt0) (trodAll_cons_mk (shut_int Try.underlying3 wf1) (trodAll_cons_mk (shut_int Try.underlying3 wf2) trodAll_mk0))), rfl, hg.frame _, (fun h => by cases h)⟩

theorem tnxt_holds : Rows.TopoNextSaid :=
  OpenClaim.holds_of_wide 5 Try.f5 rfl rfl rfl rfl rfl rfl rfl ⟨rfl, rfl, rfl, rfl, rfl⟩ rfl rfl rfl rfl rfl (by kernel_rfl) Try.func5 (by kernel_rfl)
    (of_decide_eq_true (by kernel_rfl)) (by unfold Func.isWrapper; first | (rw [if_pos (by decide +kernel)]; kernel_rfl) | (rw [if_neg (by decide +kernel)]; exact ⟨rfl, rfl⟩))
    (fun os started H enc _ => tnxt_lifted os started H enc)
#print axioms tnxt_holds
end Go.Proofs.Ytgehddklojplpaa
