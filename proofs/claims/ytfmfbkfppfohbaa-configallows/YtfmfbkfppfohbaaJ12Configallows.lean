/-
  customhouselaw08.ConfigAllows returns true for every input, and each argument reads behind the call as before. No conditions.
  Contract of the reference's Vias of layer 8. Conditions as the theorem lists them.
  Contract of package config: Vias. Conditions as the theorem lists them.
  The walk of customhouselaw08.ConfigAllows: it returns true; the reference's Ints at lists that may be nil. Conditions as each theorem lists them.
-/
import Derived.Test.YtfmfbkfppfohbaaJ11
import Derived.Deep.RegionHeld3
import Derived.Deep.DeepCutAuto
import Derived.Test.YtfmfbkfppfohbaaRows
import Derived.Below
import Derived.SizedLaws
namespace Go.Proofs.Hd
open Go.RowKit
/-- Numbers as cells. -/
def icl (F : List Int) : List Value := F.map fun x => Value.int .i64 x
theorem icl_len (F : List Int) : (icl F).length = F.length := by simp [icl]
theorem icl_append (A B : List Int) : icl (A ++ B) = icl A ++ icl B := by simp [icl]
/-- The switches that packets from a to b must pass. -/
def viaL (a b : Int) (Q : List Wa) : List Int := Q.filterMap fun x => if x.frm = a ∧ x.too = b then some x.via else none
theorem viaL_take {a b : Int} {Q : List Wa} {k : Nat} {x : Wa} (h : Q[k]? = some x) : viaL a b (Q.take (k + 1)) = viaL a b (Q.take k) ++ (if x.frm = a ∧ x.too = b then [x.via] else []) := by
  unfold viaL
  rw [List.take_add_one, h, List.filterMap_append]
  congr 1
  by_cases hk : x.frm = a ∧ x.too = b <;> simp [hk]
theorem viaL_len (a b : Int) (Q : List Wa) : (viaL a b Q).length ≤ Q.length := by unfold viaL; exact List.length_filterMap_le _ _
theorem src_int {w : World} {b : Nat} {x : Int} (h : Blk w b 3 #[.int .i64 x]) : Src w 1 (.slice (some ⟨b, 0, none⟩) 1 1) 1 [.int .i64 x] := by
  refine ⟨rfl, by intro u hu; simp at hu; rw [hu]; rfl, .inr ⟨_, 1, rfl, fun j u hu => ?_⟩⟩
  have e : (⟨b, 0, none⟩ : Addr).add j = ⟨b, j, none⟩ := by unfold Addr.add; by_cases h0 : j = 0 <;> simp [h0]
  rw [e, h.cell]
  simpa using hu
/-- Numbers were returned, in memory of the call's own. -/
def GotV (w : World) (F : List Int) (e : Ending) (w' : World) : Prop := ∃ v, e = .returned v ∧ w'.ownsRow w.heap.size 3 1 v F.length (icl F) ∧ Below w.heap.size w w'
end Go.Proofs.Hd
namespace Go.Proofs
open Go.RowKit Go.Proofs.Hd Go.Lib
theorem infoI64 : (Try.prog.info? 3).map (fun i => (i.zero, i.size, i.bytes)) = some (some (.int .i64 0), 1, 8) := by kernel_rfl
set_option maxRecDepth 100000 in
set_option maxHeartbeats 2000000 in
theorem rvias_c (ten : Int) (wv : Value) (pA : Option Addr) (pn pc : Nat) (Q : List Wa) (a b : Int) (w : World) (hQ : Wy w wv Q) (hQl : Q.length ≤ 5864062014805) : Calls Try.prog 12 #[.agg #[.int .i64 ten, .slice pA pn pc, wv], .int .i64 a, .int .i64 b] w (GotV w (viaL a b Q)) := by
  obtain ⟨i1, hi1, hz0, hz1, hz2⟩ := info_parts infoI64
  obtain ⟨A, cap, rfl, hqm, hA⟩ := hQ
  have hqz : (Q.length : Int) ≤ 9223372036854775807 := by unfold maxLen at hqm; omega
  have B0 := Lib.hid (below2 w (.cells #[.int .i64 ten, .slice pA pn pc, .slice A Q.length cap] 28) (.cells #[] 3))
  have N0 : Hid (Blk ((w.alloc (.cells #[.int .i64 ten, .slice pA pn pc, .slice A Q.length cap] 28)).alloc (.cells #[] 3)) w.heap.size 28 #[.int .i64 ten, .slice pA pn pc, .slice A Q.length cap]) := (Blk.new w _ _).on (below1 _ _)
  have O0 : Hid (((w.alloc (.cells #[.int .i64 ten, .slice pA pn pc, .slice A Q.length cap] 28)).alloc (.cells #[] 3)).ownsRow w.heap.size 3 1 (.slice (some ⟨w.heap.size + 1, 0, none⟩) 0 0) (viaL a b (Q.take 0)).length (icl (viaL a b (Q.take 0)))) := by
    have h : ((w.alloc (.cells #[.int .i64 ten, .slice pA pn pc, .slice A Q.length cap] 28)).alloc (.cells #[] 3)).ownsRow w.heap.size 3 1 (.slice (some ⟨(w.alloc (.cells #[.int .i64 ten, .slice pA pn pc, .slice A Q.length cap] 28)).heap.size, 0, none⟩) 0 0) (viaL a b (Q.take 0)).length (icl (viaL a b (Q.take 0))) := World.ownsRow_made (w.alloc (.cells #[.int .i64 ten, .slice pA pn pc, .slice A Q.length cap] 28)) #[] 0 (below1 _ _).size (Nat.zero_le _) rfl
    have e : (w.alloc (.cells #[.int .i64 ten, .slice pA pn pc, .slice A Q.length cap] 28)).heap.size = w.heap.size + 1 := by simp
    rw [e] at h
    exact h
  have HA := Lib.hid hA
  clear hA
  go_enter Try.func12, Try.ntmps12
  go_wp2
  go_loopg [7, 8] Q.length (fun gk s7 s8 wr => ∃ k : Nat, k ≤ Q.length ∧ gk = Q.length - k ∧ s8 = .int .i64 k ∧ Hid (wr.ownsRow w.heap.size 3 1 s7 (viaL a b (Q.take k)).length (icl (viaL a b (Q.take k)))) ∧ Hid (Blk wr w.heap.size 28 #[.int .i64 ten, .slice pA pn pc, .slice A Q.length cap]) ∧ Hid (Below w.heap.size w wr))
  case atStart => exact ⟨0, Nat.zero_le _, rfl, rfl, O0, N0, B0⟩
  case round =>
    clear O0 N0 B0
    obtain ⟨k, hk, rfl, rfl, HO, HN, HB⟩ := hrel
    obtain ⟨d0, d1, d2⟩ := HN.out.three
    by_cases hlt : k < Q.length
    · have hltz : (k : Int) < (Q.length : Int) := by omega
      obtain ⟨x, hx⟩ : ∃ x, Q[k]? = some x := ⟨_, List.getElem?_eq_getElem hlt⟩
      obtain ⟨qb, qo, rfl, _, hc⟩ := HA.out (by rintro rfl; simp at hlt)
      have x0 := on_some HB.out (hc k x hx).1
      have x1 := on_some HB.out (hc k x hx).2.1
      have x2 := on_some HB.out (hc k x hx).2.2
      have hvt := viaL_take (a := a) (b := b) hx
      obtain ⟨fr, tt, vi⟩ := x
      simp only at x0 x1 x2 hvt
      have hlen : (viaL a b (Q.take k)).length ≤ Q.length := Nat.le_trans (viaL_len _ _ _) (by simp; omega)
      obtain ⟨V, hV⟩ : ∃ V, Hid (viaL a b (Q.take k) = V) := ⟨_, rfl⟩
      rw [hV.out] at HO hlen
      have HVT := Lib.hid hvt
      clear hc hx hvt
      cases e1 : fr == a with
      | false =>
        have h1 : ¬ fr = a := by simpa using e1
        have HO2 := HO
        rw [show V = viaL a b (Q.take (k + 1)) from by rw [HVT.out, if_neg (fun h => h1 h.1), List.append_nil, hV.out]] at HO2
        clear HO
        go_wp2
        go_roundg (Q.length - (k + 1))
        case measure => omega
        case rel => exact ⟨k + 1, by omega, rfl, by go_num, HO2, HN, HB⟩
      | true =>
        have h1 : Hid (fr = a) := by show _ = _; simpa using e1
        cases e2 : tt == b with
        | false =>
          have h2 : ¬ tt = b := by simpa using e2
          have HO2 := HO
          rw [show V = viaL a b (Q.take (k + 1)) from by rw [HVT.out, if_neg (fun h => h2 h.2), List.append_nil, hV.out]] at HO2
          clear HO
          go_wp2
          go_roundg (Q.length - (k + 1))
          case measure => omega
          case rel => exact ⟨k + 1, by omega, rfl, by go_num, HO2, HN, HB⟩
        | true =>
          have h2 : Hid (tt = b) := by show _ = _; simpa using e2
          have HE : Hid (viaL a b (Q.take (k + 1)) = V ++ [vi]) := by show _ = _; rw [HVT.out, if_pos ⟨h1.out, h2.out⟩, hV.out]
          have hb2 := below1 wr (.cells #[.int .i64 vi] 3)
          have HB2 := Lib.hid (HB.out.trans (hb2.mono HB.out.size))
          have O2 := own_on HO.out hb2
          have SR := src_int (Blk.new wr 3 #[.int .i64 vi])
          have NB2 := HN.out.on hb2
          have hz3 := HB2.out.size
          clear HO HB hb2 HN HVT
          go_wp2_with (at_builtin; refine wpList_app _ rfl (.tmp 35) (.tmp 42) 36 rfl w.heap.size 3 i1 _ 1 8 Try.underlying36 hi1 hz0 hz1 hz2 rfl (by decide) _ V.length (icl V) rfl O2 _ 1 [.int .i64 vi] rfl SR (by unfold maxLen; omega) (by omega) hz3 ?_)
          intro v3 w3 O3 hg3
          have NB3 := Lib.hid (NB2.grown hg3 (own_apart O2 NB2 (by decide)))
          have HB3 := Lib.hid (HB2.out.grown hg3 hz3 (fun j hj => (O2.lt j hj).1))
          have HO3 : Hid (w3.ownsRow w.heap.size 3 1 v3 (viaL a b (Q.take (k + 1))).length (icl (viaL a b (Q.take (k + 1))))) := by
            show World.ownsRow _ _ _ _ _ _ _
            rw [HE.out, icl_append, List.length_append]; exact O3
          clear O2 SR O3 hg3 HB2 hz3 NB2 d0 d1 d2 x0 x1 x2
          go_wp2
          go_roundg (Q.length - (k + 1))
          case measure => omega
          case rel => exact ⟨k + 1, by omega, rfl, by go_num, HO3, NB3, HB3⟩
    · have hltz : ¬ (k : Int) < (Q.length : Int) := by omega
      obtain rfl : k = Q.length := by omega
      rw [List.take_length] at HO
      go_wp2
      go_ret
      exact ⟨_, rfl, HO.out, HB.out⟩
end Go.Proofs

namespace Go.Proofs
open Go.RowKit Go.Proofs.Hd Go.Lib
set_option maxRecDepth 100000 in
set_option maxHeartbeats 2000000 in
theorem cvias_c (ten : Int) (wv : Value) (pA : Option Addr) (pn pc : Nat) (Q : List Wa) (a b : Int) (w : World) (hQ : Wy w wv Q) (hQl : Q.length ≤ 5864062014805) : Calls Try.prog 11 #[.agg #[.int .i64 ten, .slice pA pn pc, wv], .int .i64 a, .int .i64 b] w (GotV w (viaL a b Q)) := by
  obtain ⟨i1, hi1, hz0, hz1, hz2⟩ := info_parts infoI64
  obtain ⟨A, cap, rfl, hqm, hA⟩ := hQ
  have hqz : (Q.length : Int) ≤ 9223372036854775807 := by unfold maxLen at hqm; omega
  have B0 := Lib.hid (below1 w (.cells #[.int .i64 ten, .slice pA pn pc, .slice A Q.length cap] 28))
  have N0 : Hid (Blk (w.alloc (.cells #[.int .i64 ten, .slice pA pn pc, .slice A Q.length cap] 28)) w.heap.size 28 #[.int .i64 ten, .slice pA pn pc, .slice A Q.length cap]) := Blk.new w _ _
  have O0 : Hid ((w.alloc (.cells #[.int .i64 ten, .slice pA pn pc, .slice A Q.length cap] 28)).ownsRow w.heap.size 3 1 (.slice none 0 0) (viaL a b (Q.take 0)).length (icl (viaL a b (Q.take 0)))) := World.ownsRow_nil _ _ _ _
  have HA := Lib.hid hA
  clear hA
  go_enter Try.func11, Try.ntmps11
  obtain ⟨d0, d1, d2⟩ := N0.out.three
  go_wp2
  clear d0 d1 d2
  go_loopg [7, 9, 13] Q.length (fun gk s7 _ s13 wr => ∃ k : Nat, k ≤ Q.length ∧ gk = Q.length - k ∧ s13 = .int .i64 k ∧ Hid (wr.ownsRow w.heap.size 3 1 s7 (viaL a b (Q.take k)).length (icl (viaL a b (Q.take k)))) ∧ Hid (Below w.heap.size w wr))
  case atStart => exact ⟨0, Nat.zero_le _, rfl, rfl, O0, B0⟩
  case round =>
    clear O0 N0 B0
    obtain ⟨k, hk, rfl, rfl, HO, HB⟩ := hrel
    by_cases hlt : k < Q.length
    · have hltz : (k : Int) < (Q.length : Int) := by omega
      obtain ⟨x, hx⟩ : ∃ x, Q[k]? = some x := ⟨_, List.getElem?_eq_getElem hlt⟩
      obtain ⟨qb, qo, rfl, _, hc⟩ := HA.out (by rintro rfl; simp at hlt)
      have x0 := on_some HB.out (hc k x hx).1
      have x1 := on_some HB.out (hc k x hx).2.1
      have x2 := on_some HB.out (hc k x hx).2.2
      have hvt := viaL_take (a := a) (b := b) hx
      obtain ⟨fr, tt, vi⟩ := x
      simp only at x0 x1 x2 hvt
      have hlen : (viaL a b (Q.take k)).length ≤ Q.length := Nat.le_trans (viaL_len _ _ _) (by simp; omega)
      obtain ⟨V, hV⟩ : ∃ V, Hid (viaL a b (Q.take k) = V) := ⟨_, rfl⟩
      rw [hV.out] at HO hlen
      have HVT := Lib.hid hvt
      have bS := below1 wr (.cells #[.int .i64 fr, .int .i64 tt, .int .i64 vi] 68)
      have nS := Blk.new wr 68 #[.int .i64 fr, .int .i64 tt, .int .i64 vi]
      have OS := Lib.hid (own_on HO.out bS)
      have HBS := Lib.hid (HB.out.trans (bS.mono HB.out.size))
      clear hc hx hvt HO
      go_upto_region 5 with (fail)
      generalize wr.alloc (.cells #[.int .i64 fr, .int .i64 tt, .int .i64 vi] 68) = w5 at bS nS OS HBS ⊢
      obtain ⟨s0, s1, s2⟩ := nS.three
      clear bS nS x0 x1 x2 HB
      cases e1 : fr == a with
      | false =>
        have h1 : ¬ fr = a := by simpa using e1
        have HO2 := OS
        rw [show V = viaL a b (Q.take (k + 1)) from by rw [HVT.out, if_neg (fun h => h1 h.1), List.append_nil, hV.out]] at HO2
        clear OS
        go_wp2
        go_roundg (Q.length - (k + 1))
        case measure => omega
        case rel => exact ⟨k + 1, by omega, rfl, by go_num, HO2, HBS⟩
      | true =>
        have h1 : Hid (fr = a) := by show _ = _; simpa using e1
        cases e2 : tt == b with
        | false =>
          have h2 : ¬ tt = b := by simpa using e2
          have HO2 := OS
          rw [show V = viaL a b (Q.take (k + 1)) from by rw [HVT.out, if_neg (fun h => h2 h.2), List.append_nil, hV.out]] at HO2
          clear OS
          go_wp2
          go_roundg (Q.length - (k + 1))
          case measure => omega
          case rel => exact ⟨k + 1, by omega, rfl, by go_num, HO2, HBS⟩
        | true =>
          have h2 : Hid (tt = b) := by show _ = _; simpa using e2
          have HE : Hid (viaL a b (Q.take (k + 1)) = V ++ [vi]) := by show _ = _; rw [HVT.out, if_pos ⟨h1.out, h2.out⟩, hV.out]
          have hb2 := below1 w5 (.cells #[.int .i64 vi] 3)
          have HB2 := Lib.hid (HBS.out.trans (hb2.mono HBS.out.size))
          have O2 := own_on OS.out hb2
          have SR := src_int (Blk.new w5 3 #[.int .i64 vi])
          have hz3 := HB2.out.size
          clear OS HBS hb2 HVT
          go_wp2_with (at_builtin; refine wpList_app _ rfl (.tmp 27) (.tmp 30) 36 rfl w.heap.size 3 i1 _ 1 8 Try.underlying36 hi1 hz0 hz1 hz2 rfl (by decide) _ V.length (icl V) rfl O2 _ 1 [.int .i64 vi] rfl SR (by unfold maxLen; omega) (by omega) hz3 ?_)
          intro v3 w3 O3 hg3
          have HB3 := Lib.hid (HB2.out.grown hg3 hz3 (fun j hj => (O2.lt j hj).1))
          have HO3 : Hid (w3.ownsRow w.heap.size 3 1 v3 (viaL a b (Q.take (k + 1))).length (icl (viaL a b (Q.take (k + 1))))) := by
            show World.ownsRow _ _ _ _ _ _ _
            rw [HE.out, icl_append, List.length_append]; exact O3
          clear O2 SR O3 hg3 HB2 hz3 s0 s1 s2
          go_wp2
          go_roundg (Q.length - (k + 1))
          case measure => omega
          case rel => exact ⟨k + 1, by omega, rfl, by go_num, HO3, HB3⟩
    · have hltz : ¬ (k : Int) < (Q.length : Int) := by omega
      obtain rfl : k = Q.length := by omega
      rw [List.take_length] at HO
      go_wp2
      go_ret
      exact ⟨_, rfl, HO.out, HB.out⟩
end Go.Proofs

namespace Go.Proofs.Hd
open Go.RowKit
/-- v is a slice, nil let in, that reads as the numbers F. -/
def In8 (w : World) (v : Value) (F : List Int) : Prop := ∃ A cap, v = .slice A F.length cap ∧ (F ≠ [] → ∃ b, A = some ⟨b, 0, none⟩ ∧ ∀ (k : Nat) (x : Int), F[k]? = some x → w.cell? ⟨b, k, none⟩ = some (.int .i64 x))
theorem In8.on {w w' : World} {v : Value} {F : List Int} (h : In8 w v F) (hb : Below w.heap.size w w') : In8 w' v F := by
  obtain ⟨A, cap, e, h⟩ := h
  refine ⟨A, cap, e, fun hne => ?_⟩
  obtain ⟨b, e2, hc⟩ := h hne
  exact ⟨b, e2, fun k x hk => on_some hb (hc k x hk)⟩
theorem In8.of {w : World} {B : Nat} {t : TypeId} {v : Value} {F : List Int} (h : w.ownsRow B t 1 v F.length (icl F)) : In8 w v F := by
  rcases h.2 with ⟨rfl, h0⟩ | ⟨g, cap, cur, rfl, _⟩
  · exact ⟨none, 0, by rw [h0], fun hne => absurd (List.eq_nil_of_length_eq_zero h0) hne⟩
  · refine ⟨_, cap, rfl, fun _ => ⟨g, rfl, fun k x hk => ?_⟩⟩
    have hkl := (List.getElem?_eq_some_iff.1 hk).1
    rw [h.cellAt k (by omega)]
    unfold icl
    rw [List.getElem?_map, hk]
    rfl
end Go.Proofs.Hd
namespace Go.Proofs
open Go.RowKit Go.Proofs.Hd Go.Lib
set_option maxHeartbeats 1000000 in
theorem ints8_c (v u : Value) (F : List Int) (w : World) (hv : In8 w v F) (hu : In8 w u F) (hF : F.length ≤ 1000000) : Calls Try.prog 15 #[v, u] w fun e w' => e = .returned (.bool true) ∧ Below w.heap.size w w' := by
  obtain ⟨A, c, rfl, hc⟩ := hv
  obtain ⟨A2, c2, rfl, hc2⟩ := hu
  have hFz : (F.length : Int) ≤ 1000000 := by omega
  have HC := Lib.hid hc
  have HC2 := Lib.hid hc2
  clear hc hc2
  go_enter Try.func15, Try.ntmps15
  go_wp2
  go_loopg [5] F.length (fun gk s5 wr => ∃ k : Nat, k ≤ F.length ∧ gk = F.length - k ∧ s5 = .int .i64 k ∧ Hid (Below w.heap.size w wr))
  case atStart => exact ⟨0, Nat.zero_le _, rfl, rfl, Below.refl _ _⟩
  case round =>
    obtain ⟨k, hk, rfl, rfl, HB⟩ := hrel
    by_cases hlt : k < F.length
    · have hltz : (k : Int) < (F.length : Int) := by omega
      obtain ⟨x, hx⟩ : ∃ x, F[k]? = some x := ⟨_, List.getElem?_eq_getElem hlt⟩
      obtain ⟨b, rfl, hb⟩ := HC.out (by rintro rfl; simp at hlt)
      obtain ⟨b2, rfl, hb2⟩ := HC2.out (by rintro rfl; simp at hlt)
      have d1 := on_some HB.out (hb k x hx)
      have d2 := on_some HB.out (hb2 k x hx)
      clear hx hb hb2
      go_wp2_with fail
      go_quiet (fail)
      have HB2 := Lib.hid (bldrewN HB.out nq)
      clear d1 d2 HB
      generalize wr.drewN nq = w2 at HB2 ⊢
      go_wp2
      go_roundg (F.length - (k + 1))
      case measure => omega
      case rel => exact ⟨k + 1, by omega, rfl, by go_num, HB2⟩
    · have hltz : ¬ (k : Int) < (F.length : Int) := by omega
      go_wp2
      go_ret
      exact ⟨rfl, HB.out⟩
set_option maxRecDepth 100000 in
set_option maxHeartbeats 8000000 in
theorem call_c (pv wv : Value) (ten : Int) (P : List (Int × Int)) (Q : List Wa) (a b : Int) (w : World) (hP : Pe w pv P) (hQ : Wy w wv Q) (hql : Q.length ≤ 5864062014634) : Calls Try.prog 4 #[.agg #[.int .i64 ten, pv, wv], .int .i64 a, .int .i64 b] w fun e w' => e = .returned (.bool true) ∧ Below w.heap.size w w' := by
  have HP := Lib.hid hP
  have HQ := Lib.hid hQ
  obtain ⟨pA, pc, rfl, hpm, -⟩ := hP
  obtain ⟨wA, wcp, rfl, -, -⟩ := hQ
  have hpz : (P.length : Int) ≤ 9223372036854775807 := by unfold maxLen at hpm; omega
  have hqz : (Q.length : Int) ≤ 5864062014634 := by omega
  clear hpm
  replace hql : Q.length ≤ 5864062014805 := by omega
  have HB1 : Hid (Below w.heap.size w (w.alloc (.cells #[.int .i64 ten, .slice pA P.length pc, .slice wA Q.length wcp] 28))) := below1 w _
  have N1 : Hid (Blk (w.alloc (.cells #[.int .i64 ten, .slice pA P.length pc, .slice wA Q.length wcp] 28)) w.heap.size 28 #[.int .i64 ten, .slice pA P.length pc, .slice wA Q.length wcp]) := Blk.new w _ _
  go_enter Try.func4, Try.ntmps4
  go_upto_region 1 with (fail)
  generalize (w.alloc (.cells #[.int .i64 ten, .slice pA P.length pc, .slice wA Q.length wcp] 28)) = w1 at HB1 N1 ⊢
  have KP : ∀ W, Below w1.heap.size w1 W → (Below w1.heap.size w1 W ∧ W.cell? ⟨w.heap.size, 0, none⟩ = some (.int .i64 ten) ∧ W.cell? ⟨w.heap.size, 1, none⟩ = some (.slice pA P.length pc) ∧ W.cell? ⟨w.heap.size, 2, none⟩ = some (.slice wA Q.length wcp)) := fun W hb => ⟨hb, (N1.out.on hb).three⟩
  have HKP := Lib.hid KP
  clear KP
  refine wp_region_held_drew (S := fun w' => Below w1.heap.size w1 w' ∧ w'.cell? ⟨w.heap.size, 0, none⟩ = some (.int .i64 ten) ∧ w'.cell? ⟨w.heap.size, 1, none⟩ = some (.slice pA P.length pc) ∧ w'.cell? ⟨w.heap.size, 2, none⟩ = some (.slice wA Q.length wcp)) (by kernel_rfl) (HKP.out _ (Below.refl _ w1).drew) (fun hHeld => ?_)
  refine wpAnyH_take (i := 0) (oi := ⟨some 9, _, _, _, _, _⟩) (v := ?vva0) rfl (by kernel_rfl) (by kernel_rfl) (by kernel_rfl) (fun _ _ _ h => h) (Or.inl ⟨by rfl, ?yva0⟩) hHeld ?rva0
  case yva0 => (intro w' hSw; (try dsimp only at hSw); go_simp; try (with_reducible rfl))
  simp only [Act.put, List.setIfInBounds_toArray, List.set_cons_zero, List.set_cons_succ]
  refine wpAnyH_take (i := 1) (oi := ⟨some 10, _, _, _, _, _⟩) (v := ?vva1) rfl (by kernel_rfl) (by kernel_rfl) (by kernel_rfl) (fun _ _ _ h => h) (Or.inl ⟨by rfl, ?yva1⟩) hHeld ?rva1
  case yva1 => (intro w' hSw; (try dsimp only at hSw); go_simp; try (with_reducible rfl))
  simp only [Act.put, List.setIfInBounds_toArray, List.set_cons_zero, List.set_cons_succ]
  refine wpAnyH_take (i := 2) (oi := ⟨some 11, _, _, _, _, _⟩) (v := ?vva2) rfl (by kernel_rfl) (by kernel_rfl) (by kernel_rfl) (fun _ _ _ h => h) (Or.inl ⟨by rfl, ?yva2⟩) hHeld ?rva2
  case yva2 => (intro w' hSw; (try dsimp only at hSw); go_simp; try (with_reducible rfl))
  simp only [Act.put, List.setIfInBounds_toArray, List.set_cons_zero, List.set_cons_succ]
  refine wpAnyH_take (i := 4) (oi := ⟨some 13, _, _, _, _, _⟩) (v := ?vva4) rfl (by kernel_rfl) (by kernel_rfl) (by kernel_rfl) (fun _ _ _ h => h) (Or.inl ⟨by rfl, ?yva4⟩) hHeld ?rva4
  case yva4 => (intro w' hSw; (try dsimp only at hSw); go_simp; try (with_reducible rfl))
  simp only [Act.put, List.setIfInBounds_toArray, List.set_cons_zero, List.set_cons_succ]
  refine wpAnyH_take (i := 5) (oi := ⟨some 14, _, _, _, _, _⟩) (v := ?vva5) rfl (by kernel_rfl) (by kernel_rfl) (by kernel_rfl) (fun _ _ _ h => h) (Or.inl ⟨by rfl, ?yva5⟩) hHeld ?rva5
  case yva5 => (intro w' hSw; (try dsimp only at hSw); go_simp; try (with_reducible rfl))
  simp only [Act.put, List.setIfInBounds_toArray, List.set_cons_zero, List.set_cons_succ]
  refine wpAnyH_take (i := 6) (oi := ⟨some 15, _, _, _, _, _⟩) (v := ?vva6) rfl (by kernel_rfl) (by kernel_rfl) (by kernel_rfl) (fun _ _ _ h => h) (Or.inl ⟨by rfl, ?yva6⟩) hHeld ?rva6
  case yva6 => (intro w' hSw; (try dsimp only at hSw); go_simp; try (with_reducible rfl))
  simp only [Act.put, List.setIfInBounds_toArray, List.set_cons_zero, List.set_cons_succ]
  refine wpAnyH_ready (rs := [3]) (by kernel_rfl) (by simp) ?_
  refine AllReadyH.cons (o := ⟨some 12, _, _, _, _, _⟩) rfl (fun K hK => ?_) AllReadyH.nil
  go_simp
  (with_reducible refine (cvias_c ten _ pA P.length pc Q a b _ (HQ.out.on (HB1.out.trans (hHeld.1.mono HB1.out.size))) hql).mono ?_)
  rintro e w2 ⟨v1, rfl, O1, hb⟩
  have HBV := Lib.hid hb
  (try dsimp only)
  refine hK.out _ _ (HKP.out _ (hHeld.1.trans (hb.mono hHeld.1.size))) (fun hNext => ?_)
  clear hK K hHeld
  have hHeld := hNext
  clear hNext
  try simp only [Act.put, List.setIfInBounds_toArray, List.set_cons_zero, List.set_cons_succ]
  refine wpAnyH_ready (rs := [7]) (by kernel_rfl) (by simp) ?_
  refine AllReadyH.cons (o := ⟨some 16, _, _, _, _, _⟩) rfl (fun K hK => ?_) AllReadyH.nil
  go_simp
  (with_reducible refine (rvias_c ten _ pA P.length pc Q a b _ (HQ.out.on (HB1.out.trans (hHeld.1.mono HB1.out.size))) hql).mono ?_)
  rintro e w3 ⟨v2, rfl, O2, hb⟩
  replace O1 := own_on O1 hb
  (try dsimp only)
  refine hK.out _ _ (HKP.out _ (hHeld.1.trans (hb.mono hHeld.1.size))) (fun hNext => ?_)
  clear hK K hHeld
  have hHeld := hNext
  clear hNext
  try simp only [Act.put, List.setIfInBounds_toArray, List.set_cons_zero, List.set_cons_succ]
  refine wpAnyH_take (i := 8) (oi := ⟨some 7, _, _, _, _, _⟩) (v := ?vva8) rfl (by kernel_rfl) (by kernel_rfl) (by kernel_rfl) (fun _ _ _ h => h) (Or.inl ⟨by rfl, ?yva8⟩) hHeld ?rva8
  case yva8 => (intro w' hSw; (try dsimp only at hSw); go_simp; try (with_reducible rfl))
  simp only [Act.put, List.setIfInBounds_toArray, List.set_cons_zero, List.set_cons_succ]
  refine wpAnyH_take (i := 9) (oi := ⟨some 8, _, _, _, _, _⟩) (v := ?vva9) rfl (by kernel_rfl) (by kernel_rfl) (by kernel_rfl) (fun _ _ _ h => h) (Or.inl ⟨by rfl, ?yva9⟩) hHeld ?rva9
  case yva9 => (intro w' hSw; (try dsimp only at hSw); go_simp; try (with_reducible rfl))
  simp only [Act.put, List.setIfInBounds_toArray, List.set_cons_zero, List.set_cons_succ]
  refine wpAnyH_done (by kernel_rfl) ?_ _
  have HB3 := Lib.hid (HB1.out.trans (hHeld.1.mono HB1.out.size))
  have N3 := Lib.hid (N1.out.on hHeld.1)
  have HI1 := Lib.hid (In8.of O1)
  have HI2 := Lib.hid (In8.of O2)
  obtain ⟨A8, c8, rfl, -⟩ := own_sl O1
  obtain ⟨A9, c9, rfl, -⟩ := own_sl O2
  obtain ⟨d0, d1, d2⟩ := N3.out.three
  clear hHeld HKP O1 O2 HBV hb HB1 N1
  by_cases hq : 200 < Q.length
  · have hz1 : (200 : Int) < (Q.length : Int) := by omega
    go_wp2_with fail
    (with_reducible refine (awake8_c _).mono ?_)
    rintro e w4 ⟨rfl, hb⟩
    have HB4 := Lib.hid (HB3.out.trans (hb.mono HB3.out.size))
    clear hb d0 d1 d2
    go_wp2
    go_ret
    exact ⟨rfl, HB4.out⟩
  have hz1 : ¬ (200 : Int) < (Q.length : Int) := by omega
  by_cases hp : 200 < P.length
  · have hz2 : (200 : Int) < (P.length : Int) := by omega
    go_wp2_with fail
    (with_reducible refine (awake8_c _).mono ?_)
    rintro e w4 ⟨rfl, hb⟩
    have HB4 := Lib.hid (HB3.out.trans (hb.mono HB3.out.size))
    clear hb d0 d1 d2
    go_wp2
    go_ret
    exact ⟨rfl, HB4.out⟩
  · have hz2 : ¬ (200 : Int) < (P.length : Int) := by omega
    have hvl : (viaL a b Q).length ≤ 1000000 := by have := viaL_len a b Q; omega
    obtain ⟨xx, hxx⟩ : ∃ xx, alwB ten P a b = xx := ⟨_, rfl⟩
    have HXX := Lib.hid hxx
    have KP : ∀ W, Below w3.heap.size w3 W → (Below w3.heap.size w3 W ∧ W.cell? ⟨w.heap.size, 0, none⟩ = some (.int .i64 ten) ∧ W.cell? ⟨w.heap.size, 1, none⟩ = some (.slice pA P.length pc) ∧ W.cell? ⟨w.heap.size, 2, none⟩ = some (.slice wA Q.length wcp)) := fun W hb => ⟨hb, (N3.out.on hb).three⟩
    have HKP := Lib.hid KP
    clear KP hxx
    go_upto_region 4 with (fail)
    refine wp_region_held_drew (S := fun w' => Below w3.heap.size w3 w' ∧ w'.cell? ⟨w.heap.size, 0, none⟩ = some (.int .i64 ten) ∧ w'.cell? ⟨w.heap.size, 1, none⟩ = some (.slice pA P.length pc) ∧ w'.cell? ⟨w.heap.size, 2, none⟩ = some (.slice wA Q.length wcp)) (by kernel_rfl) (HKP.out _ (Below.refl _ w3).drew) (fun hHeld => ?_)
    refine wpAnyH_ready (rs := [0]) (by kernel_rfl) (by simp) ?_
    refine AllReadyH.cons (o := ⟨some 28, _, _, _, _, _⟩) rfl (fun K hK => ?_) AllReadyH.nil
    go_simp
    (with_reducible refine (awake8_c _).mono ?_)
    rintro e w5 ⟨rfl, hb⟩
    (try dsimp only)
    refine hK.out _ _ (HKP.out _ (hHeld.1.trans (hb.mono hHeld.1.size))) (fun hNext => ?_)
    clear hK K hHeld
    have hHeld := hNext
    clear hNext
    try simp only [Act.put, List.setIfInBounds_toArray, List.set_cons_zero, List.set_cons_succ]
    refine wpAnyH_take (i := 1) (oi := ⟨some 29, _, _, _, _, _⟩) (v := ?vvb1) rfl (by kernel_rfl) (by kernel_rfl) (by kernel_rfl) (fun _ _ _ h => h) (Or.inl ⟨by rfl, ?yvb1⟩) hHeld ?rvb1
    case yvb1 => (intro w' hSw; (try dsimp only at hSw); go_simp; try (with_reducible rfl))
    simp only [Act.put, List.setIfInBounds_toArray, List.set_cons_zero, List.set_cons_succ]
    refine wpAnyH_take (i := 2) (oi := ⟨some 30, _, _, _, _, _⟩) (v := ?vvb2) rfl (by kernel_rfl) (by kernel_rfl) (by kernel_rfl) (fun _ _ _ h => h) (Or.inl ⟨by rfl, ?yvb2⟩) hHeld ?rvb2
    case yvb2 => (intro w' hSw; (try dsimp only at hSw); go_simp; try (with_reducible rfl))
    simp only [Act.put, List.setIfInBounds_toArray, List.set_cons_zero, List.set_cons_succ]
    refine wpAnyH_take (i := 3) (oi := ⟨some 31, _, _, _, _, _⟩) (v := ?vvb3) rfl (by kernel_rfl) (by kernel_rfl) (by kernel_rfl) (fun _ _ _ h => h) (Or.inl ⟨by rfl, ?yvb3⟩) hHeld ?rvb3
    case yvb3 => (intro w' hSw; (try dsimp only at hSw); go_simp; try (with_reducible rfl))
    simp only [Act.put, List.setIfInBounds_toArray, List.set_cons_zero, List.set_cons_succ]
    refine wpAnyH_take (i := 4) (oi := ⟨some 32, _, _, _, _, _⟩) (v := ?vvb4) rfl (by kernel_rfl) (by kernel_rfl) (by kernel_rfl) (fun _ _ _ h => h) (Or.inl ⟨by rfl, ?yvb4⟩) hHeld ?rvb4
    case yvb4 => (intro w' hSw; (try dsimp only at hSw); go_simp; try (with_reducible rfl))
    simp only [Act.put, List.setIfInBounds_toArray, List.set_cons_zero, List.set_cons_succ]
    refine wpAnyH_take (i := 6) (oi := ⟨some 34, _, _, _, _, _⟩) (v := ?vvb6) rfl (by kernel_rfl) (by kernel_rfl) (by kernel_rfl) (fun _ _ _ h => h) (Or.inl ⟨by rfl, ?yvb6⟩) hHeld ?rvb6
    case yvb6 => (intro w' hSw; (try dsimp only at hSw); go_simp; try (with_reducible rfl))
    simp only [Act.put, List.setIfInBounds_toArray, List.set_cons_zero, List.set_cons_succ]
    refine wpAnyH_take (i := 7) (oi := ⟨some 35, _, _, _, _, _⟩) (v := ?vvb7) rfl (by kernel_rfl) (by kernel_rfl) (by kernel_rfl) (fun _ _ _ h => h) (Or.inl ⟨by rfl, ?yvb7⟩) hHeld ?rvb7
    case yvb7 => (intro w' hSw; (try dsimp only at hSw); go_simp; try (with_reducible rfl))
    simp only [Act.put, List.setIfInBounds_toArray, List.set_cons_zero, List.set_cons_succ]
    refine wpAnyH_take (i := 8) (oi := ⟨some 36, _, _, _, _, _⟩) (v := ?vvb8) rfl (by kernel_rfl) (by kernel_rfl) (by kernel_rfl) (fun _ _ _ h => h) (Or.inl ⟨by rfl, ?yvb8⟩) hHeld ?rvb8
    case yvb8 => (intro w' hSw; (try dsimp only at hSw); go_simp; try (with_reducible rfl))
    simp only [Act.put, List.setIfInBounds_toArray, List.set_cons_zero, List.set_cons_succ]
    refine wpAnyH_ready (rs := [5]) (by kernel_rfl) (by simp) ?_
    refine AllReadyH.cons (o := ⟨some 33, _, _, _, _, _⟩) rfl (fun K hK => ?_) AllReadyH.nil
    go_simp
    (with_reducible refine (callow_c xx ten _ wA Q.length wcp P a b _ (HP.out.on (HB3.out.trans (hHeld.1.mono HB3.out.size))) HXX.out).mono ?_)
    rintro e w6 ⟨rfl, hb⟩
    (try dsimp only)
    refine hK.out _ _ (HKP.out _ (hHeld.1.trans (hb.mono hHeld.1.size))) (fun hNext => ?_)
    clear hK K hHeld
    have hHeld := hNext
    clear hNext
    try simp only [Act.put, List.setIfInBounds_toArray, List.set_cons_zero, List.set_cons_succ]
    refine wpAnyH_ready (rs := [9]) (by kernel_rfl) (by simp) ?_
    refine AllReadyH.cons (o := ⟨some 37, _, _, _, _, _⟩) rfl (fun K hK => ?_) AllReadyH.nil
    go_simp
    (with_reducible refine (rallow_c xx ten _ wA Q.length wcp P a b _ (HP.out.on (HB3.out.trans (hHeld.1.mono HB3.out.size))) HXX.out).mono ?_)
    rintro e w7 ⟨rfl, hb⟩
    (try dsimp only)
    refine hK.out _ _ (HKP.out _ (hHeld.1.trans (hb.mono hHeld.1.size))) (fun hNext => ?_)
    clear hK K hHeld
    have hHeld := hNext
    clear hNext
    try simp only [Act.put, List.setIfInBounds_toArray, List.set_cons_zero, List.set_cons_succ]
    refine wpAnyH_take (i := 10) (oi := ⟨some 38, _, _, _, _, _⟩) (v := ?vvb10) rfl (by kernel_rfl) (by kernel_rfl) (by kernel_rfl) (fun _ _ _ h => h) (Or.inl ⟨by rfl, ?yvb10⟩) hHeld ?rvb10
    case yvb10 => (intro w' hSw; (try dsimp only at hSw); go_simp; try (with_reducible rfl))
    simp only [Act.put, List.setIfInBounds_toArray, List.set_cons_zero, List.set_cons_succ]
    refine wpAnyH_take (i := 11) (oi := ⟨some 39, _, _, _, _, _⟩) (v := ?vvb11) rfl (by kernel_rfl) (by kernel_rfl) (by kernel_rfl) (fun _ _ _ h => h) (Or.inl ⟨by rfl, ?yvb11⟩) hHeld ?rvb11
    case yvb11 => (intro w' hSw; (try dsimp only at hSw); go_simp; try (with_reducible rfl))
    simp only [Act.put, List.setIfInBounds_toArray, List.set_cons_zero, List.set_cons_succ]
    refine wpAnyH_take (i := 12) (oi := ⟨some 40, _, _, _, _, _⟩) (v := ?vvb12) rfl (by kernel_rfl) (by kernel_rfl) (by kernel_rfl) (fun _ _ _ h => h) (Or.inl ⟨by rfl, ?yvb12⟩) hHeld ?rvb12
    case yvb12 => (intro w' hSw; (try dsimp only at hSw); go_simp; try (with_reducible rfl))
    simp only [Act.put, List.setIfInBounds_toArray, List.set_cons_zero, List.set_cons_succ]
    refine wpAnyH_take (i := 13) (oi := ⟨some 41, _, _, _, _, _⟩) (v := ?vvb13) rfl (by kernel_rfl) (by kernel_rfl) (by kernel_rfl) (fun _ _ _ h => h) (Or.inl ⟨by rfl, ?yvb13⟩) hHeld ?rvb13
    case yvb13 => (intro w' hSw; (try dsimp only at hSw); go_simp; try (with_reducible rfl))
    simp only [Act.put, List.setIfInBounds_toArray, List.set_cons_zero, List.set_cons_succ]
    refine wpAnyH_take (i := 14) (oi := ⟨some 42, _, _, _, _, _⟩) (v := ?vvb14) rfl (by kernel_rfl) (by kernel_rfl) (by kernel_rfl) (fun _ _ _ h => h) (Or.inl ⟨by rfl, ?yvb14⟩) hHeld ?rvb14
    case yvb14 => (intro w' hSw; (try dsimp only at hSw); go_simp; try (with_reducible rfl))
    simp only [Act.put, List.setIfInBounds_toArray, List.set_cons_zero, List.set_cons_succ]
    refine wpAnyH_ready (rs := [15]) (by kernel_rfl) (by simp) ?_
    refine AllReadyH.cons (o := ⟨some 43, _, _, _, _, _⟩) rfl (fun K hK => ?_) AllReadyH.nil
    go_simp
    (with_reducible refine (ints8_c _ _ (viaL a b Q) _ (HI1.out.on hHeld.1) (HI2.out.on hHeld.1) hvl).mono ?_)
    rintro e w8 ⟨rfl, hb⟩
    (try dsimp only)
    refine hK.out _ _ (HKP.out _ (hHeld.1.trans (hb.mono hHeld.1.size))) (fun hNext => ?_)
    clear hK K hHeld
    have hHeld := hNext
    clear hNext
    try simp only [Act.put, List.setIfInBounds_toArray, List.set_cons_zero, List.set_cons_succ]
    refine wpAnyH_take (i := 16) (oi := ⟨some 44, _, _, _, _, _⟩) (v := ?vvb16) rfl (by kernel_rfl) (by kernel_rfl) (by kernel_rfl) (fun _ _ _ h => h) (Or.inl ⟨by rfl, ?yvb16⟩) hHeld ?rvb16
    case yvb16 => (intro w' hSw; (try dsimp only at hSw); go_simp; try (with_reducible rfl))
    simp only [Act.put, List.setIfInBounds_toArray, List.set_cons_zero, List.set_cons_succ]
    refine wpAnyH_take (i := 17) (oi := ⟨some 6, _, _, _, _, _⟩) (v := ?vvb17) rfl (by kernel_rfl) (by kernel_rfl) (by kernel_rfl) (fun _ _ _ h => h) (Or.inl ⟨by rfl, ?yvb17⟩) hHeld ?rvb17
    case yvb17 => (intro w' hSw; (try dsimp only at hSw); go_simp; try (with_reducible rfl))
    simp only [Act.put, List.setIfInBounds_toArray, List.set_cons_zero, List.set_cons_succ]
    refine wpAnyH_done (by kernel_rfl) ?_ _
    have HBE := Lib.hid (HB3.out.trans (hHeld.1.mono HB3.out.size))
    clear hHeld HKP d0 d1 d2
    go_wp2
    go_ret
    exact ⟨rfl, HBE.out⟩
end Go.Proofs

namespace Go.Proofs.Ytfmfbkfppfohbaa
open Go.ChangeShapes Go.WideShapes Go.ChangeAt Go.RowKit Go.Joins Go.Proofs.Hd

theorem laidOut_calw : laidOutB Try.prog = true := by kernel_rfl
set_option maxRecDepth 100000 in
theorem calw_lifted (os : Os) (started : os.Started) (H : Type) (enc : TypeId × Value → H) :
    ReturnsInHanded {} Try.checked os 4 .any (Rows.configAllowsSpec.pre6 enc Try.prog Try.f4 Rows.configAllowsRow.domain false) (Rows.configAllowsSpec.post enc Try.prog Try.f4 false true false false) := by
  refine returnsInHanded_of_change_sized (C := Try.checked) own started (by kernel_rfl) Try.func4
    (ChangeSpec.witness6 (enc := enc) (C := Try.checked) false ⟨#[], #[.agg #[.int .i64 0, .slice none 0 0, .slice none 0 0], .int .i64 0, .int .i64 0], []⟩ 8 (by kernel_rfl) (by kernel_rfl) (by kernel_rfl) (by kernel_rfl)) ?_
  intro W base args ds gs before hval0 hW hcnd hsz _
  have hval : ∀ (j : Nat) t v, Try.f4.params[j]? = some t → args[j]? = some v → Value.okWide Try.prog W .any base t v := hval0
  have hW' := hW
  obtain ⟨p, q, hA0, hV, rfl, hfz, hnd⟩ := hW
  have hA : DataW.TrodAll enc Try.prog W 0 (fun _ => true) true Try.f4.params.toList args.toList ds p := hA0
  rw [Try.params4] at hA hval
  obtain ⟨v0, vs0, d0, ds0, p0, q0, hargs, rfl, rfl, h0, r0⟩ := trodAll_cons hA
  obtain ⟨v1, vs1, d1, ds1, p1, q1, rfl, rfl, rfl, h1, r1⟩ := trodAll_cons r0
  obtain ⟨v2, vs2, d2, ds2, p2, q2, rfl, rfl, rfl, h2, r2⟩ := trodAll_cons r1
  obtain ⟨rfl, rfl, rfl⟩ := trodAll_nil r2
  obtain rfl : args = #[v0, v1, v2] := by cases args; simp_all
  obtain ⟨rfl, rfl⟩ := trodVars_none hV
  have k0 := h0
  have lt0 : ∀ x ∈ p0, x.block < W.heap.size := by obtain ⟨m, hm⟩ := k0; exact DataW.trod_lt m _ _ _ hm
  obtain ⟨pn, ppv, pP, pwv, pQ, rfl, phP, phQ, pz⟩ := open_pol (hval 0 28 v0 rfl rfl) h0
  have ps := pz fun m hm => by simpa using List.all_eq_true.1 hsz m (DataW.weights_mem_each (j := 0) (t := 28) (by rw [Try.params4]; rfl) rfl m hm)
  obtain ⟨x, rfl, rfl, rfl, wf1⟩ := open_int Try.underlying3 (hval 1 3 v1 rfl rfl) h1
  obtain ⟨y, rfl, rfl, rfl, wf2⟩ := open_int Try.underlying3 (hval 2 3 v2 rfl rfl) h2
  clear hA0 hval0
  obtain ⟨bx1, bx2⟩ := bounds_i64 wf1
  obtain ⟨by1, by2⟩ := bounds_i64 wf2
  refine (call_c ppv pwv pn pP pQ x y W phP phQ ps.2).mono fun e W' ⟨he, hg⟩ => ?_
  subst he
  exact ⟨_, rfl, _, _, _, [], _, [], hW', trodAll_mk1 (shut_bool Try.underlying4 _), (trodAll_cons_mk (Below.trod laidOut_calw (by kernel_rfl) (of_decide_eq_true (by kernel_rfl)) k0 hg lt0) (trodAll_cons_mk (shut_int Try.underlying3 wf1) (trodAll_cons_mk (shut_int Try.underlying3 wf2) trodAll_mk0))), rfl, hg.frame _, (fun h => by cases h)⟩

theorem calw_holds : Rows.ConfigAllowsSaid :=
  OpenClaim.holds_of_wide 4 Try.f4 rfl rfl rfl rfl rfl rfl rfl ⟨rfl, rfl, rfl, rfl, rfl⟩ rfl rfl rfl rfl rfl (by kernel_rfl) Try.func4 (by kernel_rfl)
    (of_decide_eq_true (by kernel_rfl)) (by unfold Func.isWrapper; first | (rw [if_pos (by decide +kernel)]; kernel_rfl) | (rw [if_neg (by decide +kernel)]; exact ⟨rfl, rfl⟩))
    (fun os started H enc _ => calw_lifted os started H enc)
#print axioms calw_holds
end Go.Proofs.Ytfmfbkfppfohbaa
