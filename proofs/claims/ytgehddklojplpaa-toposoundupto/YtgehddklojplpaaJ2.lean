/-
  Contracts of package topo: port, answered, formed, sized. Conditions as each theorem lists them.
  Contracts of package topo: sized, Sound, Other, start. Conditions as each theorem lists them.
  Heaps as functions of places: mathematics of container/heap's up and down, no program. Conditions as each theorem lists them.
  Edges as lists; contracts of topo.Edges and of the reference's Edges of layer 7. Conditions as each theorem lists them.
  How a topology and a spot handed in by value read. No conditions.
  Ways in a graph with costs, and least costs. Mathematics, no program. Conditions as each theorem lists them.
  Least costs as numbers; what a search by a heap, and what rounds over all links, find. Mathematics, no program. Conditions as each theorem lists them.
  Sound topologies as graphs; what rounds over all links find. Mathematics, no program. Conditions as each theorem lists them.
  Plain mathematics on bytes: numbers as bytes, the highest first, and back; the checksum FNV-1a; fields and what is read of them. No program in sight. No conditions.
  Plain facts on worlds: bytes in memory, rows of bytes that grow, what a call changes at most. No program in sight. No conditions.
-/
import Derived.Test.YtgehddklojplpaaJ1
import Derived.Deep.Slices
import Derived.Deep.Strs
import Derived.Lib.Hide
import Derived.Laws.IdiomStrings
import Derived.Laws.BytesArg
namespace Go.Proofs.Hd
open Go.RowKit
/-- Does the port at p lead to one that leads back? -/
def ansP (T : List (List Pt)) (n i : Int) (p : Pt) : Bool := match ptAt T p.peer p.spot with
  | none => false
  | some q => !(p.peer == n) && eqP q ⟨2, 0, n, i, p.cost⟩
/-- May port i of switch n be? -/
def okP (T : List (List Pt)) (n i : Int) (p : Pt) : Bool :=
  if p.kind = 1 then inB p.ten 4 && eqP p ⟨1, p.ten, 0, 0, 0⟩ else if p.kind = 2 then decide (p.ten = 0) && decide (1 ≤ p.cost) && decide (p.cost ≤ 1000) && ansP T n i p else eqP p ⟨0, 0, 0, 0, 0⟩
/-- Are there as many switches and ports as there may be? -/
def szT (T : List (List Pt)) : Bool := decide (1 ≤ T.length) && decide (T.length ≤ 6) && T.all fun L => decide (L.length ≤ 6)
theorem szT_iff {T : List (List Pt)} : szT T = true ↔ 1 ≤ T.length ∧ T.length ≤ 6 ∧ ∀ L ∈ T, L.length ≤ 6 := by simp [szT, and_assoc]
theorem Blk.two {w : World} {g : Nat} {t : TypeId} {x0 x1 : Value} (h : Blk w g t #[x0, x1]) : w.cell? ⟨g, 0, none⟩ = some x0 ∧ w.cell? ⟨g, 1, none⟩ = some x1 := ⟨(h.cell 0).trans rfl, (h.cell 1).trans rfl⟩
theorem Blk.one {w : World} {g : Nat} {t : TypeId} {x0 : Value} (h : Blk w g t #[x0]) : w.cell? ⟨g, 0, none⟩ = some x0 := (h.cell 0).trans rfl
end Go.Proofs.Hd
namespace Go.Proofs
open Go.RowKit Go.Proofs.Hd Go.Lib
attribute [local go_sem high] run_eqP
theorem port_c (tv : Value) (T : List (List Pt)) (n i : Int) (w : World) (hT : PsT w tv T) : Calls Try.prog 21 #[.agg #[tv], .agg #[.int .i64 n, .int .i64 i]] w (PortR w (ptAt T n i)) := by
  cases h1 : inB n T.length with
  | false => rw [ptAt_far1 h1]; exact port_no1 tv T n i w hT h1
  | true =>
    obtain ⟨n', rfl⟩ : ∃ n' : Nat, n = (n' : Int) := ⟨n.toNat, by simp [inB] at h1; omega⟩
    have hn : n' < T.length := by simp [inB] at h1; omega
    have hL : T[n']? = some T[n'] := List.getElem?_eq_getElem hn
    generalize T[n'] = L at hL
    cases h2 : inB i L.length with
    | false => rw [ptAt_far2 hL h2]; exact port_no2 tv T n' i L w hT hL h2
    | true =>
      obtain ⟨i', rfl⟩ : ∃ i' : Nat, i = (i' : Int) := ⟨i.toNat, by simp [inB] at h2; omega⟩
      have hi : i' < L.length := by simp [inB] at h2; omega
      have hp : L[i']? = some L[i'] := List.getElem?_eq_getElem hi
      rw [ptAt_nat hL hp]
      exact port_yes tv T n' i' L L[i'] w hT hL hp
set_option maxRecDepth 100000 in
set_option maxHeartbeats 1000000 in
theorem ans_c (x : Bool) (tv : Value) (T : List (List Pt)) (n i : Int) (p : Pt) (w : World) (hT : PsT w tv T) (hx : ansP T n i p = x) : Calls Try.prog 25 #[.agg #[tv], .agg #[.int .i64 n, .int .i64 i], .agg #[.int .i64 p.kind, .int .i64 p.ten, .int .i64 p.peer, .int .i64 p.spot, .int .i64 p.cost]] w fun e w' => e = .returned (.bool x) ∧ Below w.heap.size w w' := by
  have B0 : Below w.heap.size w (((w.alloc (.cells #[tv] 24)).alloc (.cells #[.int .i64 n, .int .i64 i] 26)).alloc (.cells #[.int .i64 p.kind, .int .i64 p.ten, .int .i64 p.peer, .int .i64 p.spot, .int .i64 p.cost] 35)) := below3 w _ _ _
  have N0 : Hid (Blk (((w.alloc (.cells #[tv] 24)).alloc (.cells #[.int .i64 n, .int .i64 i] 26)).alloc (.cells #[.int .i64 p.kind, .int .i64 p.ten, .int .i64 p.peer, .int .i64 p.spot, .int .i64 p.cost] 35)) w.heap.size 24 #[tv]) := ((Blk.new w _ _).on (below1 _ _)).on (below1 _ _)
  have N1 : Hid (Blk (((w.alloc (.cells #[tv] 24)).alloc (.cells #[.int .i64 n, .int .i64 i] 26)).alloc (.cells #[.int .i64 p.kind, .int .i64 p.ten, .int .i64 p.peer, .int .i64 p.spot, .int .i64 p.cost] 35)) (w.heap.size + 1) 26 #[.int .i64 n, .int .i64 i]) := (Blk.new2 w _ _ _).on (below1 _ _)
  have N2 : Hid (Blk (((w.alloc (.cells #[tv] 24)).alloc (.cells #[.int .i64 n, .int .i64 i] 26)).alloc (.cells #[.int .i64 p.kind, .int .i64 p.ten, .int .i64 p.peer, .int .i64 p.spot, .int .i64 p.cost] 35)) (w.heap.size + 1 + 1) 35 #[.int .i64 p.kind, .int .i64 p.ten, .int .i64 p.peer, .int .i64 p.spot, .int .i64 p.cost]) := Blk.new3 _ _ _ _ _
  have hcon := port_c tv T p.peer p.spot _ (hT.on B0)
  obtain ⟨A, cap, rfl⟩ := hT.form
  obtain ⟨kd, tn, pr, sp, co⟩ := p
  dsimp only at hcon B0 N0 N1 N2 ⊢
  unfold ansP at hx
  dsimp only at hx
  cases hq : ptAt T pr sp with
  | none =>
    rw [hq] at hcon hx
    simp only at hx
    subst hx
    clear hq hT
    go_enter Try.func25, Try.ntmps25
    go_wp2_with fail
    (with_reducible refine hcon.mono ?_)
    rintro e w1 ⟨he, hb⟩
    simp only at he
    subst he
    obtain ⟨s0, s1⟩ := (N1.out.on hb).two
    obtain ⟨p0, p1, p2, p3, p4⟩ := (N2.out.on hb).five
    have HB := Lib.hid (B0.trans (hb.mono B0.size))
    have g1 := (N1.out.on hb).lt
    have g2 := (N2.out.on hb).lt
    have g3 := Nat.ne_of_lt g1
    have g4 := Nat.ne_of_lt g2
    have g5 : ¬ w.heap.size = w1.heap.size := by omega
    clear hcon N0 N1 N2 B0 hb
    go_wp2
    go_ret
    exact ⟨rfl, HB.out.trans ((below2 w1 _ _).mono HB.out.size)⟩
  | some q =>
    rw [hq] at hcon hx
    obtain ⟨qk, qt, qp, qs, qc⟩ := q
    simp only at hx
    clear hq hT
    go_enter Try.func25, Try.ntmps25
    go_wp2_with fail
    (with_reducible refine hcon.mono ?_)
    rintro e w1 ⟨he, hb⟩
    simp only at he
    subst he
    obtain ⟨s0, s1⟩ := (N1.out.on hb).two
    obtain ⟨p0, p1, p2, p3, p4⟩ := (N2.out.on hb).five
    have HB := Lib.hid (B0.trans (hb.mono B0.size))
    have g1 := (N1.out.on hb).lt
    have g2 := (N2.out.on hb).lt
    have g3 := Nat.ne_of_lt g1
    have g4 := Nat.ne_of_lt g2
    have g5 : ¬ w.heap.size = w1.heap.size := by omega
    clear hcon N0 N1 N2 B0 hb
    have s0' := on_some (below2 w1 (.cells #[.int .i64 qk, .int .i64 qt, .int .i64 qp, .int .i64 qs, .int .i64 qc] 35) (.cells #[.int .i64 2, .int .i64 0, .int .i64 n, .int .i64 i, .int .i64 co] 35)) s0
    have p2' := on_some (below2 w1 (.cells #[.int .i64 qk, .int .i64 qt, .int .i64 qp, .int .i64 qs, .int .i64 qc] 35) (.cells #[.int .i64 2, .int .i64 0, .int .i64 n, .int .i64 i, .int .i64 co] 35)) p2
    by_cases hpn : pr = n
    · have hx2 : x = false := by rw [← hx, beq_iff_eq.2 hpn]; rfl
      subst hx2
      subst hpn
      go_wp2
      go_ret
      exact ⟨rfl, HB.out.trans ((below2 w1 _ _).mono HB.out.size)⟩
    · have hx2 : eqP ⟨qk, qt, qp, qs, qc⟩ ⟨2, 0, n, i, co⟩ = x := by rw [← hx, beq_false_of_ne hpn]; rfl
      go_wp2
      go_ret
      have hbn : (pr != n) = true := by simp [hpn]
      exact ⟨by show Ending.returned (Value.bool (pr != n && x)) = _; rw [hbn]; rfl, HB.out.trans ((below2 w1 _ _).mono HB.out.size)⟩
set_option maxRecDepth 100000 in
set_option maxHeartbeats 1000000 in
theorem formed_c (x : Bool) (tv : Value) (T : List (List Pt)) (n i : Int) (p : Pt) (w : World) (hT : PsT w tv T) (hx : okP T n i p = x) : Calls Try.prog 20 #[.agg #[tv], .agg #[.int .i64 n, .int .i64 i], .agg #[.int .i64 p.kind, .int .i64 p.ten, .int .i64 p.peer, .int .i64 p.spot, .int .i64 p.cost]] w fun e w' => e = .returned (.bool x) ∧ Below w.heap.size w w' := by
  have B0 : Below w.heap.size w (((w.alloc (.cells #[tv] 24)).alloc (.cells #[.int .i64 n, .int .i64 i] 26)).alloc (.cells #[.int .i64 p.kind, .int .i64 p.ten, .int .i64 p.peer, .int .i64 p.spot, .int .i64 p.cost] 35)) := below3 w _ _ _
  have N0 : Hid (Blk (((w.alloc (.cells #[tv] 24)).alloc (.cells #[.int .i64 n, .int .i64 i] 26)).alloc (.cells #[.int .i64 p.kind, .int .i64 p.ten, .int .i64 p.peer, .int .i64 p.spot, .int .i64 p.cost] 35)) w.heap.size 24 #[tv]) := ((Blk.new w _ _).on (below1 _ _)).on (below1 _ _)
  have N1 : Hid (Blk (((w.alloc (.cells #[tv] 24)).alloc (.cells #[.int .i64 n, .int .i64 i] 26)).alloc (.cells #[.int .i64 p.kind, .int .i64 p.ten, .int .i64 p.peer, .int .i64 p.spot, .int .i64 p.cost] 35)) (w.heap.size + 1) 26 #[.int .i64 n, .int .i64 i]) := (Blk.new2 w _ _ _).on (below1 _ _)
  have N2 : Hid (Blk (((w.alloc (.cells #[tv] 24)).alloc (.cells #[.int .i64 n, .int .i64 i] 26)).alloc (.cells #[.int .i64 p.kind, .int .i64 p.ten, .int .i64 p.peer, .int .i64 p.spot, .int .i64 p.cost] 35)) (w.heap.size + 1 + 1) 35 #[.int .i64 p.kind, .int .i64 p.ten, .int .i64 p.peer, .int .i64 p.spot, .int .i64 p.cost]) := Blk.new3 _ _ _ _ _
  obtain ⟨A, cap, rfl⟩ := hT.form
  obtain ⟨kd, tn, pr, sp, co⟩ := p
  dsimp only at B0 N0 N1 N2 ⊢
  have HT := Lib.hid hT
  clear hT
  unfold okP at hx
  dsimp only at hx
  by_cases k1 : kd = 1
  · rw [if_pos k1] at hx
    subst k1
    cases hb : inB tn 4 with
    | false =>
      rw [hb] at hx
      simp at hx
      subst hx
      go_enter Try.func20, Try.ntmps20
      go_wp2_with fail
      (with_reducible refine (within_c false tn 4 _ hb).mono ?_)
      rintro e w1 ⟨rfl, rfl⟩
      go_wp2
      go_ret
      exact ⟨rfl, B0⟩
    | true =>
      rw [hb, Bool.true_and] at hx
      go_enter Try.func20, Try.ntmps20
      go_wp2_with fail
      (with_reducible refine (within_c true tn 4 _ hb).mono ?_)
      rintro e w1 ⟨rfl, rfl⟩
      go_wp2
      go_ret
      exact ⟨rfl, B0⟩
  · rw [if_neg k1] at hx
    by_cases k2 : kd = 2
    · rw [if_pos k2] at hx
      subst k2
      by_cases h0 : tn = 0
      · rw [decide_eq_true h0] at hx
        subst h0
        by_cases h1 : 1 ≤ co
        · by_cases h2 : co ≤ 1000
          · rw [decide_eq_true h1, decide_eq_true h2, Bool.true_and, Bool.true_and, Bool.true_and] at hx
            go_enter Try.func20, Try.ntmps20
            go_wp2_with fail
            (with_reducible refine (ans_c x _ T n i ⟨2, 0, pr, sp, co⟩ _ (HT.out.on B0) hx).mono ?_)
            rintro e w1 ⟨rfl, hb⟩
            have HB := Lib.hid (B0.trans (hb.mono B0.size))
            clear B0 hb N0 N1 N2
            go_wp2
            go_ret
            exact ⟨rfl, HB.out⟩
          · rw [decide_eq_false h2] at hx
            simp at hx
            subst hx
            go_enter Try.func20, Try.ntmps20
            go_wp2
            go_ret
            exact ⟨rfl, B0⟩
        · rw [decide_eq_false h1] at hx
          simp at hx
          subst hx
          go_enter Try.func20, Try.ntmps20
          go_wp2
          go_ret
          exact ⟨rfl, B0⟩
      · rw [decide_eq_false h0] at hx
        simp at hx
        subst hx
        go_enter Try.func20, Try.ntmps20
        go_wp2
        go_ret
        exact ⟨rfl, B0⟩
    · rw [if_neg k2] at hx
      go_enter Try.func20, Try.ntmps20
      go_wp2
      go_ret
      exact ⟨rfl, B0⟩
end Go.Proofs

namespace Go.Proofs.Hd
open Go.RowKit
/-- May the ports of the first k switches be? -/
def okTo (T : List (List Pt)) (k : Nat) : Prop := ∀ (n i : Nat) (L : List Pt) (p : Pt), n < k → T[n]? = some L → L[i]? = some p → okP T n i p = true
/-- May the first j ports of switch n be? -/
def okUp (T : List (List Pt)) (n : Nat) (L : List Pt) (j : Nat) : Prop := ∀ (i : Nat) (p : Pt), i < j → L[i]? = some p → okP T n i p = true
open Classical in
/-- What Sound says. -/
noncomputable def sTp (T : List (List Pt)) : Int := if szT T = false then 4 else if okTo T T.length then 0 else 2
theorem sTp_range {T : List (List Pt)} (h : szT T = false) : sTp T = 4 := by unfold sTp; rw [if_pos h]
theorem sTp_ok {T : List (List Pt)} (h : szT T = true) (h2 : okTo T T.length) : sTp T = 0 := by unfold sTp; rw [if_neg (by rw [h]; decide), if_pos h2]
theorem sTp_form {T : List (List Pt)} (h : szT T = true) {n i : Nat} {L : List Pt} {p : Pt} (hL : T[n]? = some L) (hp : L[i]? = some p) (hx : okP T n i p = false) : sTp T = 2 := by
  unfold sTp
  rw [if_neg (by rw [h]; decide), if_neg]
  intro hk
  rw [hk n i L p (List.getElem?_eq_some_iff.1 hL).1 hL hp] at hx
  cases hx
theorem sTp_zero {T : List (List Pt)} (h : sTp T = 0) : szT T = true ∧ okTo T T.length := by
  unfold sTp at h
  split at h
  · cases h
  · split at h
    · rename_i h1 h2
      exact ⟨by simpa using h1, h2⟩
    · cases h
theorem sTp_cases (T : List (List Pt)) : sTp T = 0 ∨ sTp T = 2 ∨ sTp T = 4 := by
  unfold sTp
  split
  · exact .inr (.inr rfl)
  · split
    · exact .inl rfl
    · exact .inr (.inl rfl)
theorem okTo_succ {T : List (List Pt)} {n : Nat} {L : List Pt} (h : okTo T n) (hL : T[n]? = some L) (hu : okUp T n L L.length) : okTo T (n + 1) := by
  intro n' i L' p hn hL' hp
  by_cases e : n' = n
  · subst e
    rw [hL] at hL'
    injection hL' with hL'
    subst hL'
    exact hu i p (List.getElem?_eq_some_iff.1 hp).1 hp
  · exact h n' i L' p (by omega) hL' hp
theorem okUp_succ {T : List (List Pt)} {n i : Nat} {L : List Pt} {p : Pt} (h : okUp T n L i) (hp : L[i]? = some p) (hx : okP T n i p = true) : okUp T n L (i + 1) := by
  intro i' p' hi hp'
  by_cases e : i' = i
  · subst e
    rw [hp] at hp'
    injection hp' with hp'
    subst hp'
    exact hx
  · exact h i' p' (by omega) hp'
end Go.Proofs.Hd
namespace Go.Proofs
open Go.RowKit Go.Proofs.Hd Go.Lib
set_option maxRecDepth 100000 in
set_option maxHeartbeats 1000000 in
theorem sized_c (x : Bool) (tv : Value) (T : List (List Pt)) (w : World) (hT : PsT w tv T) (hx : szT T = x) : Calls Try.prog 19 #[.agg #[tv]] w fun e w' => e = .returned (.bool x) ∧ Below w.heap.size w w' := by
  obtain ⟨A, cap, rfl, htm, hA⟩ := hT
  have HB := Lib.hid (below1 w (.cells #[.slice A T.length cap] 24))
  have htz : (T.length : Int) ≤ 9223372036854775807 := by unfold maxLen at htm; omega
  by_cases h1 : 1 ≤ T.length
  · by_cases h6 : T.length ≤ 6
    · have hz1 : ¬ (T.length : Int) < 1 := by omega
      have hz6 : ¬ (6 : Int) < (T.length : Int) := by omega
      obtain ⟨b, o, rfl, hb0, hc⟩ := hA (by rintro rfl; simp at h1)
      have hx2 : (T.all fun L => decide (L.length ≤ 6)) = x := by rw [← hx]; simp [szT, h1, h6]
      have HC := Lib.hid hc
      have HX := Lib.hid hx2
      clear hc hA hx hx2
      go_enter Try.func19, Try.ntmps19
      go_wp2
      go_loopg [4, 18] T.length (fun gk _ s18 wr => ∃ (k : Nat), k ≤ T.length ∧ gk = T.length - k ∧ s18 = .int .i64 k ∧ Hid (∀ j L, j < k → T[j]? = some L → L.length ≤ 6) ∧ Hid (Below w.heap.size w wr))
      case atStart => exact ⟨0, Nat.zero_le _, rfl, rfl, fun j L hj => absurd hj (Nat.not_lt_zero _), HB⟩
      case round =>
        clear HB
        obtain ⟨k, hk, rfl, rfl, HN, HW⟩ := hrel
        by_cases hlt : k < T.length
        · have hltz : (k : Int) < (T.length : Int) := by omega
          obtain ⟨L, hTL⟩ : ∃ L, T[k]? = some L := ⟨_, List.getElem?_eq_getElem hlt⟩
          obtain ⟨s, hcell0, A1, c1, rfl, _⟩ := HC.out k L hTL
          have hcell := on_some HW.out hcell0
          have HTL := Lib.hid hTL
          clear hTL hcell0
          by_cases hl6 : L.length ≤ 6
          · have hl6z : ¬ (6 : Int) < (L.length : Int) := by omega
            have HN2 : Hid (∀ j L, j < k + 1 → T[j]? = some L → L.length ≤ 6) := fun j L' hj hL' => by
              by_cases e : j = k
              · subst e
                rw [HTL.out] at hL'
                injection hL' with hL'
                subst hL'
                exact hl6
              · exact HN.out j L' (by omega) hL'
            clear HN
            go_wp2
            go_roundg (T.length - (k + 1))
            case measure => omega
            case rel => exact ⟨k + 1, by omega, rfl, by go_num, HN2, HW⟩
          · have hl6z : (6 : Int) < (L.length : Int) := by omega
            have HE : Hid (x = false) := by
              show _ = _
              rw [← HX.out, List.all_eq_false]
              exact ⟨L, List.mem_of_getElem? HTL.out, by simpa using hl6⟩
            clear HN HX
            go_wp2
            go_ret
            exact ⟨by rw [HE.out]; rfl, HW.out⟩
        · have hltz : ¬ (k : Int) < (T.length : Int) := by omega
          have HE : Hid (x = true) := by
            show _ = _
            rw [← HX.out, List.all_eq_true]
            intro L hL
            obtain ⟨j, hj⟩ := List.getElem?_of_mem hL
            have := (List.getElem?_eq_some_iff.1 hj).1
            exact decide_eq_true (HN.out j L (by omega) hj)
          clear HN HX
          go_wp2
          go_ret
          exact ⟨by rw [HE.out]; rfl, HW.out⟩
    · have hz1 : ¬ (T.length : Int) < 1 := by omega
      have hz6 : (6 : Int) < (T.length : Int) := by omega
      have hx2 : x = false := by rw [← hx]; simp [szT, h6]
      subst hx2
      clear hA hx
      go_enter Try.func19, Try.ntmps19
      go_wp2
      go_ret
      exact ⟨rfl, HB.out⟩
  · have hx2 : x = false := by rw [← hx]; simp [szT, h1]
    have h0 : T.length = 0 := by omega
    subst hx2
    clear hA hx
    rw [h0] at HB ⊢
    go_enter Try.func19, Try.ntmps19
    go_wp2
    go_ret
    exact ⟨rfl, HB.out⟩
set_option maxRecDepth 100000 in
set_option maxHeartbeats 2000000 in
theorem tpsound_c (tv : Value) (T : List (List Pt)) (w : World) (hT : PsT w tv T) : Calls Try.prog 11 #[.agg #[tv]] w fun e w' => e = .returned (.int .i64 (sTp T)) ∧ Below w.heap.size w w' := by
  have HT := Lib.hid hT
  obtain ⟨A, cap, rfl, htm, hA⟩ := hT
  have B0 := below1 w (.cells #[.slice A T.length cap] 24)
  have N0 : Hid (Blk (w.alloc (.cells #[.slice A T.length cap] 24)) w.heap.size 24 #[.slice A T.length cap]) := Blk.new w _ _
  have htz : (T.length : Int) ≤ 9223372036854775807 := by unfold maxLen at htm; omega
  cases hs : szT T with
  | false =>
    have HE := Lib.hid (sTp_range hs)
    clear hA
    go_enter Try.func11, Try.ntmps11
    go_wp2_with fail
    (with_reducible refine (sized_c false _ T _ (HT.out.on B0) hs).mono ?_)
    rintro e w1 ⟨rfl, hb⟩
    have HB := Lib.hid (B0.trans (hb.mono B0.size))
    clear hb B0 N0
    go_wp2
    go_ret
    exact ⟨by rw [HE.out]; rfl, HB.out⟩
  | true =>
    obtain ⟨h1, h6, hl6⟩ := szT_iff.1 hs
    obtain ⟨b, o, rfl, hb0, hc⟩ := hA (by rintro rfl; simp at h1)
    have HC := Lib.hid hc
    have HL6 := Lib.hid hl6
    clear hA hc hl6
    go_enter Try.func11, Try.ntmps11
    go_wp2_with fail
    (with_reducible refine (sized_c true _ T _ (HT.out.on B0) hs).mono ?_)
    rintro e w1 ⟨rfl, hb⟩
    have HB := Lib.hid (B0.trans (hb.mono B0.size))
    have hz := (N0.out.on hb).lt
    have d0 := (N0.out.on hb).one
    have N1 := Lib.hid (N0.out.on hb)
    clear hb B0 N0
    go_wp2
    clear d0
    go_loopg [3, 4, 5, 6, 13, 20] T.length (fun gn s3 s4 s5 s6 s13 s20 wn => ∃ (n : Nat), n ≤ T.length ∧ gn = T.length - n ∧ s13 = .int .i64 n ∧ Hid (okTo T n) ∧ Hid (Blk wn w.heap.size 24 #[.slice (some ⟨b, o, none⟩) T.length cap]) ∧ Hid (Below w.heap.size w wn))
    case atStart => exact ⟨0, Nat.zero_le _, rfl, rfl, fun n i L p hn => absurd hn (Nat.not_lt_zero _), N1, HB⟩
    case round =>
      clear HB N1 hz
      obtain ⟨n, hn, rfl, rfl, HO, NB, HB⟩ := hrel
      by_cases hnt : n < T.length
      · have hntz : (n : Int) < (T.length : Int) := by omega
        obtain ⟨L, hTL⟩ : ∃ L, T[n]? = some L := ⟨_, List.getElem?_eq_getElem hnt⟩
        obtain ⟨s, hcell0, A1, c1, rfl, hLm, hA1⟩ := HC.out n L hTL
        have hcell := on_some HB.out hcell0
        have HA1 := Lib.hid hA1
        have HTL := Lib.hid hTL
        have hLz : (L.length : Int) ≤ 6 := by have := HL6.out L (List.mem_of_getElem? hTL); omega
        clear hTL hcell0 hA1
        go_wp2
        go_loopg [5, 6, 20] L.length (fun gi s5 s6 s20 wi => ∃ (i : Nat), i ≤ L.length ∧ gi = L.length - i ∧ s20 = .int .i64 i ∧ Hid (okUp T n L i) ∧ Hid (Blk wi w.heap.size 24 #[.slice (some ⟨b, o, none⟩) T.length cap]) ∧ Hid (Below w.heap.size w wi))
        case atStart => exact ⟨0, Nat.zero_le _, rfl, rfl, fun i p hi => absurd hi (Nat.not_lt_zero _), NB, HB⟩
        case round =>
          clear HB NB hcell
          obtain ⟨i, hi, rfl, rfl, HI, NB, HB⟩ := hrel
          by_cases hit : i < L.length
          · have hitz : (i : Int) < (L.length : Int) := by omega
            obtain ⟨p, hp⟩ : ∃ p, L[i]? = some p := ⟨_, List.getElem?_eq_getElem hit⟩
            obtain ⟨b1, o1, rfl, _, hpc⟩ := HA1.out (by rintro rfl; simp at hit)
            obtain ⟨c0, c1', c2, c3, c4⟩ := (hpc i p hp).on HB.out
            have hb1 := below1 wr (.cells #[.int .i64 p.kind, .int .i64 p.ten, .int .i64 p.peer, .int .i64 p.spot, .int .i64 p.cost] 35)
            have HB1 := Lib.hid (HB.out.trans (hb1.mono HB.out.size))
            have NB1 := Lib.hid (NB.out.on hb1)
            have hz := NB.out.lt
            have hzn := Nat.ne_of_lt hz
            have d0 := NB.out.one
            have HR := Lib.hid hp
            clear hp hpc hb1 HB NB
            cases hx : okP T n i p with
            | false =>
              have HE := Lib.hid (sTp_form hs HTL.out HR.out hx)
              go_wp2_with fail
              (with_reducible refine (formed_c false _ T n i p _ (HT.out.on HB1.out) hx).mono ?_)
              rintro e w2 ⟨rfl, hb2⟩
              have B2 := Lib.hid (HB1.out.trans (hb2.mono HB1.out.size))
              clear HB1 hb2 NB1 c0 c1' c2 c3 c4 d0
              go_wp2
              go_ret
              exact ⟨by rw [HE.out]; rfl, B2.out⟩
            | true =>
              have HI2 := Lib.hid (okUp_succ HI.out HR.out hx)
              go_wp2_with fail
              (with_reducible refine (formed_c true _ T n i p _ (HT.out.on HB1.out) hx).mono ?_)
              rintro e w2 ⟨rfl, hb2⟩
              have HB2 := Lib.hid (HB1.out.trans (hb2.mono HB1.out.size))
              have NB2 := Lib.hid (NB1.out.on hb2)
              clear HB1 hb2 NB1 c0 c1' c2 c3 c4 d0
              go_wp2
              go_roundg (L.length - (i + 1))
              case measure => omega
              case rel => exact ⟨i + 1, by omega, rfl, by go_num, HI2, NB2, HB2⟩
          · have hitz : ¬ (i : Int) < (L.length : Int) := by omega
            obtain rfl : i = L.length := by omega
            have HO2 := Lib.hid (okTo_succ HO.out HTL.out HI.out)
            go_wp2
            go_roundg (T.length - (n + 1))
            case measure => omega
            case rel => exact ⟨n + 1, by omega, rfl, by go_num, HO2, NB, HB⟩
      · have hntz : ¬ (n : Int) < (T.length : Int) := by omega
        obtain rfl : n = T.length := by omega
        have HE := Lib.hid (sTp_ok hs HO.out)
        clear HC HO
        go_wp2
        go_ret
        exact ⟨by rw [HE.out]; rfl, HB.out⟩
end Go.Proofs

namespace Go.Proofs.Hd
/-- A switch, and the cost of a way to it. -/
abbrev Rc := Nat × Nat
/-- Two places change. -/
def sw (g : Nat → Rc) (i j : Nat) : Nat → Rc := fun k => if k = i then g j else if k = j then g i else g k
theorem sw_l (g : Nat → Rc) (i j : Nat) : sw g i j i = g j := by simp [sw]
theorem sw_r (g : Nat → Rc) (i j : Nat) : sw g i j j = g i := by
  unfold sw
  split
  · rename_i h; rw [h]
  · rw [if_pos rfl]
theorem sw_o (g : Nat → Rc) {i j k : Nat} (h1 : k ≠ i) (h2 : k ≠ j) : sw g i j k = g k := by simp [sw, h1, h2]
/-- The first n of them, as a list. -/
def lst (g : Nat → Rc) (n : Nat) : List Rc := (List.range n).map g
theorem lst_len (g : Nat → Rc) (n : Nat) : (lst g n).length = n := by simp [lst]
theorem lst_get (g : Nat → Rc) {n k : Nat} (h : k < n) : (lst g n)[k]? = some (g k) := by simp [lst, h]
theorem lst_succ (g : Nat → Rc) (n : Nat) : lst g (n + 1) = lst g n ++ [g n] := by simp [lst, List.range_succ]
theorem lst_mem {g : Nat → Rc} {n : Nat} {x : Rc} : x ∈ lst g n ↔ ∃ k, k < n ∧ g k = x := by simp [lst]
theorem lst_congr {g h : Nat → Rc} {n : Nat} (e : ∀ k, k < n → g k = h k) : lst g n = lst h n := by
  unfold lst
  exact List.map_congr_left fun k hk => e k (List.mem_range.1 hk)
theorem count_lst (g : Nat → Rc) (x : Rc) : ∀ n, (lst g n).count x = ((List.range n).filter fun k => g k == x).length
  | 0 => by simp [lst]
  | n + 1 => by
    rw [lst_succ, List.count_append, count_lst g x n, List.range_succ, List.filter_append, List.length_append]
    congr 1
    by_cases h : g n == x
    · simp [h, List.count_cons]
    · simp [h, List.count_cons]
theorem sw_last (g : Nat → Rc) {n i : Nat} (hi : i < n) : (lst (sw g i n) (n + 1)).Perm (lst g (n + 1)) := by
  obtain ⟨d, rfl⟩ : ∃ d, n = i + 1 + d := ⟨n - (i + 1), by omega⟩
  have h1 : ∀ h : Nat → Rc, lst h (i + 1 + d) = lst h i ++ h i :: (List.range d).map fun k => h (i + 1 + k) := by
    intro h
    unfold lst
    rw [List.range_add, List.map_append, List.map_map, List.range_succ, List.map_append, List.append_assoc]
    rfl
  rw [lst_succ, lst_succ, h1, h1, sw_l, sw_r]
  have e1 : lst (sw g i (i + 1 + d)) i = lst g i := lst_congr fun k hk => sw_o g (by omega) (by omega)
  have e2 : ((List.range d).map fun k => sw g i (i + 1 + d) (i + 1 + k)) = (List.range d).map fun k => g (i + 1 + k) :=
    List.map_congr_left fun k hk => sw_o g (by omega) (by have := List.mem_range.1 hk; omega)
  rw [e1, e2]
  generalize (List.range d).map (fun k => g (i + 1 + k)) = M
  rw [List.append_assoc, List.append_assoc]
  refine List.Perm.append_left _ ?_
  rw [List.cons_append, List.cons_append]
  have p1 : (g (i + 1 + d) :: (M ++ [g i])).Perm (g (i + 1 + d) :: g i :: M) := List.Perm.cons _ (List.perm_append_comm (l₁ := M) (l₂ := [g i]))
  have p2 : (g i :: (M ++ [g (i + 1 + d)])).Perm (g i :: g (i + 1 + d) :: M) := List.Perm.cons _ (List.perm_append_comm (l₁ := M) (l₂ := [g (i + 1 + d)]))
  exact p1.trans ((List.Perm.swap _ _ _).trans p2.symm)
theorem sw_self (g : Nat → Rc) (i : Nat) : sw g i i = g := by
  funext k
  unfold sw
  split
  · rename_i h; rw [h]
  · rfl
theorem sw_comm (g : Nat → Rc) (i j : Nat) : sw g i j = sw g j i := by
  funext k
  unfold sw
  by_cases h1 : k = i <;> by_cases h2 : k = j
  · subst h1; rw [if_pos rfl, if_pos h2, ← h2]
  · rw [if_pos h1, if_neg h2, if_pos h1]
  · rw [if_neg h1, if_pos h2, if_pos h2]
  · rw [if_neg h1, if_neg h2, if_neg h2, if_neg h1]
theorem sw_perm_lt (g : Nat → Rc) {i j : Nat} (hij : i < j) : ∀ {n : Nat}, j < n → (lst (sw g i j) n).Perm (lst g n) := by
  intro n hj
  obtain ⟨d, rfl⟩ : ∃ d, n = j + 1 + d := ⟨n - (j + 1), by omega⟩
  have h1 : ∀ h : Nat → Rc, lst h (j + 1 + d) = lst h (j + 1) ++ (List.range d).map fun k => h (j + 1 + k) := by
    intro h
    unfold lst
    rw [List.range_add, List.map_append, List.map_map]
    rfl
  rw [h1, h1]
  have e2 : ((List.range d).map fun k => sw g i j (j + 1 + k)) = (List.range d).map fun k => g (j + 1 + k) :=
    List.map_congr_left fun k hk => sw_o g (by omega) (by omega)
  rw [e2]
  exact List.Perm.append_right _ (sw_last g hij)
theorem sw_perm (g : Nat → Rc) {i j n : Nat} (hi : i < n) (hj : j < n) : (lst (sw g i j) n).Perm (lst g n) := by
  rcases Nat.lt_trichotomy i j with h | h | h
  · exact sw_perm_lt g h hj
  · subst h; rw [sw_self]
  · rw [sw_comm]; exact sw_perm_lt g h hi
/-- No switch is nearer than the one above it. -/
def hpo (g : Nat → Rc) (n : Nat) : Prop := ∀ i, 0 < i → i < n → (g ((i - 1) / 2)).2 ≤ (g i).2
theorem hpo.min {g : Nat → Rc} {n : Nat} (h : hpo g n) : ∀ k, k < n → (g 0).2 ≤ (g k).2 := by
  intro k
  induction k using Nat.strongRecOn with
  | _ k ih =>
    intro hk
    rcases Nat.eq_zero_or_pos k with h0 | h0
    · subst h0; exact Nat.le_refl _
    · exact Nat.le_trans (ih ((k - 1) / 2) (by omega) (by omega)) (h k h0 hk)
/-- A heap but for place j, which may be too near. -/
def upO (g : Nat → Rc) (n j : Nat) : Prop := (∀ i, 0 < i → i < n → i ≠ j → (g ((i - 1) / 2)).2 ≤ (g i).2) ∧ ∀ c, 0 < c → c < n → (c - 1) / 2 = j → 0 < j → (g ((j - 1) / 2)).2 ≤ (g c).2
theorem upO.step {g : Nat → Rc} {n i j : Nat} (h : upO g n j) (hi : (j - 1) / 2 = i) (hj : 0 < j) (hn : j < n) (hl : (g j).2 < (g i).2) : upO (sw g i j) n i := by
  have hij : i < j := by omega
  refine ⟨fun k k0 kn ki => ?_, fun c c0 cn hc i0 => ?_⟩
  · by_cases e1 : k = j
    · subst e1; rw [hi, sw_l, sw_r]; omega
    · rw [sw_o g ki e1]
      by_cases e2 : (k - 1) / 2 = i
      · rw [e2, sw_l]
        have := h.1 k k0 kn e1
        rw [e2] at this
        omega
      · by_cases e3 : (k - 1) / 2 = j
        · rw [e3, sw_r]
          have := h.2 k k0 kn e3 hj
          rw [hi] at this
          exact this
        · rw [sw_o g e2 e3]
          exact h.1 k k0 kn e1
  · have hp : sw g i j ((i - 1) / 2) = g ((i - 1) / 2) := sw_o g (by omega) (by omega)
    have h1 := h.1 i i0 (by omega) (by omega)
    rw [hp]
    by_cases e1 : c = j
    · subst e1; rw [sw_r]; exact h1
    · rw [sw_o g (by omega) e1]
      have h2 := h.1 c c0 cn e1
      rw [hc] at h2
      omega
theorem upO.done {g : Nat → Rc} {n i j : Nat} (h : upO g n j) (hi : (j - 1) / 2 = i) (hl : i = j ∨ ¬ (g j).2 < (g i).2) : hpo g n := by
  intro k k0 kn
  by_cases e : k = j
  · subst e
    rcases hl with hl | hl
    · omega
    · rw [hi]; omega
  · exact h.1 k k0 kn e
theorem upO.of {g : Nat → Rc} {n : Nat} (h : hpo g n) : upO g (n + 1) n := ⟨fun i i0 hi hn => h i i0 (by omega), fun c c0 cn hc n0 => by omega⟩
/-- A heap but for the places below i, which may be nearer than it. -/
def dnO (g : Nat → Rc) (n i : Nat) : Prop := (∀ c, 0 < c → c < n → (c - 1) / 2 ≠ i → (g ((c - 1) / 2)).2 ≤ (g c).2) ∧ ∀ c, 0 < c → c < n → (c - 1) / 2 = i → 0 < i → (g ((i - 1) / 2)).2 ≤ (g c).2
theorem dnO.step {g : Nat → Rc} {n i j : Nat} (h : dnO g n i) (hi : (j - 1) / 2 = i) (hj : 0 < j) (hn : j < n) (hl : (g j).2 < (g i).2) (hm : ∀ c, 0 < c → c < n → (c - 1) / 2 = i → (g j).2 ≤ (g c).2) : dnO (sw g i j) n j := by
  have hij : i < j := by omega
  refine ⟨fun c c0 cn hc => ?_, fun c c0 cn hc _ => ?_⟩
  · by_cases e1 : c = j
    · subst e1; rw [hi, sw_l, sw_r]; omega
    · by_cases e2 : c = i
      · subst e2
        rw [sw_l, sw_o g (by omega) (by omega)]
        exact h.2 j hj hn hi c0
      · rw [sw_o g e2 e1]
        by_cases e3 : (c - 1) / 2 = i
        · rw [e3, sw_l]; exact hm c c0 cn e3
        · rw [sw_o g e3 hc]; exact h.1 c c0 cn e3
  · rw [hi, sw_l, sw_o g (by omega) (by omega)]
    have := h.1 c c0 cn (by omega)
    rw [hc] at this
    exact this
theorem dnO.done {g : Nat → Rc} {n i : Nat} (h : dnO g n i) (hm : ∀ c, 0 < c → c < n → (c - 1) / 2 = i → (g i).2 ≤ (g c).2) : hpo g n := by
  intro c c0 cn
  by_cases e : (c - 1) / 2 = i
  · rw [e]; exact hm c c0 cn e
  · exact h.1 c c0 cn e
theorem dnO.of {g : Nat → Rc} {n : Nat} (h : hpo g (n + 1)) : dnO (sw g 0 n) n 0 := by
  refine ⟨fun c c0 cn hc => ?_, fun c c0 cn hc h0 => by omega⟩
  rw [sw_o g (by omega) (by omega), sw_o g (by omega) (by omega)]
  exact h c c0 (by omega)
end Go.Proofs.Hd

namespace Go.Proofs.Hd
open Go.RowKit
/-- Spots as cells. -/
def flS : List Rc → List Value
  | [] => []
  | x :: E => .int .i64 x.1 :: .int .i64 x.2 :: flS E
theorem flS_len : ∀ E, (flS E).length = E.length * 2
  | [] => rfl
  | x :: E => by rw [flS, List.length_cons, List.length_cons, flS_len E, List.length_cons]; omega
theorem flS_append (A B : List Rc) : flS (A ++ B) = flS A ++ flS B := by
  induction A with
  | nil => rfl
  | cons x A ih => simp [flS, ih]
theorem flS_get : ∀ {E : List Rc} {k : Nat} {x : Rc}, E[k]? = some x → (flS E)[k * 2]? = some (.int .i64 x.1) ∧ (flS E)[k * 2 + 1]? = some (.int .i64 x.2)
  | [], k, x, h => by simp at h
  | y :: E, 0, x, h => by simp at h; subst h; exact ⟨rfl, rfl⟩
  | y :: E, k + 1, x, h => by
    have h' : E[k]? = some x := by simpa using h
    have := flS_get h'
    rw [show (k + 1) * 2 = k * 2 + 1 + 1 from by omega]
    exact this
/-- The edges among the first j ports of switch n. -/
def eUp (n : Nat) (L : List Pt) (j : Nat) : List Rc := (List.range j).filterMap fun i => match L[i]? with
  | some p => if p.kind = 1 then some (n, i) else none
  | none => none
/-- The edges of the first k switches. -/
def eTo (T : List (List Pt)) (k : Nat) : List Rc := (List.range k).flatMap fun n => match T[n]? with
  | some L => eUp n L L.length
  | none => []
theorem eUp_succ {n : Nat} {L : List Pt} {j : Nat} {p : Pt} (h : L[j]? = some p) : eUp n L (j + 1) = eUp n L j ++ (if p.kind = 1 then [(n, j)] else []) := by
  unfold eUp
  rw [List.range_succ, List.filterMap_append]
  congr 1
  by_cases hk : p.kind = 1 <;> simp [h, hk]
theorem eTo_succ {T : List (List Pt)} {k : Nat} {L : List Pt} (h : T[k]? = some L) : eTo T (k + 1) = eTo T k ++ eUp k L L.length := by
  unfold eTo
  rw [List.range_succ, List.flatMap_append]
  simp [h]
theorem eUp_len (n : Nat) (L : List Pt) (j : Nat) : (eUp n L j).length ≤ j := by
  unfold eUp
  exact Nat.le_trans (List.length_filterMap_le _ _) (by simp)
/-- How many ports there are. -/
def ports (T : List (List Pt)) : Nat := (T.map List.length).sum
theorem take_sum {T : List (List Pt)} {k : Nat} {L : List Pt} (h : T[k]? = some L) : ((T.take (k + 1)).map List.length).sum = ((T.take k).map List.length).sum + L.length := by
  rw [List.take_add_one, h, List.map_append, List.sum_append]
  simp
theorem eTo_len (T : List (List Pt)) : ∀ k, k ≤ T.length → (eTo T k).length ≤ ((T.take k).map List.length).sum
  | 0, _ => by simp [eTo]
  | k + 1, h => by
    have hL : T[k]? = some T[k] := List.getElem?_eq_getElem (by omega)
    rw [eTo_succ hL, List.length_append, take_sum hL]
    have h1 := eTo_len T k (by omega)
    have h2 := eUp_len k T[k] T[k].length
    omega
theorem take_le (T : List (List Pt)) (k : Nat) : ((T.take k).map List.length).sum ≤ ports T := by
  unfold ports
  conv => rhs; rw [← List.take_append_drop k T]
  rw [List.map_append, List.sum_append]
  omega
theorem edges_le {T : List (List Pt)} {n i : Nat} {L : List Pt} (hL : T[n]? = some L) (hi : i ≤ L.length) : (eTo T n ++ eUp n L i).length ≤ ports T := by
  have hn := (List.getElem?_eq_some_iff.1 hL).1
  rw [List.length_append]
  have h1 := eTo_len T n (by omega)
  have h2 := eUp_len n L i
  have h3 := take_le T (n + 1)
  rw [take_sum hL] at h3
  omega
theorem src_spot {w : World} {b : Nat} {x y : Int} (h : Blk w b 26 #[.int .i64 x, .int .i64 y]) : Src w 2 (.slice (some ⟨b, 0, none⟩) 1 1) 1 [.int .i64 x, .int .i64 y] := by
  refine ⟨rfl, by intro u hu; simp at hu; rcases hu with rfl | rfl <;> rfl, .inr ⟨_, 1, rfl, fun j u hu => ?_⟩⟩
  have e : (⟨b, 0, none⟩ : Addr).add j = ⟨b, j, none⟩ := by unfold Addr.add; by_cases h0 : j = 0 <;> simp [h0]
  rw [e, h.cell]
  simpa using hu
theorem infoSpot : (Try.prog.info? 26).map (fun i => (i.zero, i.size, i.bytes)) = some (some (.agg #[.int .i64 0, .int .i64 0]), 2, 16) := by kernel_rfl
/-- Spots were returned, in memory of the call's own. -/
def GotE (w : World) (E : List Rc) (e : Ending) (w' : World) : Prop := ∃ v, e = .returned v ∧ w'.ownsRow w.heap.size 26 2 v E.length (flS E) ∧ Below w.heap.size w w'
end Go.Proofs.Hd
namespace Go.Proofs
open Go.RowKit Go.Proofs.Hd Go.Lib
set_option maxRecDepth 100000 in
set_option maxHeartbeats 2000000 in
theorem edges_c (tv : Value) (T : List (List Pt)) (w : World) (hT : PsT w tv T) (hP : ports T ≤ 2000000) : Calls Try.prog 9 #[.agg #[tv]] w (GotE w (eTo T T.length)) := by
  obtain ⟨i2, hi2, hz0, hz1, hz2⟩ := info_parts infoSpot
  obtain ⟨A, cap, rfl, htm, hA⟩ := hT
  have htz : (T.length : Int) ≤ 9223372036854775807 := by unfold maxLen at htm; omega
  have HB := Lib.hid (below1 w (.cells #[.slice A T.length cap] 24))
  have HA := Lib.hid hA
  have O0 : Hid ((w.alloc (.cells #[.slice A T.length cap] 24)).ownsRow w.heap.size 26 2 (.slice none 0 0) (eTo T 0).length (flS (eTo T 0))) := World.ownsRow_nil _ _ _ _
  clear hA
  go_enter Try.func9, Try.ntmps9
  go_wp2
  go_loopg [3, 4, 5, 6, 7, 11, 18] T.length (fun gn s3 _ _ _ _ s11 _ wn => ∃ (n : Nat), n ≤ T.length ∧ gn = T.length - n ∧ s11 = .int .i64 n ∧ Hid (wn.ownsRow w.heap.size 26 2 s3 (eTo T n).length (flS (eTo T n))) ∧ Hid (Below w.heap.size w wn))
  case atStart => exact ⟨0, Nat.zero_le _, rfl, rfl, O0, HB⟩
  case round =>
    clear HB O0
    obtain ⟨n, hn, rfl, rfl, HO, HB⟩ := hrel
    by_cases hnt : n < T.length
    · have hntz : (n : Int) < (T.length : Int) := by omega
      obtain ⟨L, hTL⟩ : ∃ L, T[n]? = some L := ⟨_, List.getElem?_eq_getElem hnt⟩
      obtain ⟨b, o, rfl, _, hc⟩ := HA.out (by rintro rfl; simp at hnt)
      obtain ⟨s, hcell0, A1, c1, rfl, hLm, hA1⟩ := hc n L hTL
      have hcell := on_some HB.out hcell0
      have HA1 := Lib.hid hA1
      have HTL := Lib.hid hTL
      have hLz : (L.length : Int) ≤ 9223372036854775807 := by unfold maxLen at hLm; omega
      have HO1 := HO
      rw [show eTo T n = eTo T n ++ eUp n L 0 from (List.append_nil _).symm] at HO1
      clear hTL hcell0 hA1 hc HO
      go_wp2
      clear hcell
      go_loopg [3, 6, 7, 18] L.length (fun gi s3 _ _ s18 wi => ∃ (i : Nat), i ≤ L.length ∧ gi = L.length - i ∧ s18 = .int .i64 i ∧ Hid (wi.ownsRow w.heap.size 26 2 s3 (eTo T n ++ eUp n L i).length (flS (eTo T n ++ eUp n L i))) ∧ Hid (Below w.heap.size w wi))
      case atStart => exact ⟨0, Nat.zero_le _, rfl, rfl, HO1, HB⟩
      case round =>
        clear HB HO1
        obtain ⟨i, hi, rfl, rfl, HO, HB⟩ := hrel
        by_cases hit : i < L.length
        · have hitz : (i : Int) < (L.length : Int) := by omega
          obtain ⟨p, hp⟩ : ∃ p, L[i]? = some p := ⟨_, List.getElem?_eq_getElem hit⟩
          obtain ⟨b1, o1, rfl, _, hpc⟩ := HA1.out (by rintro rfl; simp at hit)
          have hap := (hpc i p hp).on HB.out
          have hes := eUp_succ (n := n) hp
          have hlen := edges_le HTL.out (Nat.le_of_lt hit)
          obtain ⟨E, hE⟩ : ∃ E, Hid (eTo T n ++ eUp n L i = E) := ⟨_, rfl⟩
          rw [hE.out] at HO hlen
          obtain ⟨kd, tn, pr, sp, co⟩ := p
          obtain ⟨d0, d1, d2, d3, d4⟩ := hap
          have hb1 := below1 wr (.cells #[.int .i64 kd, .int .i64 tn, .int .i64 pr, .int .i64 sp, .int .i64 co] 35)
          have HB1 := Lib.hid (HB.out.trans (hb1.mono HB.out.size))
          have HO1 := Lib.hid (own_on HO.out hb1)
          clear hp hpc HB HO hb1
          by_cases hk : kd = 1
          · simp only [hk, if_true] at hes
            subst hk
            have HE2 : Hid (eTo T n ++ eUp n L (i + 1) = E ++ [(n, i)]) := by show _ = _; rw [hes, ← List.append_assoc, hE.out]
            have hb2 := below1 (wr.alloc (.cells #[.int .i64 1, .int .i64 tn, .int .i64 pr, .int .i64 sp, .int .i64 co] 35)) (.cells #[.int .i64 n, .int .i64 i] 26)
            have HB2 := Lib.hid (HB1.out.trans (hb2.mono HB1.out.size))
            have O2 := own_on HO1.out hb2
            have SR := src_spot (Blk.new2 wr (.cells #[.int .i64 1, .int .i64 tn, .int .i64 pr, .int .i64 sp, .int .i64 co] 35) 26 #[.int .i64 n, .int .i64 i])
            have hz3 := HB2.out.size
            clear hes HO1 HB1 hb2
            go_wp2_with (at_builtin; refine wpList_app _ rfl (.tmp 26) (.tmp 30) 29 rfl w.heap.size 26 i2 _ 2 16 Try.underlying29 hi2 hz0 hz1 hz2 rfl (by decide) _ E.length (flS E) rfl O2 _ 1 [.int .i64 n, .int .i64 i] rfl SR (by unfold maxLen; omega) (by omega) hz3 ?_)
            intro v3 w3 O3 hg3
            have HB3 := Lib.hid (HB2.out.grown hg3 hz3 (fun j hj => (O2.lt j hj).1))
            have HO3 : Hid (w3.ownsRow w.heap.size 26 2 v3 (eTo T n ++ eUp n L (i + 1)).length (flS (eTo T n ++ eUp n L (i + 1)))) := by
              show World.ownsRow _ _ _ _ _ _ _
              rw [HE2.out, flS_append, List.length_append]; exact O3
            clear O2 SR O3 hg3 HB2 hz3 d0 d1 d2 d3 d4
            go_wp2
            go_roundg (L.length - (i + 1))
            case measure => omega
            case rel => exact ⟨i + 1, by omega, rfl, by go_num, HO3, HB3⟩
          · simp only [hk, if_false, List.append_nil] at hes
            have HO3 := HO1
            rw [show E = eTo T n ++ eUp n L (i + 1) from by rw [hes, hE.out]] at HO3
            clear hes HO1
            go_wp2
            go_roundg (L.length - (i + 1))
            case measure => omega
            case rel => exact ⟨i + 1, by omega, rfl, by go_num, HO3, HB1⟩
        · have hitz : ¬ (i : Int) < (L.length : Int) := by omega
          obtain rfl : i = L.length := by omega
          have HO2 := HO
          rw [← eTo_succ HTL.out] at HO2
          clear HO
          go_wp2
          go_roundg (T.length - (n + 1))
          case measure => omega
          case rel => exact ⟨n + 1, by omega, rfl, by go_num, HO2, HB⟩
    · have hntz : ¬ (n : Int) < (T.length : Int) := by omega
      obtain rfl : n = T.length := by omega
      go_wp2
      go_ret
      exact ⟨_, rfl, HO.out, HB.out⟩
end Go.Proofs

namespace Go.Proofs.Ytgehddklojplpaa
open Go.ChangeShapes Go.WideShapes Go.ChangeAt Go.RowKit Go.Joins Go.Deep Go.Proofs.Hd
theorem cellsPt : Try.prog.cellsOf 35 = 5 := by kernel_rfl
theorem cellsPts : Try.prog.cellsOf 33 = 1 := by kernel_rfl
theorem cellsPtt : Try.prog.cellsOf 22 = 1 := by kernel_rfl
theorem cellsTopo : Try.prog.cellsOf 24 = 1 := by kernel_rfl
theorem cellsSpot : Try.prog.cellsOf 26 = 2 := by kernel_rfl
theorem cellsI : Try.prog.cellsOf 3 = 1 := by kernel_rfl
theorem add_plainW (b o n : Nat) : (⟨b, o, none⟩ : Addr).add n = ⟨b, o + n, none⟩ := by unfold Addr.add; by_cases hn : n = 0 <;> simp [hn]
instance : Inhabited Pt := ⟨⟨0, 0, 0, 0, 0⟩⟩
section
variable {H : Type} {enc : TypeId × Value → H} {W : World} {base : Nat} {sp : Nat → Bool}
theorem int_of {n : Nat} {c : Value} {y : DataW H × List MemPlace} (h : DataW.trod enc Try.prog W base sp true n 3 [c] = some y) : ∃ k : Int, c = .int .i64 k := by
  obtain ⟨k, e0, _, _⟩ := DataW.trod_int Try.underlying3 h
  simp at e0
  exact ⟨k, e0⟩
set_option maxRecDepth 100000 in
theorem read_pt {n : Nat} {cs : List Value} {y : DataW H × List MemPlace} (hl : cs.length = 5) (h0 : DataW.trod enc Try.prog W base sp true n 35 cs = some y) : ∃ p : Pt, cs = p.cs := by
  obtain ⟨xs, m, _, _, _, hxs, hf⟩ := DataW.trod_struct Try.underlying35 h0
  have hx5 : xs.length = 5 := hxs
  match cs, hl with
  | [c0, c1, c2, c3, c4], _ =>
    match xs, hx5 with
    | [x0, x1, x2, x3, x4], _ =>
      have q0 := hf 0 _ rfl
      have q1 := hf 1 _ rfl
      have q2 := hf 2 _ rfl
      have q3 := hf 3 _ rfl
      have q4 := hf 4 _ rfl
      simp [cellsI] at q0 q1 q2 q3 q4
      obtain ⟨k0, rfl⟩ := int_of q0
      obtain ⟨k1, rfl⟩ := int_of q1
      obtain ⟨k2, rfl⟩ := int_of q2
      obtain ⟨k3, rfl⟩ := int_of q3
      obtain ⟨k4, rfl⟩ := int_of q4
      exact ⟨⟨k0, k1, k2, k3, k4⟩, rfl⟩
end
/-- How many values a datum of ports has. -/
def wide {H : Type} (d : DataW H) (n : Nat) : Prop := n = 0 ∨ ∃ el sp, d = .slice el sp ∧ el.length = n
set_option maxRecDepth 100000 in
/-- A slice of ports that lies in memory. -/
theorem read_pts {H : Type} {enc : TypeId × Value → H} {W : World} {n : Nat} {cs : List Value} {y : DataW H × List MemPlace} (hf : DataW.trod enc Try.prog W 0 (fun _ => true) true n 33 cs = some y) :
    ∃ (A : Option Addr) (cap : Nat) (L : List Pt), cs = [.slice A L.length cap] ∧ Ps W (.slice A L.length cap) L ∧ wide y.1 L.length := by
  rcases open_slice Try.underlying33 hf with ⟨h1, _⟩ | ⟨a, len, cap, m, n, D, Pl, hcs, _, hlc, hcm, hm, hx, hel⟩
  · exact ⟨none, 0, [], h1, ⟨none, 0, rfl, Nat.zero_le _, fun h => absurd rfl h⟩, .inl rfl⟩
  · rw [cellsPt] at hel
    have hm' : m = cap := by simpa using hm
    subst hm'
    obtain ⟨f, hfr⟩ := choose_lt (α := Pt) (p := fun i r => ∀ (j : Nat) (u : Value), r.cs[j]? = some u → W.cell? ((a.add (i * 5)).add j) = some u) (fun i (hi : i < m) => by
      obtain ⟨cs', hc, ht⟩ := hel i hi
      obtain ⟨_, hl, hat⟩ := World.cells?_some hc
      obtain ⟨r, rfl⟩ := read_pt hl ht
      refine ⟨r, fun j u hj => ?_⟩
      have hj' : j < 5 := by have := (List.getElem?_eq_some_iff.1 hj).1; rwa [Pt.cs_len] at this
      exact (hat j hj').trans hj)
    have hlen : ((List.range len).map f).length = len := by simp
    have hd := congrArg Prod.fst hx
    refine ⟨some a, m, (List.range len).map f, by rw [hlen]; exact hcs, ⟨some a, m, rfl, by rw [hlen]; exact Nat.le_trans hlc hcm, fun hne => ?_⟩, .inr ⟨_, _, hd, by simp⟩⟩
    have h0 : 0 < len := by
      rcases Nat.eq_zero_or_pos len with h | h
      · subst h; exact absurd (by simp) hne
      · exact h
    have h1 := hfr 0 (by omega) 0 _ rfl
    obtain ⟨b, off, spot⟩ := a
    have hs : spot = none := by
      have := World.cell?_spot h1
      simpa [Addr.add] using this
    subst hs
    have hlt := World.block_lt_of_cell? W _ h1
    rw [add_plainW, add_plainW] at hlt
    refine ⟨b, off, rfl, hlt, fun k r hk => ?_⟩
    obtain ⟨hkl, rfl⟩ := List.getElem?_eq_some_iff.1 hk
    simp only [List.length_map, List.length_range] at hkl
    simp only [List.getElem_map, List.getElem_range]
    have key : ∀ j u, (f k).cs[j]? = some u → W.cell? ⟨b, off + k * 5 + j, none⟩ = some u := fun j u hj => by
      have := hfr k (by omega) j u hj
      rw [add_plainW, add_plainW] at this
      exact this
    exact ⟨key 0 _ rfl, key 1 _ rfl, key 2 _ rfl, key 3 _ rfl, key 4 _ rfl⟩
set_option maxRecDepth 100000 in
/-- A topology by value. -/
theorem open_topo {H : Type} {enc : TypeId × Value → H} {W : World} {base : Nat} {v : Value} {d : DataW H} {p : List MemPlace} (hok : Value.okWide Try.prog W .any base 24 v)
    (h0 : DataW.Trod enc Try.prog W 0 (fun _ => true) true 24 v d p) : ∃ (tv : Value) (T : List (List Pt)), v = .agg #[tv] ∧ PsT W tv T ∧ ∃ dp : DataW H, d = .agg [dp] ∧ (T = [] ∨ ∃ el sp, dp = .slice el sp ∧ el.length = T.length ∧ ∀ (k : Nat) (L : List Pt), T[k]? = some L → ∃ e, el[k]? = some e ∧ wide e L.length) := by
  obtain ⟨cs, rfl, hsz⟩ := okWide_struct Try.underlying24 hok
  obtain ⟨fuel, hf0⟩ := h0
  have hf : DataW.trod enc Try.prog W 0 (fun _ => true) true fuel 24 cs.toList = some (d, p) := by simpa [Value.cells] using hf0
  obtain ⟨xs, m0, _, hd0, _, hxs, hff⟩ := DataW.trod_struct Try.underlying24 hf
  have hx1 : xs.length = 1 := hxs
  have hc1 : cs.toList.length = 1 := by simpa using hsz.trans cellsTopo
  match xs, hx1 with
  | [x0], _ =>
    have hd : d = .agg [x0.1] := congrArg Prod.fst hd0
    have q0 := hff 0 _ rfl
    obtain ⟨c0, hcs0⟩ : ∃ c0, cs.toList = [c0] := List.length_eq_one_iff.1 hc1
    rw [hcs0] at q0
    simp [cellsPtt] at q0
    have hv : Value.agg cs = .agg #[c0] := by
      congr 1
      apply Array.toList_inj.1
      rw [hcs0]
    rcases open_slice Try.underlying22 q0 with ⟨h1, _⟩ | ⟨a, len, cap, m, n, D, Pl, hcs, _, hlc, hcm, hm, hx, hel⟩
    · injection h1 with h1
      subst h1
      exact ⟨_, [], hv, ⟨none, 0, rfl, Nat.zero_le _, fun h => absurd rfl h⟩, _, hd, .inl rfl⟩
    · injection hcs with hcs
      subst hcs
      rw [cellsPts] at hel
      have hm' : m = cap := by simpa using hm
      subst hm'
      obtain ⟨f, hfr⟩ := choose_lt (α := List Pt) (p := fun i L => (∃ s, W.cell? ((a.add (i * 1)).add 0) = some s ∧ Ps W s L) ∧ wide (D i) L.length) (fun i (hi : i < m) => by
        obtain ⟨cs', hc, ht⟩ := hel i hi
        obtain ⟨_, hl, hat⟩ := World.cells?_some hc
        obtain ⟨A, cap, L, rfl, hr, hw⟩ := read_pts ht
        exact ⟨L, ⟨_, hat 0 (by omega), hr⟩, hw⟩)
      have hlen : ((List.range len).map f).length = len := by simp
      have hd2 := congrArg Prod.fst hx
      refine ⟨_, (List.range len).map f, hv, ⟨some a, m, by rw [hlen], by rw [hlen]; exact Nat.le_trans hlc hcm, fun hne => ?_⟩, _, hd, .inr ⟨_, _, hd2, by simp, fun k L hk => ?_⟩⟩
      · have h0 : 0 < len := by
          rcases Nat.eq_zero_or_pos len with h | h
          · subst h; exact absurd (by simp) hne
          · exact h
        obtain ⟨⟨s, h1, _⟩, _⟩ := hfr 0 (by omega)
        obtain ⟨b, off, spot⟩ := a
        have hs : spot = none := by
          have := World.cell?_spot h1
          simpa [Addr.add] using this
        subst hs
        have hlt := World.block_lt_of_cell? W _ h1
        rw [add_plainW, add_plainW] at hlt
        refine ⟨b, off, rfl, hlt, fun k L hk => ?_⟩
        obtain ⟨hkl, rfl⟩ := List.getElem?_eq_some_iff.1 hk
        simp only [List.length_map, List.length_range] at hkl
        simp only [List.getElem_map, List.getElem_range]
        obtain ⟨⟨s, h2, h3⟩, _⟩ := hfr k (by omega)
        rw [add_plainW, add_plainW, Nat.add_zero, Nat.mul_one] at h2
        exact ⟨s, h2, h3⟩
      · obtain ⟨hkl, rfl⟩ := List.getElem?_eq_some_iff.1 hk
        simp only [List.length_map, List.length_range] at hkl
        simp only [List.getElem_map, List.getElem_range]
        exact ⟨D k, by simp [hkl], (hfr k (by omega)).2⟩
set_option maxRecDepth 100000 in
/-- A spot by value. -/
theorem open_spot {H : Type} {enc : TypeId × Value → H} {W : World} {base : Nat} {v : Value} {d : DataW H} {p : List MemPlace} (hok : Value.okWide Try.prog W .any base 26 v)
    (h0 : DataW.Trod enc Try.prog W 0 (fun _ => true) true 26 v d p) : ∃ a b : Int, v = .agg #[.int .i64 a, .int .i64 b] := by
  obtain ⟨c0, c1, y0, y1, m, rfl, rfl, rfl, hy0, hy1⟩ := open_agg2 Try.underlying26 (by kernel_rfl) cellsSpot hok h0
  obtain ⟨a, rfl⟩ := int_of hy0
  obtain ⟨b, rfl⟩ := int_of hy1
  exact ⟨a, b, rfl⟩
end Go.Proofs.Ytgehddklojplpaa

namespace Go.Proofs.Hd
/-- A way from a: the switches that it visits, the last one first, and its cost. G n m c: a link from n to m that costs c. -/
inductive Way (G : Nat → Nat → Nat → Prop) (a : Nat) : List Nat → Nat → Prop
  | start : Way G a [a] 0
  | link {b c w s : Nat} {vs : List Nat} : Way G a (b :: vs) s → G b c w → Way G a (c :: b :: vs) (s + w)
theorem Way.ne {G : Nat → Nat → Nat → Prop} {a s : Nat} (h : Way G a [] s) : False := by cases h
theorem Way.suffix {G : Nat → Nat → Nat → Prop} {a : Nat} {us vs : List Nat} {b : Nat} : ∀ {s : Nat}, Way G a (us ++ b :: vs) s → ∃ t, t ≤ s ∧ Way G a (b :: vs) t := by
  induction us with
  | nil => intro s h; exact ⟨s, Nat.le_refl _, h⟩
  | cons c us ih =>
    intro s h
    cases us with
    | nil =>
      cases h with
      | link h g => exact ⟨_, Nat.le_add_right _ _, h⟩
    | cons d us =>
      cases h with
      | link h g =>
        obtain ⟨t, h1, h2⟩ := ih h
        exact ⟨t, Nat.le_trans h1 (Nat.le_add_right _ _), h2⟩
/-- Each way has one to the same end that visits no switch twice and costs no more. -/
theorem Way.once {G : Nat → Nat → Nat → Prop} {a : Nat} : ∀ {vs : List Nat} {b s : Nat}, Way G a (b :: vs) s → ∃ us t, t ≤ s ∧ (b :: us).Nodup ∧ Way G a (b :: us) t := by
  intro vs
  induction vs with
  | nil =>
    intro b s h
    exact ⟨[], s, Nat.le_refl _, by simp, h⟩
  | cons c vs ih =>
    intro b s h
    cases h with
    | @link _ _ w s' _ h g =>
      obtain ⟨us, t, h1, h2, h3⟩ := ih h
      by_cases hm : b ∈ c :: us
      · obtain ⟨l1, l2, e⟩ := List.append_of_mem hm
        rw [e] at h2 h3
        obtain ⟨q, h4, h5⟩ := h3.suffix
        exact ⟨l2, q, by omega, (List.nodup_append.1 h2).2.1, h5⟩
      · exact ⟨c :: us, t + w, by omega, List.nodup_cons.2 ⟨hm, h2⟩, .link h3 g⟩
theorem nodup_len : ∀ {N : Nat} {vs : List Nat}, vs.Nodup → (∀ v ∈ vs, v < N) → vs.length ≤ N
  | 0, vs, _, h => by
    cases vs with
    | nil => simp
    | cons v vs => exact absurd (h v (List.mem_cons_self ..)) (Nat.not_lt_zero _)
  | N + 1, vs, hn, h => by
    by_cases hm : N ∈ vs
    · have h1 : (vs.erase N).Nodup := hn.erase N
      have h2 : ∀ v ∈ vs.erase N, v < N := fun v hv => by
        have := (hn.mem_erase_iff).1 hv
        have := h v this.2
        omega
      have := nodup_len h1 h2
      rw [List.length_erase_of_mem hm] at this
      omega
    · have h2 : ∀ v ∈ vs, v < N := fun v hv => by
        have := h v hv
        have : v ≠ N := fun e => hm (e ▸ hv)
        omega
      have := nodup_len hn h2
      omega
theorem Way.lt {G : Nat → Nat → Nat → Prop} {a N : Nat} (ha : a < N) (hG : ∀ b c w, G b c w → c < N) : ∀ {vs : List Nat} {s : Nat}, Way G a vs s → ∀ v ∈ vs, v < N := by
  intro vs s h
  induction h with
  | start => intro v hv; rw [List.mem_singleton] at hv; omega
  | link _ g ih =>
    intro v hv
    rcases List.mem_cons.1 hv with e | hv
    · rw [e]; exact hG _ _ _ g
    · exact ih v hv
/-- Costs as a list of numbers has them: -1 for none. -/
def isFar (G : Nat → Nat → Nat → Prop) (a N : Nat) (f : Nat → Int) : Prop := ∀ b, b < N → (f b = -1 ∧ ∀ vs s, ¬ Way G a (b :: vs) s) ∨ ∃ t : Nat, f b = t ∧ (∃ vs, Way G a (b :: vs) t) ∧ ∀ vs s, Way G a (b :: vs) s → t ≤ s
theorem isFar.unique {G : Nat → Nat → Nat → Prop} {a N : Nat} {f g : Nat → Int} (hf : isFar G a N f) (hg : isFar G a N g) : ∀ b, b < N → f b = g b := by
  intro b hb
  rcases hf b hb with ⟨e1, h1⟩ | ⟨t, e1, ⟨vs, h1⟩, h2⟩ <;> rcases hg b hb with ⟨e2, h3⟩ | ⟨u, e2, ⟨us, h3⟩, h4⟩
  · rw [e1, e2]
  · exact absurd h3 (h1 us u)
  · exact absurd h1 (h3 vs t)
  · rw [e1, e2]
    have := h2 us u h3
    have := h4 vs t h1
    omega
/-- What starts at 0, tells of ways that there are, and gets no nearer by any link, is the least cost. -/
theorem isFar.of {G : Nat → Nat → Nat → Prop} {a N : Nat} {f : Nat → Int} (h0 : f a = 0) (hs : ∀ b, b < N → f b = -1 ∨ ∃ t : Nat, f b = t ∧ ∃ vs, Way G a (b :: vs) t)
    (hc : ∀ b c w, G b c w → 0 ≤ f b → 0 ≤ f c ∧ f c ≤ f b + w) : isFar G a N f := by
  have key : ∀ {vs : List Nat} {b s : Nat}, Way G a (b :: vs) s → 0 ≤ f b ∧ f b ≤ s := by
    intro vs
    induction vs with
    | nil =>
      intro b s h
      cases h with
      | start => rw [h0]; omega
    | cons c vs ih =>
      intro b s h
      cases h with
      | link h g =>
        obtain ⟨h1, h2⟩ := ih h
        obtain ⟨h3, h4⟩ := hc _ _ _ g h1
        exact ⟨h3, by omega⟩
  intro b hb
  rcases hs b hb with e | ⟨t, e, vs, h⟩
  · refine .inl ⟨e, fun vs s h => ?_⟩
    have := (key h).1
    omega
  · refine .inr ⟨t, e, ⟨vs, h⟩, fun us s hu => ?_⟩
    have := (key hu).2
    omega
/-- Behind as many rounds as there are switches, what is no further than any way of at most that many links gets no nearer. -/
theorem closed_of_rounds {G : Nat → Nat → Nat → Prop} {a N : Nat} {f : Nat → Int} (ha : a < N) (hG : ∀ b c w, G b c w → c < N) (hG2 : ∀ b c w, G b c w → b < N) (hs : ∀ b, b < N → f b = -1 ∨ ∃ t : Nat, f b = t ∧ ∃ vs, Way G a (b :: vs) t)
    (hr : ∀ vs b s, Way G a (b :: vs) s → vs.length ≤ N → 0 ≤ f b ∧ f b ≤ s) : ∀ b c w, G b c w → 0 ≤ f b → 0 ≤ f c ∧ f c ≤ f b + w := by
  intro b c w g hb
  rcases hs b (hG2 _ _ _ g) with e | ⟨t, e, vs, h⟩
  · omega
  · obtain ⟨us, q, h1, h2, h3⟩ := h.once
    have hl := nodup_len h2 (h3.lt ha hG)
    rw [List.length_cons] at hl
    have h4 := hr (b :: us) c (q + w) (.link h3 g) (by rw [List.length_cons]; exact hl)
    exact ⟨h4.1, by omega⟩
theorem Way.trans {G : Nat → Nat → Nat → Prop} {a b s : Nat} {vs : List Nat} (h : Way G a (b :: vs) s) : ∀ {us : List Nat} {c t : Nat}, Way G b (c :: us) t → ∃ ws, Way G a (c :: ws) (s + t) := by
  intro us
  induction us with
  | nil =>
    intro c t k
    cases k with
    | start => exact ⟨vs, h⟩
  | cons d us ih =>
    intro c t k
    cases k with
    | link k g =>
      obtain ⟨ws, h1⟩ := ih k
      exact ⟨_, by rw [← Nat.add_assoc]; exact .link h1 g⟩
/-- Where links lead both ways, so do ways. -/
theorem Way.back {G : Nat → Nat → Nat → Prop} (hG : ∀ b c w, G b c w → G c b w) {a : Nat} : ∀ {vs : List Nat} {b s : Nat}, Way G a (b :: vs) s → ∃ ws, Way G b (a :: ws) s := by
  intro vs
  induction vs with
  | nil =>
    intro b s h
    cases h with
    | start => exact ⟨[], .start⟩
  | cons c vs ih =>
    intro b s h
    cases h with
    | link h g =>
      obtain ⟨ws, h1⟩ := ih h
      have h2 : Way G b (c :: [b]) (0 + _) := .link .start (hG _ _ _ g)
      obtain ⟨us, h3⟩ := h2.trans h1
      exact ⟨us, by rw [Nat.zero_add, Nat.add_comm] at h3; exact h3⟩
theorem isFar.sym {G : Nat → Nat → Nat → Prop} (hG : ∀ b c w, G b c w → G c b w) {a b N : Nat} {f g : Nat → Int} (ha : a < N) (hb : b < N) (hf : isFar G a N f) (hg : isFar G b N g) : f b = g a := by
  rcases hf b hb with ⟨e1, h1⟩ | ⟨t, e1, ⟨vs, h1⟩, h2⟩ <;> rcases hg a ha with ⟨e2, h3⟩ | ⟨u, e2, ⟨us, h3⟩, h4⟩
  · rw [e1, e2]
  · obtain ⟨ws, h⟩ := h3.back hG
    exact absurd h (h1 ws u)
  · obtain ⟨ws, h⟩ := h1.back hG
    exact absurd h (h3 ws t)
  · obtain ⟨ws, h5⟩ := h3.back hG
    obtain ⟨xs, h6⟩ := h1.back hG
    have := h2 ws u h5
    have := h4 xs t h6
    rw [e1, e2]
    omega
theorem isFar.tri {G : Nat → Nat → Nat → Prop} {a b c N : Nat} {f g : Nat → Int} (hb : b < N) (hc : c < N) (hf : isFar G a N f) (hg : isFar G b N g) (h1 : 0 ≤ f b) (h2 : 0 ≤ g c) : 0 ≤ f c ∧ f c ≤ f b + g c := by
  rcases hf b hb with ⟨e, _⟩ | ⟨t, e1, ⟨vs, w1⟩, _⟩
  · omega
  · rcases hg c hc with ⟨e, _⟩ | ⟨u, e2, ⟨us, w2⟩, _⟩
    · omega
    · obtain ⟨ws, w3⟩ := w1.trans w2
      rcases hf c hc with ⟨_, h⟩ | ⟨q, e3, _, h⟩
      · exact absurd w3 (h ws _)
      · have := h ws _ w3
        omega
end Go.Proofs.Hd

namespace Go.Proofs.Hd
theorem least {p : Nat → Prop} (h : ∃ t, p t) : ∃ t, p t ∧ ∀ s, p s → t ≤ s := by
  obtain ⟨t, ht⟩ := h
  induction t using Nat.strongRecOn with
  | _ t ih =>
    by_cases hs : ∃ s, s < t ∧ p s
    · obtain ⟨s, h1, h2⟩ := hs
      exact ih s h1 h2
    · exact ⟨t, ht, fun s h2 => Nat.le_of_not_lt fun h1 => hs ⟨s, h1, h2⟩⟩
open Classical in
/-- The least cost of a way from a to b; -1 for none. -/
noncomputable def dst (G : Nat → Nat → Nat → Prop) (a b : Nat) : Int := if h : ∃ t, ∃ vs, Way G a (b :: vs) t then ((Classical.choose (least h) : Nat) : Int) else -1
theorem dst_isFar (G : Nat → Nat → Nat → Prop) (a N : Nat) : isFar G a N (dst G a) := by
  intro b _
  unfold dst
  split
  · rename_i h
    have hs := Classical.choose_spec (least h)
    exact .inr ⟨_, rfl, hs.1, fun vs s hw => hs.2 s ⟨vs, hw⟩⟩
  · rename_i h
    exact .inl ⟨rfl, fun vs s hw => h ⟨s, vs, hw⟩⟩
theorem dst_of {G : Nat → Nat → Nat → Prop} {a N : Nat} {f : Nat → Int} (h : isFar G a N f) {b : Nat} (hb : b < N) : f b = dst G a b := h.unique (dst_isFar G a N) b hb
theorem dst_self (G : Nat → Nat → Nat → Prop) (a : Nat) : dst G a a = 0 := by
  rcases dst_isFar G a (a + 1) a (Nat.lt_succ_self a) with ⟨_, h⟩ | ⟨t, e, _, h⟩
  · exact absurd Way.start (h [] 0)
  · have := h [] 0 .start
    rw [e]; omega
theorem dst_ge (G : Nat → Nat → Nat → Prop) (a b : Nat) : -1 ≤ dst G a b := by
  rcases dst_isFar G a (b + 1) b (Nat.lt_succ_self b) with ⟨e, _⟩ | ⟨t, e, _⟩ <;> omega
theorem dst_sym {G : Nat → Nat → Nat → Prop} (hG : ∀ b c w, G b c w → G c b w) (a b : Nat) : dst G a b = dst G b a :=
  isFar.sym hG (N := a + b + 1) (by omega) (by omega) (dst_isFar G a _) (dst_isFar G b _)
theorem dst_tri (G : Nat → Nat → Nat → Prop) {a b c : Nat} (h1 : 0 ≤ dst G a b) (h2 : 0 ≤ dst G b c) : 0 ≤ dst G a c ∧ dst G a c ≤ dst G a b + dst G b c :=
  isFar.tri (N := b + c + 1) (by omega) (by omega) (dst_isFar G a _) (dst_isFar G b _) h1 h2
theorem dst_link {G : Nat → Nat → Nat → Prop} {a b c w : Nat} (hg : G b c w) (h : 0 ≤ dst G a b) : 0 ≤ dst G a c ∧ dst G a c ≤ dst G a b + w := by
  rcases dst_isFar G a (b + 1) b (Nat.lt_succ_self b) with ⟨e, _⟩ | ⟨t, e, ⟨vs, hw⟩, _⟩
  · omega
  · rcases dst_isFar G a (c + 1) c (Nat.lt_succ_self c) with ⟨_, h2⟩ | ⟨u, e2, _, h2⟩
    · exact absurd (Way.link hw hg) (h2 _ _)
    · have := h2 _ _ (Way.link hw hg)
      rw [e, e2]; omega
/-- A switch that can be reached and is not the start is reached by a link from a nearer one. -/
theorem dst_last {G : Nat → Nat → Nat → Prop} {a b : Nat} (hne : a ≠ b) (h : 0 ≤ dst G a b) : ∃ c w, G c b w ∧ 0 ≤ dst G a c ∧ dst G a c + w = dst G a b := by
  rcases dst_isFar G a (b + 1) b (Nat.lt_succ_self b) with ⟨e, _⟩ | ⟨t, e, ⟨vs, hw⟩, hm⟩
  · omega
  · cases hw with
    | start => exact absurd rfl hne
    | @link c _ w s us hw hg =>
      rcases dst_isFar G a (c + 1) c (Nat.lt_succ_self c) with ⟨_, h2⟩ | ⟨u, e2, ⟨us', hw'⟩, h2⟩
      · exact absurd hw (h2 _ _)
      · refine ⟨c, w, hg, by omega, ?_⟩
        have h3 := h2 _ _ hw
        have h4 := hm _ _ (Way.link hw' hg)
        rw [e, e2]; omega
/-- What a search by a heap knows: f the costs told (-1: not yet), L the switches that are open. -/
structure Dj (G : Nat → Nat → Nat → Prop) (a N : Nat) (f : Nat → Int) (L : List Rc) : Prop where
  low : ∀ b, b < N → f b = -1 ∨ ∃ t : Nat, f b = t ∧ ∃ vs, Way G a (b :: vs) t
  way : ∀ x ∈ L, x.1 < N ∧ ∃ vs, Way G a (x.1 :: vs) x.2
  link : ∀ b c w, G b c w → 0 ≤ f b → (0 ≤ f c ∧ f c ≤ f b + w) ∨ ∃ x ∈ L, x.1 = c ∧ (x.2 : Int) = f b + w
  start : f a = 0 ∨ (f a = -1 ∧ (a, 0) ∈ L)
  near : ∀ b, b < N → ∀ x ∈ L, f b ≤ x.2
theorem Dj.begin {G : Nat → Nat → Nat → Prop} {a N : Nat} (ha : a < N) : Dj G a N (fun _ => -1) [(a, 0)] where
  low := fun _ _ => .inl rfl
  way := fun x hx => by simp at hx; subst hx; exact ⟨ha, [], .start⟩
  link := fun b c w _ h => by omega
  start := .inr ⟨rfl, by simp⟩
  near := fun b _ x _ => by omega
/-- The nearest open switch is known already. -/
theorem Dj.skip {G : Nat → Nat → Nat → Prop} {a N : Nat} {f : Nat → Int} {L L' : List Rc} {x : Rc} (h : Dj G a N f L) (hp : (x :: L').Perm L) (hk : 0 ≤ f x.1) : Dj G a N f L' where
  low := h.low
  way := fun y hy => h.way y (hp.subset (List.mem_cons_of_mem _ hy))
  link := fun b c w hg hb => by
    rcases h.link b c w hg hb with h1 | ⟨y, hy, e1, e2⟩
    · exact .inl h1
    · rcases List.mem_cons.1 (hp.symm.subset hy) with rfl | hy'
      · subst e1
        refine .inl ⟨hk, ?_⟩
        rw [← e2]
        exact h.near _ (h.way y (hp.subset (List.mem_cons_self ..))).1 y (hp.subset (List.mem_cons_self ..))
      · exact .inr ⟨y, hy', e1, e2⟩
  start := by
    rcases h.start with h1 | ⟨h1, h2⟩
    · exact .inl h1
    · rcases List.mem_cons.1 (hp.symm.subset h2) with e | hy'
      · subst e; simp at hk; omega
      · exact .inr ⟨h1, hy'⟩
  near := fun b hb y hy => h.near b hb y (hp.subset (List.mem_cons_of_mem _ hy))
/-- The nearest open switch is told, and what it links to is opened. -/
theorem Dj.tell {G : Nat → Nat → Nat → Prop} {a N : Nat} {f g : Nat → Int} {L L' M M' : List Rc} {x : Rc} (h : Dj G a N f L) (hp : (x :: L').Perm L) (hmin : ∀ y ∈ L, x.2 ≤ y.2) (hk : f x.1 = -1)
    (hg1 : g x.1 = x.2) (hg2 : ∀ b, b ≠ x.1 → g b = f b) (hM : M.Perm (M' ++ L')) (hM1 : ∀ y ∈ M', y.1 < N ∧ ∃ w, G x.1 y.1 w ∧ y.2 = x.2 + w) (hM2 : ∀ c w, G x.1 c w → (c, x.2 + w) ∈ M') : Dj G a N g M := by
  have hxL : x ∈ L := hp.subset (List.mem_cons_self ..)
  obtain ⟨hxN, vs, hw⟩ := h.way x hxL
  have mem : ∀ y, y ∈ M ↔ y ∈ M' ∨ y ∈ L' := fun y => by rw [hM.mem_iff, List.mem_append]
  have sub : ∀ y ∈ L', y ∈ L := fun y hy => hp.subset (List.mem_cons_of_mem _ hy)
  refine ⟨fun b hb => ?_, fun y hy => ?_, fun b c w hgl hb => ?_, ?_, fun b hb y hy => ?_⟩
  · by_cases e : b = x.1
    · subst e; exact .inr ⟨x.2, hg1, vs, hw⟩
    · rw [hg2 b e]; exact h.low b hb
  · rcases (mem y).1 hy with hy | hy
    · obtain ⟨h1, w, h2, h3⟩ := hM1 y hy
      refine ⟨h1, x.1 :: vs, ?_⟩
      rw [h3]; exact .link hw h2
    · exact h.way y (sub y hy)
  · by_cases e : b = x.1
    · subst e
      refine .inr ⟨(c, x.2 + w), (mem _).2 (.inl (hM2 c w hgl)), rfl, ?_⟩
      rw [hg1]; simp
    · rw [hg2 b e] at hb ⊢
      by_cases ec : c = x.1
      · subst ec
        refine .inl ⟨by rw [hg1]; omega, ?_⟩
        rw [hg1]
        rcases h.link b _ w hgl hb with ⟨h1, _⟩ | ⟨y, hy, _, e2⟩
        · omega
        · have := hmin y hy; omega
      · rw [hg2 c ec]
        rcases h.link b c w hgl hb with h1 | ⟨y, hy, e1, e2⟩
        · exact .inl h1
        · rcases List.mem_cons.1 (hp.symm.subset hy) with rfl | hy'
          · exact absurd e1.symm ec
          · exact .inr ⟨y, (mem y).2 (.inr hy'), e1, e2⟩
  · rcases h.start with h1 | ⟨h1, h2⟩
    · left
      rw [hg2 a (fun e => by rw [← e] at hk; omega)]; exact h1
    · by_cases e : a = x.1
      · left
        have := hmin _ h2
        simp only at this
        rw [e, hg1]; omega
      · right
        rw [hg2 a e]
        refine ⟨h1, (mem _).2 (.inr ?_)⟩
        rcases List.mem_cons.1 (hp.symm.subset h2) with e2 | hy'
        · exact absurd (by rw [← e2]) e
        · exact hy'
  · have hfx : ∀ z ∈ M, (x.2 : Int) ≤ z.2 := fun z hz => by
      rcases (mem z).1 hz with hz | hz
      · obtain ⟨_, w, _, h3⟩ := hM1 z hz; omega
      · have := hmin z (sub z hz); omega
    by_cases e : b = x.1
    · subst e; rw [hg1]; exact hfx y hy
    · rw [hg2 b e]
      have h1 := h.near b hb x hxL
      have h2 := hfx y hy
      omega
theorem Dj.done {G : Nat → Nat → Nat → Prop} {a N : Nat} {f : Nat → Int} (h : Dj G a N f []) : isFar G a N f := by
  refine isFar.of ?_ h.low fun b c w hg hb => ?_
  · rcases h.start with h1 | ⟨_, h2⟩
    · exact h1
    · cases h2
  · rcases h.link b c w hg hb with h1 | ⟨_, h2, _⟩
    · exact h1
    · cases h2
end Go.Proofs.Hd

namespace Go.Proofs.Hd
/-- The links of a topology. -/
def Gt (T : List (List Pt)) (n m c : Nat) : Prop := ∃ (L : List Pt) (i : Nat) (p : Pt), T[n]? = some L ∧ L[i]? = some p ∧ p.kind = 2 ∧ p.peer = (m : Int) ∧ p.cost = (c : Int)
/-- What is known of a sound topology. -/
structure Snd (T : List (List Pt)) : Prop where
  n1 : 1 ≤ T.length
  n6 : T.length ≤ 6
  l6 : ∀ L ∈ T, L.length ≤ 6
  lk : ∀ (n i : Nat) (L : List Pt) (p : Pt), T[n]? = some L → L[i]? = some p → p.kind = 2 → ∃ (m j c : Nat) (L' : List Pt), p.peer = (m : Int) ∧ p.spot = (j : Int) ∧ p.cost = (c : Int) ∧ 1 ≤ c ∧ c ≤ 1000 ∧ m ≠ n ∧ T[m]? = some L' ∧ L'[j]? = some ⟨2, 0, (n : Int), (i : Int), (c : Int)⟩
theorem Snd.of {T : List (List Pt)} (h : sTp T = 0) : Snd T := by
  obtain ⟨hs, ho⟩ := sTp_zero h
  obtain ⟨h1, h2, h3⟩ := szT_iff.1 hs
  refine ⟨h1, h2, h3, fun n i L p hL hp hk => ?_⟩
  have hx := ho n i L p (List.getElem?_eq_some_iff.1 hL).1 hL hp
  obtain ⟨kd, tn, pr, sp, co⟩ := p
  simp only at hk
  subst hk
  simp only [okP, show ¬ (2 : Int) = 1 from by decide, if_false, if_true, Bool.and_eq_true, decide_eq_true_eq] at hx
  obtain ⟨⟨⟨_, hc1⟩, hc2⟩, ha⟩ := hx
  unfold ansP at ha
  simp only at ha
  cases hq : ptAt T pr sp with
  | none => rw [hq] at ha; cases ha
  | some q =>
    rw [hq] at ha
    simp only [Bool.and_eq_true, Bool.not_eq_true'] at ha
    obtain ⟨hne, he⟩ := ha
    have he2 := eqP_iff.1 he
    obtain ⟨m, j, L', e1, e2, h4, h5⟩ := ptAt_some hq
    subst e1 e2
    obtain ⟨c, rfl⟩ : ∃ c : Nat, co = (c : Int) := ⟨co.toNat, by omega⟩
    refine ⟨m, j, c, L', rfl, rfl, rfl, by omega, by omega, ?_, h4, ?_⟩
    · rintro rfl
      simp at hne
    · rw [h5, he2]
theorem Gt.lt {T : List (List Pt)} (h : Snd T) {n m c : Nat} (g : Gt T n m c) : n < T.length ∧ m < T.length ∧ m ≠ n ∧ 1 ≤ c ∧ c ≤ 1000 := by
  obtain ⟨L, i, p, hL, hp, hk, e1, e2⟩ := g
  obtain ⟨m', j, c', L', f1, _, f3, h1, h2, h3, h4, _⟩ := h.lk n i L p hL hp hk
  obtain rfl : m = m' := by omega
  obtain rfl : c = c' := by omega
  exact ⟨(List.getElem?_eq_some_iff.1 hL).1, (List.getElem?_eq_some_iff.1 h4).1, h3, h1, h2⟩
theorem Gt.sym {T : List (List Pt)} (h : Snd T) {n m c : Nat} (g : Gt T n m c) : Gt T m n c := by
  obtain ⟨L, i, p, hL, hp, hk, e1, e2⟩ := g
  obtain ⟨m', j, c', L', f1, _, f3, _, _, _, h4, h5⟩ := h.lk n i L p hL hp hk
  obtain rfl : m = m' := by omega
  obtain rfl : c = c' := by omega
  exact ⟨L', j, _, h4, h5, rfl, rfl, rfl⟩
/-- One number changes. -/
def upd (f : Nat → Int) (m : Nat) (v : Int) : Nat → Int := fun k => if k = m then v else f k
theorem upd_at (f : Nat → Int) (m : Nat) (v : Int) : upd f m v m = v := by simp [upd]
theorem upd_ne (f : Nat → Int) {m k : Nat} (v : Int) (h : k ≠ m) : upd f m v k = f k := by simp [upd, h]
/-- What rounds over links know: f the costs told at last, f0 those at the round's start, D the links of the round so far. -/
structure Bf (G : Nat → Nat → Nat → Prop) (a N r : Nat) (f0 f : Nat → Int) (D : Nat → Nat → Nat → Prop) : Prop where
  low : ∀ b, b < N → f b = -1 ∨ ∃ t : Nat, f b = t ∧ ∃ vs, Way G a (b :: vs) t
  start : f a = 0
  old : ∀ vs b s, Way G a (b :: vs) s → vs.length ≤ r → 0 ≤ f0 b ∧ f0 b ≤ s
  mono : ∀ b, 0 ≤ f0 b → 0 ≤ f b ∧ f b ≤ f0 b
  done : ∀ b c w, D b c w → 0 ≤ f0 b → 0 ≤ f c ∧ f c ≤ f0 b + w
theorem Bf.begin {G : Nat → Nat → Nat → Prop} {a N : Nat} {f : Nat → Int} (h0 : f a = 0) (h1 : ∀ b, b ≠ a → f b = -1) (D : Nat → Nat → Nat → Prop) (hD : ∀ b c w, ¬ D b c w) : Bf G a N 0 f f D where
  low := fun b _ => by
    by_cases e : b = a
    · subst e; exact .inr ⟨0, h0, [], .start⟩
    · exact .inl (h1 b e)
  start := h0
  old := fun vs b s hw hl => by
    cases vs with
    | nil => cases hw with | start => rw [h0]; omega
    | cons c vs => simp at hl
  mono := fun b h => ⟨h, Int.le_refl _⟩
  done := fun b c w hd => absurd hd (hD b c w)
/-- A link that gets no nearer, or whose start is not reached yet. -/
theorem Bf.keep {G : Nat → Nat → Nat → Prop} {a N r : Nat} {f0 f : Nat → Int} {D D' : Nat → Nat → Nat → Prop} (h : Bf G a N r f0 f D) (hD : ∀ b c w, D' b c w → D b c w ∨ f b < 0 ∨ (0 ≤ f c ∧ f c ≤ f b + w)) : Bf G a N r f0 f D' :=
  ⟨h.low, h.start, h.old, h.mono, fun b c w hd hb => by
    have hm := h.mono b hb
    rcases hD b c w hd with h1 | h1 | h1
    · exact h.done b c w h1 hb
    · omega
    · exact ⟨h1.1, by omega⟩⟩
/-- A link that gets nearer. -/
theorem Bf.turn {G : Nat → Nat → Nat → Prop} {a N r n m c : Nat} {f0 f : Nat → Int} {D D' : Nat → Nat → Nat → Prop} (h : Bf G a N r f0 f D) (hn : n < N) (hg : G n m c) (hc : 1 ≤ c) (hf : 0 ≤ f n) (hnm : m ≠ n) (hr : f m < 0 ∨ f n + c < f m)
    (hD : ∀ b d w, D' b d w → D b d w ∨ (b = n ∧ d = m ∧ w = c)) : Bf G a N r f0 (upd f m (f n + c)) D' := by
  have low : ∀ b, 0 ≤ f b → 0 ≤ upd f m (f n + c) b ∧ upd f m (f n + c) b ≤ f b := fun b hb => by
    by_cases e : b = m
    · subst e; rw [upd_at]; omega
    · rw [upd_ne f _ e]; omega
  refine ⟨fun b hb => ?_, ?_, h.old, fun b hb => ?_, fun b d w hd hb => ?_⟩
  · by_cases e : b = m
    · subst e
      rw [upd_at]
      rcases h.low n hn with e1 | ⟨t, e1, vs, hw⟩
      · omega
      · exact .inr ⟨t + c, by rw [e1]; simp, _, .link hw hg⟩
    · rw [upd_ne f _ e]; exact h.low b hb
  · by_cases e : a = m
    · exfalso
      have := h.start
      subst e
      omega
    · rw [upd_ne f _ e]; exact h.start
  · obtain ⟨h1, h2⟩ := h.mono b hb
    obtain ⟨h3, h4⟩ := low b h1
    exact ⟨h3, by omega⟩
  · rcases hD b d w hd with h1 | ⟨rfl, rfl, rfl⟩
    · obtain ⟨h1, h2⟩ := h.done b d w h1 hb
      obtain ⟨h3, h4⟩ := low d h1
      exact ⟨h3, by omega⟩
    · rw [upd_at]
      have := h.mono b hb
      omega
/-- A round is over. -/
theorem Bf.next {G : Nat → Nat → Nat → Prop} {a N r : Nat} {f0 f : Nat → Int} {D D' : Nat → Nat → Nat → Prop} (h : Bf G a N r f0 f D) (hD : ∀ b c w, G b c w → D b c w) (hD' : ∀ b c w, ¬ D' b c w) : Bf G a N (r + 1) f f D' where
  low := h.low
  start := h.start
  old := fun vs b s hw hl => by
    cases vs with
    | nil => cases hw with | start => rw [h.start]; omega
    | cons c vs =>
      cases hw with
      | link hw hg =>
        obtain ⟨h1, h2⟩ := h.old _ _ _ hw (by simp at hl; omega)
        obtain ⟨h3, h4⟩ := h.done _ _ _ (hD _ _ _ hg) h1
        exact ⟨h3, by omega⟩
  mono := fun b hb => ⟨hb, Int.le_refl _⟩
  done := fun b c w hd => absurd hd (hD' b c w)
theorem Bf.isFar {G : Nat → Nat → Nat → Prop} {a N : Nat} {f0 f : Nat → Int} {D : Nat → Nat → Nat → Prop} (h : Bf G a N N f0 f D) (ha : a < N) (hG : ∀ b c w, G b c w → b < N ∧ c < N) (hff : f0 = f) : isFar G a N f := by
  subst hff
  exact isFar.of h.start h.low (closed_of_rounds ha (fun b c w g => (hG b c w g).2) (fun b c w g => (hG b c w g).1) h.low h.old)
/-- The costs from a, as a list. -/
noncomputable def farL (T : List (List Pt)) (a : Nat) : List Int := (List.range T.length).map (dst (Gt T) a)
theorem farL_len (T : List (List Pt)) (a : Nat) : (farL T a).length = T.length := by simp [farL]
theorem farL_get (T : List (List Pt)) (a : Nat) {b : Nat} (h : b < T.length) : (farL T a)[b]? = some (dst (Gt T) a b) := by simp [farL, h]
theorem farL_of {T : List (List Pt)} {a : Nat} {f : Nat → Int} (h : isFar (Gt T) a T.length f) : (List.range T.length).map f = farL T a := by
  unfold farL
  exact List.map_congr_left fun b hb => dst_of h (List.mem_range.1 hb)
end Go.Proofs.Hd

namespace Go.Proofs.Hd
open Go.RowKit
/-- Byte number j of a word, from the lowest on. -/
def byt (n : BitVec 64) (j : Nat) : UInt8 := UInt8.ofNat (n.toNat / 256 ^ j)
/-- The k lowest bytes of a word, the highest of them first. -/
def bigB (n : BitVec 64) : Nat → List UInt8
  | 0 => []
  | k + 1 => byt n k :: bigB n k
theorem bigB_len (n : BitVec 64) (k : Nat) : (bigB n k).length = k := by
  induction k with
  | zero => rfl
  | succ k ih => simp [bigB, ih]
theorem bigB_get (n : BitVec 64) : ∀ (k i j : Nat), i + 1 + j = k → (bigB n k)[i]? = some (byt n j) := by
  intro k
  induction k with
  | zero => intro i j h; omega
  | succ k ih =>
    intro i j h
    cases i with
    | zero => obtain rfl : j = k := by omega
              rfl
    | succ i => exact ih i j (by omega)
theorem bigB_take (n : BitVec 64) (k i j : Nat) (h : i + 1 + j = k) : (bigB n k).take (i + 1) = (bigB n k).take i ++ [byt n j] := by
  have hg := bigB_get n k i j h
  obtain ⟨hi, e⟩ := List.getElem?_eq_some_iff.1 hg
  rw [List.take_succ_eq_append_getElem hi, e]
theorem bigB_full (n : BitVec 64) (k : Nat) : (bigB n k).take k = bigB n k := List.take_of_length_le (by rw [bigB_len]; omega)
/-- The number that bytes are. -/
def numN (L : List UInt8) : Nat := L.foldl (fun a x => a * 256 + x.toNat) 0
def num (L : List UInt8) : BitVec 64 := BitVec.ofNat 64 (numN L)
theorem numN_snoc (L : List UInt8) (x : UInt8) : numN (L ++ [x]) = numN L * 256 + x.toNat := by simp [numN]
theorem num_snoc (L : List UInt8) (x : UInt8) : num (L ++ [x]) = num L * 256#64 + BitVec.ofNat 64 x.toNat := by
  unfold num; rw [numN_snoc, BitVec.ofNat_add, BitVec.ofNat_mul]
theorem num_nil : num [] = 0#64 := rfl
theorem byte_lt (x : UInt8) : x.toNat < 256 := x.toNat_lt
theorem numN_bound (L : List UInt8) : numN L < 256 ^ L.length := by
  have H : ∀ (M : List UInt8) (a b : Nat), a < b → M.foldl (fun a (x : UInt8) => a * 256 + x.toNat) a < b * 256 ^ M.length := by
    intro M
    induction M with
    | nil => intro a b h; simpa using h
    | cons x M ih =>
      intro a b h
      have hx := byte_lt x
      have := ih (a * 256 + x.toNat) (b * 256) (by omega)
      rw [List.foldl_cons, List.length_cons, Nat.pow_succ, Nat.mul_comm (256 ^ M.length) 256, ← Nat.mul_assoc]
      exact this
  have := H L 0 1 (by omega)
  simpa [numN] using this
theorem byt_nat (n : BitVec 64) (j : Nat) : (byt n j).toNat = n.toNat / 256 ^ j % 256 := by simp [byt]
theorem numN_big (n : BitVec 64) (k : Nat) : numN (bigB n k) = n.toNat % 256 ^ k := by
  have H : ∀ (k a : Nat), (bigB n k).foldl (fun a (x : UInt8) => a * 256 + x.toNat) a = a * 256 ^ k + n.toNat % 256 ^ k := by
    intro k
    induction k with
    | zero => intro a; simp [bigB, Nat.mod_one]
    | succ k ih =>
      intro a
      rw [bigB, List.foldl_cons, ih, byt_nat, Nat.mod_pow_succ, Nat.pow_succ, Nat.add_mul, Nat.mul_assoc, Nat.mul_comm 256 (256 ^ k), Nat.mul_comm (n.toNat / 256 ^ k % 256)]
      omega
  have := H k 0
  simpa [numN] using this
theorem num_big8 (n : BitVec 64) : num (bigB n 8) = n := by
  unfold num
  rw [numN_big]
  apply BitVec.eq_of_toNat_eq
  rw [BitVec.toNat_ofNat]
  have := n.isLt
  rw [show (256 : Nat) ^ 8 = 2 ^ 64 by decide, Nat.mod_mod]
  exact Nat.mod_eq_of_lt this
theorem num_lt4 (L : List UInt8) (h : L.length ≤ 4) : (num L).toNat < 4294967296 := by
  unfold num
  rw [BitVec.toNat_ofNat]
  have h1 := numN_bound L
  have h2 : (256 : Nat) ^ L.length ≤ 256 ^ 4 := Nat.pow_le_pow_right (by decide) h
  have h3 : numN L < 4294967296 := by have : (256 : Nat) ^ 4 = 4294967296 := by decide
                                      omega
  rw [Nat.mod_eq_of_lt (by omega)]; exact h3
theorem num_big4 (m : Nat) (h : m < 4294967296) : (num (bigB (BitVec.ofNat 64 m) 4)).toNat = m := by
  unfold num
  rw [numN_big, BitVec.toNat_ofNat, BitVec.toNat_ofNat, show (256 : Nat) ^ 4 = 4294967296 by decide]
  omega
theorem bigB_inj8 {a b : BitVec 64} (h : bigB a 8 = bigB b 8) : a = b := by rw [← num_big8 a, h, num_big8]
theorem bigB_inj4 {a b : Nat} (ha : a < 4294967296) (hb : b < 4294967296) (h : bigB (BitVec.ofNat 64 a) 4 = bigB (BitVec.ofNat 64 b) 4) : a = b := by
  have h1 := num_big4 a ha
  have h2 := num_big4 b hb
  rw [h] at h1; omega
/-- The checksum. -/
def fnv (L : List UInt8) : BitVec 64 := L.foldl (fun s x => (s ^^^ BitVec.ofNat 64 x.toNat) * 1099511628211#64) 14695981039346656037#64
theorem fnv_snoc (L : List UInt8) (x : UInt8) : fnv (L ++ [x]) = (fnv L ^^^ BitVec.ofNat 64 x.toNat) * 1099511628211#64 := by simp [fnv]
theorem uv_byte (x : UInt8) : ((x.toNat : Nat) : Int) = uv (BitVec.ofNat 64 x.toNat) := by
  unfold uv; rw [BitVec.toNat_ofNat]; have := byte_lt x; omega
theorem uv_mul (a b : BitVec 64) : IntKind.u64.wrap (uv a * uv b) = uv (a * b) := by
  unfold uv; rw [BitVec.toNat_mul, IntKind.wrap_u64, Int.natCast_emod, big, Int.natCast_mul]
theorem shl_or (n : BitVec 64) (x : UInt8) : (n <<< 8) ||| BitVec.ofNat 64 x.toNat = n * 256#64 + BitVec.ofNat 64 x.toNat := by
  have hx := byte_lt x
  have e : n <<< 8 = n * 256#64 := by
    apply BitVec.eq_of_toNat_eq
    rw [BitVec.toNat_shiftLeft, BitVec.toNat_mul, Nat.shiftLeft_eq]; rfl
  rw [← e]
  symm
  apply BitVec.add_eq_or_of_and_eq_zero
  apply BitVec.eq_of_getLsbD_eq
  intro i hi
  simp only [BitVec.getLsbD_and, BitVec.getLsbD_shiftLeft, BitVec.getLsbD_ofNat]
  by_cases h : i < 8
  · simp [h]
  · have : x.toNat.testBit i = false := Nat.testBit_lt_two_pow (Nat.lt_of_lt_of_le hx (by have := Nat.pow_le_pow_right (show 0 < 2 by decide) (show 8 ≤ i by omega); simpa using this))
    simp [this]
/-- What a round of number makes. -/
theorem num_step (L : List UInt8) (x : UInt8) : bits .or .u64 (IntKind.u64.wrap (uv (num L) * 256)) (x.toNat : Int) = uv (num (L ++ [x])) := by
  have : IntKind.u64.wrap (uv (num L) * 256) = uv (num L <<< 8) := uv_shl _ 8
  rw [this, uv_byte, uv_or, shl_or, num_snoc]
/-- What a round of the reference's Number makes. -/
theorem num_step' (L : List UInt8) (x : UInt8) : IntKind.u64.wrap (IntKind.u64.wrap (uv (num L) * 256) + (x.toNat : Int)) = uv (num (L ++ [x])) := by
  have : IntKind.u64.wrap (uv (num L) * 256) = uv (num L * 256#64) := uv_mul _ 256#64
  rw [this, uv_byte, uv_add, num_snoc]
/-- What a round of Sum makes. -/
theorem fnv_step (L : List UInt8) (x : UInt8) : IntKind.u64.wrap (bits .xor .u64 (uv (fnv L)) (x.toNat : Int) * 1099511628211) = uv (fnv (L ++ [x])) := by
  have := uv_mul (fnv L ^^^ BitVec.ofNat 64 x.toNat) 1099511628211#64
  rw [uv_byte, uv_xor, fnv_snoc]; exact this
theorem fnv_nil : uv (fnv []) = 14695981039346656037 := by rfl
/-- What a round of withNumber appends. -/
theorem byt_step (n : BitVec 64) (j : Nat) : IntKind.u8.wrap (uv n / 2 ^ (j * 8)) = ((byt n j).toNat : Int) := by
  rw [byt_nat, IntKind.wrap_u8]
  unfold uv
  rw [Nat.mul_comm j 8, Int.pow_mul, show ((2 : Int) ^ 8) = ((256 : Nat) : Int) by decide, ← Int.natCast_pow, ← Int.natCast_ediv, Int.natCast_emod]; rfl
theorem byt_low (n : BitVec 64) (t : Nat) (m : BitVec 64) (h : m.toNat = n.toNat / 256 ^ t) : IntKind.u8.wrap (uv m % 256) = ((byt n t).toNat : Int) := by
  rw [byt_nat, IntKind.wrap_u8]
  unfold uv
  rw [h]; omega
/-- A text as a field. -/
def txF (S : List UInt8) : List UInt8 := bigB (BitVec.ofNat 64 S.length) 4 ++ S
/-- A text of more than 2^24 bytes counts as none. -/
def cutT (S : List UInt8) : List UInt8 := if S.length ≤ 16777216 then S else []
theorem cutT_len (S : List UInt8) : (cutT S).length ≤ 16777216 := by
  unfold cutT; split
  · assumption
  · simp
theorem txF_len (S : List UInt8) : (txF S).length = S.length + 4 := by simp [txF, bigB_len]; omega
/-- With its checksum behind. -/
def seal8 (B : List UInt8) : List UInt8 := B ++ bigB (fnv B) 8
theorem seal8_len (B : List UInt8) : (seal8 B).length = B.length + 8 := by simp [seal8, bigB_len]
theorem seal8_inj {A B : List UInt8} (h : seal8 A = seal8 B) : A = B := by
  have hl : A.length = B.length := by
    have := congrArg List.length h
    rw [seal8_len, seal8_len] at this; omega
  exact (List.append_inj h hl).1
/-- What is taken, what is left, and the error behind, of n bytes of L at error e. -/
def tkB (L : List UInt8) (e : Int) (n : Nat) : List UInt8 := if e = 0 then (if n ≤ L.length then L.take n else []) else []
def tkL (L : List UInt8) (e : Int) (n : Nat) : List UInt8 := if e = 0 then (if n ≤ L.length then L.drop n else []) else L
def tkE (L : List UInt8) (e : Int) (n : Nat) : Int := if e = 0 then (if n ≤ L.length then 0 else 3) else e
theorem tkB_le (L : List UInt8) (e : Int) (n : Nat) : (tkB L e n).length ≤ n := by
  unfold tkB; split
  · split
    · simp; omega
    · simp
  · simp
theorem tk_inv {L : List UInt8} {e : Int} (n : Nat) (h : e ≠ 0 → L = []) : tkE L e n ≠ 0 → tkL L e n = [] := by
  unfold tkE tkL
  by_cases he : e = 0
  · rw [if_pos he, if_pos he]
    by_cases hn : n ≤ L.length
    · rw [if_pos hn]; intro h; exact absurd rfl h
    · rw [if_neg hn, if_neg hn]; intro _; rfl
  · rw [if_neg he, if_neg he]; intro _; exact h he
theorem tkL_le (L : List UInt8) (e : Int) (n : Nat) : (tkL L e n).length ≤ L.length := by
  unfold tkL; split
  · split <;> simp
  · simp
theorem take_app (A B : List UInt8) (n : Nat) (h : A.length = n) : tkB (A ++ B) 0 n = A ∧ tkL (A ++ B) 0 n = B ∧ tkE (A ++ B) 0 n = 0 := by
  subst h
  unfold tkB tkL tkE
  simp
theorem wrapU_ofInt (x : Int) : IntKind.u64.wrap x = uv (BitVec.ofInt 64 x) := by
  unfold uv; rw [IntKind.wrap_u64, BitVec.toNat_ofInt]; have := Int.emod_nonneg x (show (18446744073709551616 : Int) ≠ 0 by decide)
  rw [show ((2 ^ 64 : Nat) : Int) = 18446744073709551616 by rfl]; omega
theorem wrapU_nat (n : Nat) (h : n < 18446744073709551616) : uv (BitVec.ofNat 64 n) = (n : Int) := by
  unfold uv; rw [BitVec.toNat_ofNat]; omega
theorem wrapI_back (x : Int) (h1 : -9223372036854775808 ≤ x) (h2 : x ≤ 9223372036854775807) : IntKind.i64.wrap (uv (BitVec.ofInt 64 x)) = x := by
  rw [← wrapU_ofInt, IntKind.wrap_u64, IntKind.wrap_i64]; omega
theorem ofInt_inj {x y : Int} (h1 : -9223372036854775808 ≤ x) (h2 : x ≤ 9223372036854775807) (h3 : -9223372036854775808 ≤ y) (h4 : y ≤ 9223372036854775807) (h : BitVec.ofInt 64 x = BitVec.ofInt 64 y) : x = y := by
  rw [← wrapI_back x h1 h2, h, wrapI_back y h3 h4]
end Go.Proofs.Hd

namespace Go.Proofs.Hd
open Go.RowKit
/-- Bytes as cells. -/
def bc (B : List UInt8) : List Value := B.map fun b => Value.int .u8 b.toNat
theorem bc_len (B : List UInt8) : (bc B).length = B.length := by simp [bc]
theorem bc_append (A B : List UInt8) : bc (A ++ B) = bc A ++ bc B := by simp [bc]
theorem bc_get {B : List UInt8} {k : Nat} {b : UInt8} (h : B[k]? = some b) : (bc B)[k]? = some (.int .u8 b.toNat) := by simp [bc, h]
theorem bc_one (B : List UInt8) : ∀ u ∈ bc B, u.oneCell' = true := by
  intro u hu; simp only [bc, List.mem_map] at hu; obtain ⟨b, _, rfl⟩ := hu; rfl
/-- A text of bytes. -/
def str (B : List UInt8) : ByteArray := ⟨B.toArray⟩
theorem str_size (B : List UInt8) : (str B).size = B.length := by show B.toArray.size = _; simp
theorem strCells_str (B : List UInt8) : Lib.strCells (str B) = bc B := by simp [Lib.strCells, str, bc]
theorem str_of (s : ByteArray) : s = str s.data.toList := by cases s; simp [str]
theorem str_inj {A B : List UInt8} (h : str A = str B) : A = B := by
  unfold str at h; injection h with h; simpa using h
theorem add_plain (b o j : Nat) : (⟨b, o, none⟩ : Addr).add j = ⟨b, o + j, none⟩ := by
  unfold Addr.add; by_cases h : j = 0 <;> simp [h]
/-- v is a slice that reads as the bytes L. -/
def Rd (w : World) (v : Value) (L : List UInt8) : Prop := (L = [] ∧ ∃ A cap, v = .slice A 0 cap ∧ cap ≤ maxLen) ∨ ∃ b off cap, v = .slice (some ⟨b, off, none⟩) L.length cap ∧ L.length ≤ cap ∧ cap ≤ maxLen ∧ b < w.heap.size ∧ ∀ (k : Nat) (c : UInt8), L[k]? = some c → w.cell? ⟨b, off + k, none⟩ = some (.int .u8 c.toNat)
theorem Rd.form {w : World} {v : Value} {L : List UInt8} (h : Rd w v L) : ∃ A cap, v = .slice A L.length cap ∧ L.length ≤ cap ∧ cap ≤ maxLen ∧ ∀ (k : Nat) (c : UInt8), L[k]? = some c → ∃ b off, A = some ⟨b, off, none⟩ ∧ w.cell? ⟨b, off + k, none⟩ = some (.int .u8 c.toNat) := by
  rcases h with ⟨rfl, A, cap, rfl, hm⟩ | ⟨b, off, cap, rfl, hc, hm, hb, h⟩
  · exact ⟨A, cap, rfl, Nat.zero_le _, hm, fun k c hk => by simp at hk⟩
  · exact ⟨_, cap, rfl, hc, hm, fun k c hk => ⟨b, off, rfl, h k c hk⟩⟩
theorem Rd.on {w w' : World} {v : Value} {L : List UInt8} (h : Rd w v L) (hb : Below w.heap.size w w') : Rd w' v L := by
  rcases h with h | ⟨b, off, cap, e, hc, hm, hs, h⟩
  · exact .inl h
  · exact .inr ⟨b, off, cap, e, hc, hm, Nat.lt_of_lt_of_le hs hb.size, fun k c hk => on_some hb (h k c hk)⟩
theorem Rd.nil (w : World) : Rd w (.slice none 0 0) [] := .inl ⟨rfl, none, 0, rfl, Nat.zero_le _⟩
theorem Rd.src {w : World} {v : Value} {L : List UInt8} (h : Rd w v L) : Src w 1 v L.length (bc L) := by
  refine ⟨by simp [bc], bc_one L, ?_⟩
  rcases h with ⟨rfl, A, cap, rfl, _⟩ | ⟨b, off, cap, rfl, _, _, hb, h⟩
  · cases A with
    | none => exact .inl ⟨rfl, cap, rfl⟩
    | some ad => exact .inr ⟨ad, cap, rfl, fun j u hu => by simp [bc] at hu⟩
  · refine .inr ⟨_, cap, rfl, fun j u hu => ?_⟩
    have hj : j < L.length := by have := (List.getElem?_eq_some_iff.1 hu).1; rwa [bc_len] at this
    rw [bc_get (List.getElem?_eq_getElem hj)] at hu
    injection hu with hu
    subst hu
    rw [add_plain]
    exact h j _ (List.getElem?_eq_getElem hj)
theorem Rd.of_own {w : World} {base e : Nat} {v : Value} {B : List UInt8} (h : w.ownsRow base e 1 v B.length (bc B)) : Rd w v B := by
  rcases h.2 with ⟨rfl, h0⟩ | ⟨g, cap, cur, hv, hge, hheap, hlc, hcm, _⟩
  · obtain rfl : B = [] := List.eq_nil_of_length_eq_zero h0
    exact .inl ⟨rfl, _, _, rfl, Nat.zero_le _⟩
  · subst hv
    refine .inr ⟨g, 0, cap, rfl, hlc, hcm, (h.lt g rfl).2, fun k c hc => ?_⟩
    have := h.cells (g := g) rfl k _ (bc_get hc)
    rwa [add_plain] at this
/-- The block in which a slice lies is one of bytes. -/
def In8 (w : World) (t : TypeId) (v : Value) : Prop := ∀ g, v.ownBlock = some g → TB w g t
theorem In8.on {w w' : World} {t : TypeId} {v : Value} (h : In8 w t v) (hb : Below w.heap.size w w') : In8 w' t v := fun g hg => (h g hg).on hb
theorem In8.of_own {w : World} {base e size n : Nat} {v : Value} {xs : List Value} (h : w.ownsRow base e size v n xs) : In8 w e v := by
  intro g hg
  rcases h.2 with ⟨rfl, _⟩ | ⟨g', cap, cur, rfl, _, hh, _⟩
  · simp [Value.ownBlock] at hg
  · simp [Value.ownBlock] at hg
    subst hg
    exact ⟨_, _, hh⟩
/-- From w to w' at most the blocks of S have changed, and new ones may be there. -/
structure Ch (S : Nat → Prop) (w w' : World) : Prop where
  os : w'.os = w.os
  tape : w'.tape = w.tape
  output : w'.output = w.output
  size : w.heap.size ≤ w'.heap.size
  block : ∀ k, k < w.heap.size → ¬ S k → w'.heap[k]? = w.heap[k]?
theorem Ch.refl (S : Nat → Prop) (w : World) : Ch S w w := ⟨rfl, rfl, rfl, Nat.le_refl _, fun _ _ _ => rfl⟩
theorem Ch.trans {S : Nat → Prop} {a b c : World} (h : Ch S a b) (k : Ch S b c) : Ch S a c :=
  ⟨k.os.trans h.os, k.tape.trans h.tape, k.output.trans h.output, Nat.le_trans h.size k.size, fun i hi hs => (k.block i (Nat.lt_of_lt_of_le hi h.size) hs).trans (h.block i hi hs)⟩
theorem Ch.mono {S S' : Nat → Prop} {w w' : World} (h : Ch S w w') (hs : ∀ k, k < w.heap.size → S k → S' k) : Ch S' w w' := ⟨h.os, h.tape, h.output, h.size, fun k hk hn => h.block k hk (fun c => hn (hs k hk c))⟩
theorem Ch.of_below {S : Nat → Prop} {w w' : World} (h : Below w.heap.size w w') : Ch S w w' := ⟨h.os, h.tape, h.output, h.size, fun k hk _ => h.block k hk⟩
theorem Ch.below {S : Nat → Prop} {B : Nat} {w w' : World} (h : Ch S w w') (hB : B ≤ w.heap.size) (hs : ∀ k, k < B → ¬ S k) : Below B w w' := ⟨h.os, h.tape, h.output, h.size, fun k hk => h.block k (by omega) (hs k hk)⟩
theorem Ch.set (w : World) (p : Addr) (u : Value) : Ch (· = p.block) w (w.setCell p u) := ⟨rfl, rfl, rfl, by simp [World.setCell], fun k _ hn => Below.heap_setCell _ _ _ _ hn⟩
theorem Ch.blk {S : Nat → Prop} {w w' : World} {g : Nat} {t : TypeId} {cs : Array Value} (h : Ch S w w') (b : Blk w g t cs) (hn : ¬ S g) : Blk w' g t cs := (h.block g b.lt hn).trans b
theorem Ch.tb {S : Nat → Prop} {w w' : World} {g : Nat} {t : TypeId} (h : Ch S w w') (b : TB w g t) (hn : ¬ S g) : TB w' g t := by
  obtain ⟨cs, fr, e⟩ := b; exact ⟨cs, fr, (h.block g (TB.lt ⟨cs, fr, e⟩) hn).trans e⟩
theorem Ch.cell {S : Nat → Prop} {w w' : World} {p : Addr} {v : Value} (h : Ch S w w') (hc : w.cell? p = some v) (hn : ¬ S p.block) : w'.cell? p = some v :=
  (World.cell?_of_block (h.block p.block (World.block_lt_of_cell? w p hc) hn)).trans hc
theorem Ch.rd {S : Nat → Prop} {w w' : World} {v : Value} {L : List UInt8} (h : Ch S w w') (r : Rd w v L) (hn : ∀ g, v.ownBlock = some g → ¬ S g) : Rd w' v L := by
  rcases r with r | ⟨b, off, cap, e, hc, hm, hs, r⟩
  · exact .inl r
  · subst e
    exact .inr ⟨b, off, cap, rfl, hc, hm, Nat.lt_of_lt_of_le hs h.size, fun k c hk => h.cell (r k c hk) (hn b rfl)⟩
theorem Ch.in8 {S : Nat → Prop} {w w' : World} {t : TypeId} {v : Value} (h : Ch S w w') (r : In8 w t v) (hn : ∀ g, v.ownBlock = some g → ¬ S g) : In8 w' t v := fun g hg => h.tb (r g hg) (hn g hg)
theorem Ch.own {S : Nat → Prop} {w w' : World} {base e size n : Nat} {v : Value} {xs : List Value} (h : Ch S w w') (r : w.ownsRow base e size v n xs) (hn : ∀ g, v.ownBlock = some g → ¬ S g) : w'.ownsRow base e size v n xs := by
  refine ⟨r.1, ?_⟩
  rcases r.2 with r | ⟨g, cap, cur, rfl, hb, hg, rest⟩
  · exact .inl r
  · exact .inr ⟨g, cap, cur, rfl, hb, (h.block g (Array.getElem?_eq_some_iff.1 hg).1 (hn g rfl)).trans hg, rest⟩
theorem TB.ne {w : World} {g g' : Nat} {t t' : TypeId} {cs : Array Value} (h : TB w g t) (h' : Blk w g' t' cs) (hne : t ≠ t') : g ≠ g' := by
  rintro rfl
  obtain ⟨c, f, e⟩ := h
  unfold Blk at h'
  rw [e] at h'
  injection h' with h'
  injection h' with _ ht
  exact hne ht
theorem Blk.ne {w : World} {g g' : Nat} {t t' : TypeId} {cs cs' : Array Value} (h : Blk w g t cs) (h' : Blk w g' t' cs') (hne : t ≠ t') : g ≠ g' := TB.ne ⟨cs, (0, 0), h⟩ h' hne
theorem Blk.tb {w : World} {g : Nat} {t : TypeId} {cs : Array Value} (h : Blk w g t cs) : TB w g t := ⟨cs, (0, 0), h⟩
/-- A row that lay at o has grown and lies at o' now: nothing else has changed. -/
def Grw (w w' : World) (o o' : Option Nat) : Prop := w.grownBy w' o ∧ (o' = o ∨ ∃ k, o' = some k ∧ w.heap.size ≤ k)
theorem Grw.refl (w : World) (o : Option Nat) : Grw w w o o := ⟨World.grownBy.refl w o, .inl rfl⟩
theorem Grw.trans {a b c : World} {o o1 o2 : Option Nat} (h : Grw a b o o1) (k : Grw b c o1 o2) : Grw a c o o2 := by
  refine ⟨⟨k.1.os.trans h.1.os, k.1.tape.trans h.1.tape, k.1.output.trans h.1.output, Nat.le_trans h.1.size k.1.size, fun i hi hn => ?_⟩, ?_⟩
  · refine (k.1.block i (Nat.lt_of_lt_of_le hi h.1.size) ?_).trans (h.1.block i hi hn)
    rcases h.2 with e | ⟨j, e, hj⟩
    · rw [e]; exact hn
    · rw [e]; intro c; injection c with c; omega
  · rcases k.2 with e | ⟨j, e, hj⟩
    · rcases h.2 with e' | ⟨j, e', hj⟩
      · exact .inl (e.trans e')
      · exact .inr ⟨j, e.trans e', hj⟩
    · exact .inr ⟨j, e, Nat.le_trans h.1.size hj⟩
theorem Grw.ch {w w' : World} {o o' : Option Nat} (h : Grw w w' o o') : Ch (fun k => o = some k) w w' := ⟨h.1.os, h.1.tape, h.1.output, h.1.size, fun k hk hn => h.1.block k hk (fun c => hn c.symm)⟩
theorem Grw.of_below {w w' : World} (h : Below w.heap.size w w') (o : Option Nat) : Grw w w' o o := ⟨grown_of_below h o, .inl rfl⟩
theorem Grw.below {w w' : World} {o o' : Option Nat} {B : Nat} (h : Grw w w' o o') (hB : B ≤ w.heap.size) (ho : ∀ k, o = some k → B ≤ k) : Below B w w' :=
  (Below.refl B w).grown h.1 hB ho
section
variable {P : Program} (w : World)
theorem run_app2 (base : Nat) (t ty e : TypeId) (i : TypeInfo) (z : Value) (size bytes : Nat) (ht : P.underlying t = some (.slice e)) (hi : P.info? e = some i) (hz : i.zero = some z)
    (hsize : i.size = size) (hby : i.bytes = bytes) (hzs : z.cells.size = size) (hsz : 0 < size) (v : Value) (n : Nat) (xs : List Value) (hown : w.ownsRow base e size v n xs)
    (x : Value) (m : Nat) (news : List Value) (hx : Src w size x m news) (h63 : n + m ≤ maxLen) (hbytes : (n + m) * bytes ≤ 140737488355328) (hbase : base ≤ w.heap.size) :
    ∃ v' w', (Builtin.append_ #[t, t] ty #[v, x]).run P w = .ok v' w' ∧ w'.ownsRow base e size v' (n + m) (xs ++ news) ∧ Grw w w' v.ownBlock v'.ownBlock := by
  obtain ⟨hl, h1, ⟨rfl, c, rfl⟩ | ⟨ad, c, rfl, hc⟩⟩ := hx
  · obtain rfl : news = [] := List.eq_nil_of_length_eq_zero (by simpa using hl)
    refine ⟨v, w, ?_, by simpa using hown, Grw.refl w _⟩
    rcases hown.2 with ⟨rfl, rfl⟩ | ⟨g, cap, cur, rfl, _, _, hnc, _⟩
    · simp [Builtin.append_, run_underlying ht, sizeOf, typeInfo, hi, Builtin.lenOf, Builtin.firstCells]
    · simp [Builtin.append_, run_underlying ht, sizeOf, typeInfo, hi, Builtin.lenOf, Builtin.firstCells, hnc, storeCells]
  · obtain ⟨v', w', hr, h2, h3, _, h5⟩ := run_append_own_at (P := P) w base t ty e i z size bytes ht hi hz hsize hby hzs hsz v n xs hown ad m c news hl hc h1 h63 hbytes hbase
    exact ⟨v', w', hr, h2, h3, h5.imp id fun h => ⟨_, h, Nat.le_refl _⟩⟩
theorem run_appS2 (base : Nat) (t u ty e : TypeId) (i : TypeInfo) (ht : P.underlying t = some (.slice e)) (hu : P.underlying u = some .string) (hi : P.info? e = some i) (hz : i.zero = some (.int .u8 0))
    (hsize : i.size = 1) (hby : i.bytes = 1) (v : Value) (n : Nat) (xs : List Value) (hown : w.ownsRow base e 1 v n xs) (s : ByteArray)
    (h63 : n + s.size ≤ maxLen) (hbytes : n + s.size ≤ 140737488355328) (hbase : base ≤ w.heap.size) :
    ∃ v' w', (Builtin.append_ #[t, u] ty #[v, .string s]).run P w = .ok v' w' ∧ w'.ownsRow base e 1 v' (n + s.size) (xs ++ Lib.strCells s) ∧ Grw w w' v.ownBlock v'.ownBlock := by
  obtain ⟨v', w', hr, h2, h3, h4⟩ := Lib.run_append_own_string (P := P) w base t u ty e i ht hu hi hz hsize hby v n xs hown s h63 hbytes hbase
  refine ⟨v', w', hr, h2, h3, ?_⟩
  have hsmall : n + s.size ≤ 9223372036854775807 := by simp only [maxLen] at h63; omega
  rcases hown.2 with ⟨rfl, rfl⟩ | ⟨g, cap, cur, rfl, hbg, hg, hnc, hcm, hcs, htake⟩
  · by_cases hm : s.size = 0
    · exact .inl (by rw [h4.2 ⟨rfl, hm⟩])
    · have hr' := run_append_nil_string (P := P) w t u ty e i (.int .u8 0) ht hu hi hz s (by omega) (by omega) (by rw [hby]; omega)
      rw [hr] at hr'
      injection hr' with e1 e2
      exact .inr ⟨_, by rw [e1]; rfl, Nat.le_refl _⟩
  · by_cases hroom : n + s.size ≤ cap
    · have hcs' : cur.size = cap := by simpa using hcs
      have hr' := Lib.run_append_room_string (P := P) w t u ty e i ht hu hi hsize g n cap cur hg s hroom (by omega)
      rw [hr] at hr'
      injection hr' with e1 e2
      exact .inl (by rw [e1]; rfl)
    · have holds : ∀ j u, xs[j]? = some u → w.cell? ((⟨g, 0, none⟩ : Addr).add j) = some u := hown.cells (g := g) rfl
      have hr' := Lib.run_append_grow_string (P := P) w t u ty e i (.int .u8 0) ht hu hi hz ⟨g, 0, none⟩ n cap xs (by rw [hsize]; exact hown.1) holds s (by omega) (by omega) (by rw [hby]; exact growslice_fits (by omega) (by omega))
      rw [hr] at hr'
      injection hr' with e1 e2
      exact .inr ⟨_, by rw [e1]; rfl, Nat.le_refl _⟩
theorem wpList_app2 {ops : Array Oper} {rest : List Oper} {o : Oper} {a : Act} {Q : Exit → Act → World → Prop} (hgd : o.guard = none) (s x : Operand) (t : TypeId)
    (ho : o.op = .call { callee := .builtin .append, args := #[s, x], argTypes := #[t, t] }) (base : Nat) (e : TypeId) (i : TypeInfo) (z : Value) (size bytes : Nat) (ht : P.underlying t = some (.slice e)) (hi : P.info? e = some i) (hz : i.zero = some z)
    (hsize : i.size = size) (hby : i.bytes = bytes) (hzs : z.cells.size = size) (hsz : 0 < size) (v : Value) (n : Nat) (xs : List Value) (hs : a.eval s = v) (hown : w.ownsRow base e size v n xs)
    (y : Value) (m : Nat) (news : List Value) (hy : a.eval x = y) (hx : Src w size y m news) (h63 : n + m ≤ maxLen) (hbytes : (n + m) * bytes ≤ 140737488355328) (hbase : base ≤ w.heap.size)
    (h : ∀ v' w', w'.ownsRow base e size v' (n + m) (xs ++ news) → Grw w w' v.ownBlock v'.ownBlock → wpList P ops Q rest (a.put o.dst v') w') : wpList P ops Q (o :: rest) a w := by
  obtain ⟨v', w', hr, h2, h3⟩ := run_app2 (P := P) w base t o.type e i z size bytes ht hi hz hsize hby hzs hsz v n xs hown y m news hx h63 hbytes hbase
  exact Lib.wpList_append_run w hgd s x t t ho v y hs hy v' w' hr (h v' w' h2 h3)
theorem wpList_appS2 {ops : Array Oper} {rest : List Oper} {o : Oper} {a : Act} {Q : Exit → Act → World → Prop} (hgd : o.guard = none) (sl x : Operand) (t u : TypeId)
    (ho : o.op = .call { callee := .builtin .append, args := #[sl, x], argTypes := #[t, u] }) (base : Nat) (e : TypeId) (i : TypeInfo) (ht : P.underlying t = some (.slice e)) (hu : P.underlying u = some .string) (hi : P.info? e = some i) (hz : i.zero = some (.int .u8 0))
    (hsize : i.size = 1) (hby : i.bytes = 1) (v : Value) (n : Nat) (xs : List Value) (hs : a.eval sl = v) (hown : w.ownsRow base e 1 v n xs) (s : ByteArray) (hx : a.eval x = .string s)
    (h63 : n + s.size ≤ maxLen) (hbytes : n + s.size ≤ 140737488355328) (hbase : base ≤ w.heap.size)
    (h : ∀ v' w', w'.ownsRow base e 1 v' (n + s.size) (xs ++ Lib.strCells s) → Grw w w' v.ownBlock v'.ownBlock → wpList P ops Q rest (a.put o.dst v') w') : wpList P ops Q (o :: rest) a w := by
  obtain ⟨v', w', hr, h2, h3⟩ := run_appS2 (P := P) w base t u o.type e i ht hu hi hz hsize hby v n xs hown s h63 hbytes hbase
  exact Lib.wpList_append_run w hgd sl x t u ho v (.string s) hs hx v' w' hr (h v' w' h2 h3)
/-- string(b). -/
theorem run_text {t u e : TypeId} (ht : P.underlying t = some (.slice e)) (he : P.underlying e = some (.int .u8)) (hu : P.underlying u = some .string) {v : Value} {L : List UInt8} (h : Rd w v L) :
    (convert t u v).run P w = .ok (.string (str L)) w := by
  rcases h with ⟨rfl, A, cap, rfl, _⟩ | ⟨b, off, cap, rfl, _, _, hb, h⟩
  · cases A with
    | none => rw [run_convert_bytes_nil w t e ht he 0 cap u hu]; rfl
    | some ad => exact run_convert_bytes_back w t u e ad cap [] ht he hu (fun j hj => by simp at hj)
  · refine run_convert_bytes_back w t u e ⟨b, off, none⟩ cap L ht he hu (fun j hj => ?_)
    rw [add_plain]; exact h j _ (List.getElem?_eq_getElem hj)
end
/-- A list of bytes was returned, behind what a row of base holds: the row has grown. -/
def GotB (t : TypeId) (w : World) (base : Nat) (o : Option Nat) (B : List UInt8) (e : Ending) (w' : World) : Prop := ∃ v, e = .returned v ∧ w'.ownsRow base t 1 v B.length (bc B) ∧ Grw w w' o v.ownBlock
end Go.Proofs.Hd
