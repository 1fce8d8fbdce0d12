/-
  Contracts of the reference's port and Sound of layer 7. Conditions as each theorem lists them.
  Configurations in memory; contract of the reference's Sound of layer 8. Conditions as the theorem lists them.
  Contracts of package config: within; copied, at the types of a configuration: a list of the call's own memory with the same cells. Conditions as each theorem lists them.
  Lists of lists in memory of a call's own: how they are read, what stays behind a store elsewhere, and what a loop that writes to them holds. Conditions as each theorem lists them.
  Contracts of config.copiedLists. Conditions as each theorem lists them.
  Plain facts on blocks that a statement makes in whatever order and fills afterwards. No conditions.
  Contract of package config: Clone. Conditions as the theorem lists them.
  What stays behind an append to a row of another type; a configuration that is copied piece by piece. Conditions as each theorem lists them.
  How a configuration, a policy, a pair handed in by value read; no list in a configuration is longer than memory reaches, where what came in is not. No conditions.
  What a sound configuration says of each of its rules, and what becomes of a packet as a function of lists. No program in sight. Conditions as each theorem lists them.
  Numbers in memory: rows of ints. No conditions.
-/
import Derived.Test.YtgoenjpllepdjaaJ5
import Derived.Lib.SliceRun
import Derived.Laws.MakeOwn
import Derived.Deep.MidRow
import Derived.Deep.RegionHeld3
import Derived.Deep.DeepCutAuto
import Derived.SizedLaws
import Derived.OpenShut
namespace Go.Proofs
open Go.RowKit Go.Proofs.Hd Go.Lib
theorem rport_c (x : Bool) (tv : Value) (T : List (List Pt)) (n i : Nat) (L : List Pt) (p : Pt) (w : World) (hT : PsT w tv T) (hL : T[n]? = some L) (hp : L[i]? = some p) (hx : okP T n i p = x) : Calls Try.prog 44 #[.agg #[tv], .int .i64 n, .int .i64 i] w fun e w' => e = .returned (.bool x) ∧ Below w.heap.size w w' := by
  obtain ⟨kd, tn, pr, sp, co⟩ := p
  unfold okP at hx
  dsimp only at hx
  by_cases k0 : kd = 0
  · subst k0
    rw [if_neg (by decide), if_neg (by decide)] at hx
    by_cases h1 : tn = 0
    · subst h1
      by_cases h2 : pr = 0
      · subst h2
        by_cases h3 : sp = 0
        · subst h3
          by_cases h4 : co = 0
          · subst h4
            obtain rfl : x = true := by rw [← hx]; exact eqP_self _
            exact rp0e tv T n i L w hT hL hp
          · obtain rfl : x = false := by rw [← hx]; simp [eqP, h4]
            exact rp0d tv T n i L w hT hL hp h4
        · obtain rfl : x = false := by rw [← hx]; simp [eqP, h3]
          exact rp0c tv T n i L w hT hL hp h3
      · obtain rfl : x = false := by rw [← hx]; simp [eqP, h2]
        exact rp0b tv T n i L w hT hL hp h2
    · obtain rfl : x = false := by rw [← hx]; simp [eqP, h1]
      exact rp0a tv T n i L w hT hL hp h1
  by_cases k1 : kd = 1
  · subst k1
    rw [if_pos rfl] at hx
    by_cases h1 : 0 ≤ tn
    · by_cases h2 : tn ≤ 3
      · have hb : inB tn 4 = true := by simp [inB]; omega
        rw [hb, Bool.true_and] at hx
        by_cases h3 : pr = 0
        · subst h3
          by_cases h4 : sp = 0
          · subst h4
            by_cases h5 : co = 0
            · subst h5
              obtain rfl : x = true := by rw [← hx]; exact eqP_self _
              exact rp1f tv T n i L w hT hL hp h1 h2
            · obtain rfl : x = false := by rw [← hx]; simp [eqP, h5]
              exact rp1e tv T n i L w hT hL hp h1 h2 h5
          · obtain rfl : x = false := by rw [← hx]; simp [eqP, h4]
            exact rp1d tv T n i L w hT hL hp h1 h2 h4
        · obtain rfl : x = false := by rw [← hx]; simp [eqP, h3]
          exact rp1c tv T n i L w hT hL hp h1 h2 h3
      · obtain rfl : x = false := by
          have hb : inB tn 4 = false := by simp [inB]; omega
          rw [← hx, hb]; rfl
        exact rp1b tv T n i L w hT hL hp h1 h2
    · obtain rfl : x = false := by
        have hb : inB tn 4 = false := by simp [inB]; omega
        rw [← hx, hb]; rfl
      exact rp1a tv T n i L w hT hL hp h1
  rw [if_neg k1] at hx
  by_cases k2 : kd = 2
  · subst k2
    rw [if_pos rfl] at hx
    by_cases h1 : tn = 0
    · subst h1
      by_cases h3 : co < 1
      · obtain rfl : x = false := by rw [← hx, decide_eq_false (by omega : ¬ 1 ≤ co)]; simp
        exact rp2c tv T n i L w hT hL hp h3
      by_cases h4 : 1000 < co
      · obtain rfl : x = false := by rw [← hx, decide_eq_false (by omega : ¬ co ≤ 1000)]; simp
        exact rp2d tv T n i L w hT hL hp h3 h4
      rw [decide_eq_true (by omega : 1 ≤ co), decide_eq_true (by omega : co ≤ 1000)] at hx
      simp only [decide_true, Bool.true_and] at hx
      by_cases h5 : pr < 0
      · obtain rfl : x = false := by
          have hn : ptAt T pr sp = none := ptAt_far1 (by simp [inB]; omega)
          rw [← hx]; simp [ansP, hn]
        exact rp2e tv T n i L w hT hL hp h3 h4 h5
      by_cases h6 : (T.length : Int) ≤ pr
      · obtain rfl : x = false := by
          have hn : ptAt T pr sp = none := ptAt_far1 (by simp [inB]; omega)
          rw [← hx]; simp [ansP, hn]
        exact rp2f tv T n i L w hT hL hp h3 h4 h5 h6
      obtain ⟨m, rfl⟩ : ∃ m : Nat, pr = (m : Int) := ⟨pr.toNat, by omega⟩
      by_cases h7 : m = n
      · subst h7
        obtain rfl : x = false := by
          rw [← hx]
          unfold ansP
          cases ptAt T (m : Int) sp <;> simp
        exact rp2g tv T m i L w hT hL hp h3 h4
      have hm : m < T.length := by omega
      have hL' : T[m]? = some T[m] := List.getElem?_eq_getElem hm
      generalize T[m] = L' at hL'
      by_cases h8 : sp < 0
      · obtain rfl : x = false := by
          have hn : ptAt T (m : Int) sp = none := ptAt_far2 hL' (by simp [inB]; omega)
          rw [← hx]; simp [ansP, hn]
        exact rp2h tv T n i L w hT hL hp h3 h4 hm h7 h8
      by_cases h9 : (L'.length : Int) ≤ sp
      · obtain rfl : x = false := by
          have hn : ptAt T (m : Int) sp = none := ptAt_far2 hL' (by simp [inB]; omega)
          rw [← hx]; simp [ansP, hn]
        exact rp2i tv T n i L w hT hL hp h3 h4 L' hL' hm h7 h8 h9
      obtain ⟨j, rfl⟩ : ∃ j : Nat, sp = (j : Int) := ⟨sp.toNat, by omega⟩
      have hj : j < L'.length := by omega
      have hq : L'[j]? = some L'[j] := List.getElem?_eq_getElem hj
      generalize L'[j] = q at hq
      obtain ⟨qk, qt, qp, qs, qc⟩ := q
      have hx2 : eqP ⟨qk, qt, qp, qs, qc⟩ ⟨2, 0, (n : Int), (i : Int), co⟩ = x := by
        rw [← hx]
        unfold ansP
        simp only [ptAt_nat hL' hq]
        have : ((m : Int) == (n : Int)) = false := beq_false_of_ne (by omega)
        rw [this]; rfl
      exact rp3 tv T n i L w hT hL hp h3 h4 L' hL' hm h7 qk qt qp qs qc hq x hx2
    · obtain rfl : x = false := by rw [← hx]; simp [h1]
      exact rp2b tv T n i L w hT hL hp h1
  · obtain rfl : x = false := by rw [← hx, if_neg k2]; simp [eqP, k0]
    exact rp2a tv T n i L w hT hL hp k0 k1 k2
set_option maxRecDepth 100000 in
set_option maxHeartbeats 2000000 in
theorem rtsound_c (tv : Value) (T : List (List Pt)) (w : World) (hT : PsT w tv T) : Calls Try.prog 28 #[.agg #[tv]] w fun e w' => e = .returned (.int .i64 (sTp T)) ∧ Below w.heap.size w w' := by
  have HT := Lib.hid hT
  obtain ⟨A, cap, rfl, htm, hA⟩ := hT
  have HB := Lib.hid (below1 w (.cells #[.slice A T.length cap] 42))
  have NB : Hid (Blk (w.alloc (.cells #[.slice A T.length cap] 42)) w.heap.size 42 #[.slice A T.length cap]) := Blk.new w _ _
  have htz : (T.length : Int) ≤ 9223372036854775807 := by unfold maxLen at htm; omega
  by_cases h1 : 1 ≤ T.length
  · by_cases h6 : T.length ≤ 6
    · have hz1 : ¬ (T.length : Int) < 1 := by omega
      have hz6 : ¬ (6 : Int) < (T.length : Int) := by omega
      obtain ⟨b, o, rfl, hb0, hc⟩ := hA (by rintro rfl; simp at h1)
      have HC := Lib.hid hc
      clear hc hA
      go_enter Try.func28, Try.ntmps28
      go_wp2
      go_loopg [3] T.length (fun gk s3 wr => ∃ (k : Nat), k ≤ T.length ∧ gk = T.length - k ∧ s3 = .int .i64 k ∧ Hid (∀ j L, j < k → T[j]? = some L → L.length ≤ 6) ∧ Hid (Blk wr w.heap.size 42 #[.slice (some ⟨b, o, none⟩) T.length cap]) ∧ Hid (Below w.heap.size w wr))
      case atStart => exact ⟨0, Nat.zero_le _, rfl, rfl, fun j L hj => absurd hj (Nat.not_lt_zero _), NB, HB⟩
      case round =>
        clear HB NB
        obtain ⟨k, hk, rfl, rfl, HN, NB, HW⟩ := hrel
        have cb := NB.out.one
        by_cases hlt : k < T.length
        · have hltz : (k : Int) < (T.length : Int) := by omega
          obtain ⟨L, hTL⟩ : ∃ L, T[k]? = some L := ⟨_, List.getElem?_eq_getElem hlt⟩
          obtain ⟨s, hcell0, A1, c1, rfl, _⟩ := HC.out k L hTL
          have hcell := on_some HW.out hcell0
          have HTL := Lib.hid hTL
          clear hTL hcell0
          by_cases hl6 : L.length ≤ 6
          · have hl6z : ¬ (6 : Int) < (L.length : Int) := by omega
            have HN2 : Hid (∀ j L, j < k + 1 → T[j]? = some L → L.length ≤ 6) := fun j L' hj hL' => by
              by_cases e : j = k
              · subst e
                rw [HTL.out] at hL'
                injection hL' with hL'
                subst hL'
                exact hl6
              · exact HN.out j L' (by omega) hL'
            clear HN
            go_wp2
            go_roundg (T.length - (k + 1))
            case measure => omega
            case rel => exact ⟨k + 1, by omega, rfl, by go_num, HN2, NB, HW⟩
          · have hl6z : (6 : Int) < (L.length : Int) := by omega
            have HE : Hid (sTp T = 4) := sTp_range (by
              cases hs : szT T with
              | false => rfl
              | true => exact absurd ((szT_iff.1 hs).2.2 L (List.mem_of_getElem? HTL.out)) hl6)
            clear HN
            go_wp2
            go_ret
            exact ⟨by rw [HE.out]; rfl, HW.out⟩
        · have hltz : ¬ (k : Int) < (T.length : Int) := by omega
          have hs : Hid (szT T = true) := szT_iff.2 ⟨h1, h6, fun L hL => by
            obtain ⟨j, hj⟩ := List.getElem?_of_mem hL
            have := (List.getElem?_eq_some_iff.1 hj).1
            exact HN.out j L (by omega) hj⟩
          clear HN
          go_wp2
          clear cb
          go_loopg [4, 5] T.length (fun gn s4 _ wn => ∃ (n : Nat), n ≤ T.length ∧ gn = T.length - n ∧ s4 = .int .i64 n ∧ Hid (okTo T n) ∧ Hid (Blk wn w.heap.size 42 #[.slice (some ⟨b, o, none⟩) T.length cap]) ∧ Hid (Below w.heap.size w wn))
          case atStart => exact ⟨0, Nat.zero_le _, rfl, rfl, fun n i L p hn => absurd hn (Nat.not_lt_zero _), NB, HW⟩
          case round =>
            clear HW NB
            obtain ⟨n, hn, rfl, rfl, HO, NB, HB⟩ := hrel
            have cb := NB.out.one
            by_cases hnt : n < T.length
            · have hntz : (n : Int) < (T.length : Int) := by omega
              obtain ⟨L, hTL⟩ : ∃ L, T[n]? = some L := ⟨_, List.getElem?_eq_getElem hnt⟩
              obtain ⟨s, hcell0, A1, c1, rfl, hLm, hA1⟩ := HC.out n L hTL
              have HCE := Lib.hid hcell0
              have HTL := Lib.hid hTL
              have hLz : (L.length : Int) ≤ 6 := by have := (szT_iff.1 hs.out).2.2 L (List.mem_of_getElem? hTL); omega
              clear hTL hcell0 hA1
              go_wp2
              clear cb
              go_loopg [5] L.length (fun gi s5 wi => ∃ (i : Nat), i ≤ L.length ∧ gi = L.length - i ∧ s5 = .int .i64 i ∧ Hid (okUp T n L i) ∧ Hid (Blk wi w.heap.size 42 #[.slice (some ⟨b, o, none⟩) T.length cap]) ∧ Hid (Below w.heap.size w wi))
              case atStart => exact ⟨0, Nat.zero_le _, rfl, rfl, fun i p hi => absurd hi (Nat.not_lt_zero _), NB, HB⟩
              case round =>
                clear HB NB
                obtain ⟨i, hi, rfl, rfl, HI, NB, HB⟩ := hrel
                have cb := NB.out.one
                have hcell := on_some HB.out HCE.out
                by_cases hit : i < L.length
                · have hitz : (i : Int) < (L.length : Int) := by omega
                  obtain ⟨p, hp⟩ : ∃ p, L[i]? = some p := ⟨_, List.getElem?_eq_getElem hit⟩
                  cases hx : okP T n i p with
                  | false =>
                    have HE := Lib.hid (sTp_form hs.out HTL.out hp hx)
                    go_wp2_with fail
                    (with_reducible refine (rport_c false _ T n i L p _ (HT.out.on HB.out) HTL.out hp hx).mono ?_)
                    rintro e w2 ⟨rfl, hb2⟩
                    have B2 := Lib.hid (HB.out.trans (hb2.mono HB.out.size))
                    clear HB hb2 NB cb hcell
                    go_wp2
                    go_ret
                    exact ⟨by rw [HE.out]; rfl, B2.out⟩
                  | true =>
                    have HI2 := Lib.hid (okUp_succ HI.out hp hx)
                    go_wp2_with fail
                    (with_reducible refine (rport_c true _ T n i L p _ (HT.out.on HB.out) HTL.out hp hx).mono ?_)
                    rintro e w2 ⟨rfl, hb2⟩
                    have HB2 := Lib.hid (HB.out.trans (hb2.mono HB.out.size))
                    have NB2 := Lib.hid (NB.out.on hb2)
                    clear HB hb2 NB cb hcell
                    go_wp2
                    go_roundg (L.length - (i + 1))
                    case measure => omega
                    case rel => exact ⟨i + 1, by omega, rfl, by go_num, HI2, NB2, HB2⟩
                · have hitz : ¬ (i : Int) < (L.length : Int) := by omega
                  obtain rfl : i = L.length := by omega
                  have HO2 := Lib.hid (okTo_succ HO.out HTL.out HI.out)
                  go_wp2
                  go_roundg (T.length - (n + 1))
                  case measure => omega
                  case rel => exact ⟨n + 1, by omega, rfl, by go_num, HO2, NB, HB⟩
            · have hntz : ¬ (n : Int) < (T.length : Int) := by omega
              obtain rfl : n = T.length := by omega
              have HE := Lib.hid (sTp_ok hs.out HO.out)
              clear HC HO
              go_wp2
              go_ret
              exact ⟨by rw [HE.out]; rfl, HB.out⟩
    · have hz1 : ¬ (T.length : Int) < 1 := by omega
      have hz6 : (6 : Int) < (T.length : Int) := by omega
      have HE : Hid (sTp T = 4) := sTp_range (by simp [szT, h6])
      clear hA
      go_enter Try.func28, Try.ntmps28
      go_wp2
      go_ret
      exact ⟨by rw [HE.out]; rfl, HB.out⟩
  · have HE : Hid (sTp T = 4) := sTp_range (by simp [szT, h1])
    have h0 : T.length = 0 := by omega
    have hz1 : (T.length : Int) < 1 := by omega
    clear hA
    go_enter Try.func28, Try.ntmps28
    rw [h0] at HB ⊢
    go_wp2
    go_ret
    exact ⟨by rw [HE.out]; rfl, HB.out⟩
end Go.Proofs

namespace Go.Proofs.Hd
open Go.RowKit
/-- v is a slice that reads as the tables of all switches. -/
def RuQ (w : World) (v : Value) (B : List (List (List Rl))) : Prop := ∃ A cap, v = .slice A B.length cap ∧ B.length ≤ maxLen ∧ (B ≠ [] → ∃ b o, A = some ⟨b, o, none⟩ ∧ b < w.heap.size ∧ ∀ (k : Nat) (T : List (List Rl)), B[k]? = some T → ∃ s, w.cell? ⟨b, o + k, none⟩ = some s ∧ RuT w s T)
theorem RuQ.on {w w' : World} {v : Value} {B : List (List (List Rl))} (h : RuQ w v B) (hb : Below w.heap.size w w') : RuQ w' v B := by
  obtain ⟨A, cap, e, h1, h⟩ := h
  refine ⟨A, cap, e, h1, fun hne => ?_⟩
  obtain ⟨b, o, e2, hl, hc⟩ := h hne
  refine ⟨b, o, e2, Nat.lt_of_lt_of_le hl hb.size, fun k T hk => ?_⟩
  obtain ⟨s, h3, h4⟩ := hc k T hk
  exact ⟨s, on_some hb h3, h4.on hb⟩
theorem Ps.po {w : World} {v : Value} {L : List Pt} (h : Ps w v L) : Po w v (L.map Pt.kind) := by
  obtain ⟨A, cap, rfl, hl, h⟩ := h
  cases L with
  | nil => exact .inl ⟨rfl, A, cap, rfl⟩
  | cons p L =>
    obtain ⟨b, o, rfl, hlt, hc⟩ := h (by simp)
    refine .inr ⟨b, o, cap, by simp, by simpa using hl, hlt, fun k x hk => ?_⟩
    rw [List.getElem?_map] at hk
    cases hq : (p :: L)[k]? with
    | none => rw [hq] at hk; cases hk
    | some q =>
      rw [hq] at hk
      injection hk with hk
      rw [← hk]
      exact (hc k q hq).1
/-- The first error of a switch's tables. -/
def firT : List (List (List Rl)) → List (List Pt) → Int
  | B :: BB, L :: T => if sT B (L.map Pt.kind) = 0 then firT BB T else sT B (L.map Pt.kind)
  | _, _ => 0
theorem firT_at {BB : List (List (List Rl))} {T : List (List Pt)} {k : Nat} {B : List (List Rl)} {L : List Pt} (hB : BB[k]? = some B) (hL : T[k]? = some L) : firT (BB.drop k) (T.drop k) = if sT B (L.map Pt.kind) = 0 then firT (BB.drop (k + 1)) (T.drop (k + 1)) else sT B (L.map Pt.kind) := by
  obtain ⟨h1, e1⟩ := List.getElem?_eq_some_iff.1 hB
  obtain ⟨h2, e2⟩ := List.getElem?_eq_some_iff.1 hL
  rw [List.drop_eq_getElem_cons h1, List.drop_eq_getElem_cons h2, e1, e2, firT]
theorem firT_end {BB : List (List (List Rl))} (T : List (List Pt)) {k : Nat} (h : BB.length ≤ k) : firT (BB.drop k) (T.drop k) = 0 := by
  rw [List.drop_eq_nil_of_le h]
  cases T.drop k <;> rfl
/-- What Sound says of a configuration. -/
noncomputable def cfgT (T : List (List Pt)) (ten : Int) (P : List (Int × Int)) (Q : List Wa) (BB : List (List (List Rl))) : Int :=
  if sTp T = 0 then (if polT T ten P Q = 0 then (if BB.length = T.length then firT BB T else 4) else polT T ten P Q) else sTp T
/-- A sound topology has few ports. -/
theorem sum_le6 : ∀ T : List (List Pt), (∀ L ∈ T, L.length ≤ 6) → ports T ≤ T.length * 6
  | [], _ => Nat.zero_le _
  | L :: T, h => by
    have h1 := sum_le6 T fun L hL => h L (List.mem_cons_of_mem _ hL)
    have h2 := h L (List.mem_cons_self ..)
    have h3 : ports (L :: T) = L.length + ports T := by simp [ports]
    rw [h3, List.length_cons]
    omega
theorem ports_sound {T : List (List Pt)} (h : sTp T = 0) : ports T ≤ 2000000 := by
  obtain ⟨_, h6, hl⟩ := szT_iff.1 (sTp_zero h).1
  have := sum_le6 T hl
  omega
end Go.Proofs.Hd
namespace Go.Proofs
open Go.RowKit Go.Proofs.Hd Go.Lib
set_option maxRecDepth 100000 in
set_option maxHeartbeats 4000000 in
theorem rcsound_c (tv pv wv bv : Value) (T : List (List Pt)) (ten : Int) (P : List (Int × Int)) (Q : List Wa) (BB : List (List (List Rl))) (w : World) (hT : PsT w tv T) (hP : Pe w pv P) (hQ : Wy w wv Q) (hB : RuQ w bv BB) : Calls Try.prog 13 #[.agg #[tv, .int .i64 ten, pv, wv, bv]] w fun e w' => e = .returned (.int .i64 (cfgT T ten P Q BB)) ∧ Below w.heap.size w w' := by
  have HT := Lib.hid hT
  have HP := Lib.hid hP
  have HQ := Lib.hid hQ
  obtain ⟨A, cap, rfl, htm, hA⟩ := hT
  obtain ⟨pA, pc, rfl, -, -⟩ := hP
  obtain ⟨wA, wc, rfl, -, -⟩ := hQ
  obtain ⟨bA, bc, rfl, hbm, hBA⟩ := hB
  have hbz : (BB.length : Int) ≤ 9223372036854775807 := by unfold maxLen at hbm; omega
  have B0 : Below w.heap.size w (w.alloc (.cells #[.slice A T.length cap, .int .i64 ten, .slice pA P.length pc, .slice wA Q.length wc, .slice bA BB.length bc] 49)) := below1 w _
  have N0 : Hid (Blk (w.alloc (.cells #[.slice A T.length cap, .int .i64 ten, .slice pA P.length pc, .slice wA Q.length wc, .slice bA BB.length bc] 49)) w.heap.size 49 #[.slice A T.length cap, .int .i64 ten, .slice pA P.length pc, .slice wA Q.length wc, .slice bA BB.length bc]) := Blk.new w _ _
  have HA := Lib.hid hA
  have HBA := Lib.hid hBA
  clear hA hBA
  go_enter Try.func13, Try.ntmps13
  go_wp2_with fail
  (with_reducible refine (rtsound_c _ T _ (HT.out.on B0)).mono ?_)
  rintro e w1 ⟨rfl, hb1⟩
  have HB1 := Lib.hid (B0.trans (hb1.mono B0.size))
  have N1 := Lib.hid (N0.out.on hb1)
  clear hb1 B0 N0
  by_cases hs : sTp T = 0
  · obtain ⟨d0, d1, d2, d3, d4⟩ := N1.out.five
    have hn := ports_sound hs
    have h6 := (szT_iff.1 (sTp_zero hs).1).2.1
    have HC : Hid (cfgT T ten P Q BB = if polT T ten P Q = 0 then (if BB.length = T.length then firT BB T else 4) else polT T ten P Q) := by show _ = _; unfold cfgT; rw [if_pos hs]
    rw [hs]
    clear hs
    go_wp2_with fail
    (with_reducible refine (rpolicy_c _ _ _ T ten P Q _ (HT.out.on HB1.out) (HP.out.on HB1.out) (HQ.out.on HB1.out) hn).mono ?_)
    rintro e w2 ⟨rfl, hb2⟩
    have HB2 := Lib.hid (HB1.out.trans (hb2.mono HB1.out.size))
    have N2 := Lib.hid (N1.out.on hb2)
    clear hb2 HB1 N1 d0 d1 d2 d3 d4
    obtain ⟨d0, d1, d2, d3, d4⟩ := N2.out.five
    obtain ⟨q, hq⟩ : ∃ q, polT T ten P Q = q := ⟨_, rfl⟩
    rw [hq] at HC ⊢
    clear hq
    by_cases hq0 : q = 0
    · subst hq0
      rw [if_pos rfl] at HC
      by_cases hl : BB.length = T.length
      · rw [if_pos hl] at HC
        have hlz : (BB.length : Int) = (T.length : Int) := by omega
        have hbl : (BB.length : Int) ≤ 6 := by omega
        obtain ⟨nb, hnb1, hnb2⟩ : ∃ nb, nb ≤ BB.length ∧ BB.length ≤ nb := ⟨_, Nat.le_refl _, Nat.le_refl _⟩
        have HL := Lib.hid hl
        have hne1 : ((BB.length : Int) != (T.length : Int)) = false := by simp [hl]
        clear hl hlz
        go_wp2
        clear d0 d1 d2 d3 d4
        go_loopg [3, 4] BB.length (fun gk _ s4 wr => ∃ k : Nat, k ≤ BB.length ∧ gk = BB.length - k ∧ s4 = .int .i64 k ∧ Hid (firT BB T = firT (BB.drop k) (T.drop k)) ∧ Hid (Below w2.heap.size w2 wr))
        case atStart => exact ⟨0, Nat.zero_le _, rfl, rfl, rfl, Below.refl _ _⟩
        case round =>
          obtain ⟨k, hk, rfl, rfl, HF, HW⟩ := hrel
          have HB3 := Lib.hid (HB2.out.trans (HW.out.mono HB2.out.size))
          obtain ⟨d0, d1, d2, d3, d4⟩ := (N2.out.on HW.out).five
          by_cases hlt : k < BB.length
          · have hltz : (k : Int) < (BB.length : Int) := by omega
            have hkT : k < T.length := by have := HL.out; omega
            have hkTz : (k : Int) < (T.length : Int) := by omega
            obtain ⟨B, hBk⟩ : ∃ B, BB[k]? = some B := ⟨_, List.getElem?_eq_getElem hlt⟩
            obtain ⟨L, hLk⟩ : ∃ L, T[k]? = some L := ⟨_, List.getElem?_eq_getElem hkT⟩
            obtain ⟨bb, bo, rfl, _, hbc⟩ := HBA.out (by rintro rfl; simp at hlt)
            obtain ⟨tb, tof, rfl, _, htc⟩ := HA.out (by rintro rfl; simp at hkT)
            obtain ⟨s1, hs1, hR⟩ := hbc k B hBk
            obtain ⟨s2, hs2, hPs⟩ := htc k L hLk
            have hPo := hPs.po
            obtain ⟨A1, c1, rfl, -⟩ := id hR
            obtain ⟨A2, c2, rfl, -⟩ := id hPs
            have x1 := on_some HB3.out hs1
            have x2 := on_some HB3.out hs2
            have HR := Lib.hid hR
            have HPo := Lib.hid hPo
            have KP : ∀ W, Below wr.heap.size wr W → (Below wr.heap.size wr W ∧ W.cell? ⟨w.heap.size, 0, none⟩ = some (.slice (some ⟨tb, tof, none⟩) T.length cap) ∧ W.cell? ⟨w.heap.size, 4, none⟩ = some (.slice (some ⟨bb, bo, none⟩) BB.length bc) ∧ W.cell? ⟨bb, bo + k, none⟩ = some (.slice A1 B.length c1) ∧ W.cell? ⟨tb, tof + k, none⟩ = some (.slice A2 L.length c2)) := fun W hb => ⟨hb, on_some hb d0, on_some hb d4, on_some hb x1, on_some hb x2⟩
            have HKP := Lib.hid KP
            have HN := Lib.hid (firT_at hBk hLk)
            obtain ⟨z, hz⟩ : ∃ z, sT B (L.map Pt.kind) = z := ⟨_, rfl⟩
            rw [hz] at HN
            have HZ := Lib.hid hz
            clear KP x1 x2 hbc htc hs1 hs2 hR hPs hPo hBk hLk hz
            go_upto_region 12 with (fail)
            refine wp_region_held_drew (S := fun w' => Below wr.heap.size wr w' ∧ w'.cell? ⟨w.heap.size, 0, none⟩ = some (.slice (some ⟨tb, tof, none⟩) T.length cap) ∧ w'.cell? ⟨w.heap.size, 4, none⟩ = some (.slice (some ⟨bb, bo, none⟩) BB.length bc) ∧ w'.cell? ⟨bb, bo + k, none⟩ = some (.slice A1 B.length c1) ∧ w'.cell? ⟨tb, tof + k, none⟩ = some (.slice A2 L.length c2)) (by kernel_rfl) (HKP.out _ (Below.refl _ wr).drew) (fun hHeld => ?_)
            refine wpAnyH_take (i := 0) (oi := ⟨some 34, _, _, _, _, _⟩) (v := ?vf0) rfl (by kernel_rfl) (by kernel_rfl) (by kernel_rfl) (fun _ _ _ h => h) (Or.inl ⟨by rfl, ?yf0⟩) hHeld ?rf0
            case yf0 => (intro w' hSw; (try dsimp only at hSw); go_simp; try (with_reducible rfl))
            simp only [Act.put, List.setIfInBounds_toArray, List.set_cons_zero, List.set_cons_succ]
            refine wpAnyH_take (i := 1) (oi := ⟨some 35, _, _, _, _, _⟩) (v := ?vf1) rfl (by kernel_rfl) (by kernel_rfl) (by kernel_rfl) (fun _ _ _ h => h) (Or.inl ⟨by rfl, ?yf1⟩) hHeld ?rf1
            case yf1 => (intro w' hSw; (try dsimp only at hSw); go_simp; try (with_reducible rfl))
            simp only [Act.put, List.setIfInBounds_toArray, List.set_cons_zero, List.set_cons_succ]
            refine wpAnyH_take (i := 2) (oi := ⟨some 36, _, _, _, _, _⟩) (v := ?vf2) rfl (by kernel_rfl) (by kernel_rfl) (by kernel_rfl) (fun _ _ _ h => h) (Or.inl ⟨by rfl, ?yf2⟩) hHeld ?rf2
            case yf2 => (intro w' hSw; (try dsimp only at hSw); go_simp; try (with_reducible rfl))
            simp only [Act.put, List.setIfInBounds_toArray, List.set_cons_zero, List.set_cons_succ]
            refine wpAnyH_take (i := 3) (oi := ⟨some 37, _, _, _, _, _⟩) (v := ?vf3) rfl (by kernel_rfl) (by kernel_rfl) (by kernel_rfl) (fun _ _ _ h => h) (Or.inl ⟨by rfl, ?yf3⟩) hHeld ?rf3
            case yf3 => (intro w' hSw; (try dsimp only at hSw); go_simp; try (with_reducible rfl))
            simp only [Act.put, List.setIfInBounds_toArray, List.set_cons_zero, List.set_cons_succ]
            refine wpAnyH_take (i := 4) (oi := ⟨some 38, _, _, _, _, _⟩) (v := ?vf4) rfl (by kernel_rfl) (by kernel_rfl) (by kernel_rfl) (fun _ _ _ h => h) (Or.inl ⟨by rfl, ?yf4⟩) hHeld ?rf4
            case yf4 => (intro w' hSw; (try dsimp only at hSw); go_simp; try (with_reducible rfl))
            simp only [Act.put, List.setIfInBounds_toArray, List.set_cons_zero, List.set_cons_succ]
            refine wpAnyH_take (i := 5) (oi := ⟨some 39, _, _, _, _, _⟩) (v := ?vf5) rfl (by kernel_rfl) (by kernel_rfl) (by kernel_rfl) (fun _ _ _ h => h) (Or.inl ⟨by rfl, ?yf5⟩) hHeld ?rf5
            case yf5 => (intro w' hSw; (try dsimp only at hSw); go_simp; try (with_reducible rfl))
            simp only [Act.put, List.setIfInBounds_toArray, List.set_cons_zero, List.set_cons_succ]
            refine wpAnyH_take (i := 6) (oi := ⟨some 40, _, _, _, _, _⟩) (v := ?vf6) rfl (by kernel_rfl) (by kernel_rfl) (by kernel_rfl) (fun _ _ _ h => h) (Or.inl ⟨by rfl, ?yf6⟩) hHeld ?rf6
            case yf6 => (intro w' hSw; (try dsimp only at hSw); go_simp; try (with_reducible rfl))
            simp only [Act.put, List.setIfInBounds_toArray, List.set_cons_zero, List.set_cons_succ]
            refine wpAnyH_take (i := 7) (oi := ⟨some 41, _, _, _, _, _⟩) (v := ?vf7) rfl (by kernel_rfl) (by kernel_rfl) (by kernel_rfl) (fun _ _ _ h => h) (Or.inl ⟨by rfl, ?yf7⟩) hHeld ?rf7
            case yf7 => (intro w' hSw; (try dsimp only at hSw); go_simp; try (with_reducible rfl))
            simp only [Act.put, List.setIfInBounds_toArray, List.set_cons_zero, List.set_cons_succ]
            refine wpAnyH_take (i := 8) (oi := ⟨some 42, _, _, _, _, _⟩) (v := ?vf8) rfl (by kernel_rfl) (by kernel_rfl) (by kernel_rfl) (fun _ _ _ h => h) (Or.inl ⟨by rfl, ?yf8⟩) hHeld ?rf8
            case yf8 => (intro w' hSw; (try dsimp only at hSw); go_simp; try (with_reducible rfl))
            simp only [Act.put, List.setIfInBounds_toArray, List.set_cons_zero, List.set_cons_succ]
            refine wpAnyH_take (i := 9) (oi := ⟨some 43, _, _, _, _, _⟩) (v := ?vf9) rfl (by kernel_rfl) (by kernel_rfl) (by kernel_rfl) (fun _ _ _ h => h) (Or.inl ⟨by rfl, ?yf9⟩) hHeld ?rf9
            case yf9 => (intro w' hSw; (try dsimp only at hSw); go_simp; try (with_reducible rfl))
            simp only [Act.put, List.setIfInBounds_toArray, List.set_cons_zero, List.set_cons_succ]
            refine wpAnyH_take (i := 10) (oi := ⟨some 44, _, _, _, _, _⟩) (v := ?vf10) rfl (by kernel_rfl) (by kernel_rfl) (by kernel_rfl) (fun _ _ _ h => h) (Or.inl ⟨by rfl, ?yf10⟩) hHeld ?rf10
            case yf10 => (intro w' hSw; (try dsimp only at hSw); go_simp; try (with_reducible rfl))
            simp only [Act.put, List.setIfInBounds_toArray, List.set_cons_zero, List.set_cons_succ]
            refine wpAnyH_ready (rs := [11]) (by kernel_rfl) (by simp) ?_
            refine AllReadyH.cons (o := ⟨some 45, _, _, _, _, _⟩) rfl (fun K hK => ?_) AllReadyH.nil
            go_simp
            (with_reducible refine (rtabs_c _ _ B (L.map Pt.kind) _ (HR.out.on (HB3.out.trans (hHeld.1.mono HB3.out.size))) (HPo.out.on (HB3.out.trans (hHeld.1.mono HB3.out.size)))).mono ?_)
            rintro e w5 ⟨rfl, hb⟩
            rw [HZ.out]
            (try dsimp only)
            refine hK.out _ _ (HKP.out _ (hHeld.1.trans (hb.mono hHeld.1.size))) (fun hNext => ?_)
            clear hK K hHeld
            have hHeld := hNext
            clear hNext
            try simp only [Act.put, List.setIfInBounds_toArray, List.set_cons_zero, List.set_cons_succ]
            refine wpAnyH_take (i := 12) (oi := ⟨some 3, _, _, _, _, _⟩) (v := ?vf12) rfl (by kernel_rfl) (by kernel_rfl) (by kernel_rfl) (fun _ _ _ h => h) (Or.inl ⟨by rfl, ?yf12⟩) hHeld ?rf12
            case yf12 => (intro w' hSw; (try dsimp only at hSw); go_simp; try (with_reducible rfl))
            simp only [Act.put, List.setIfInBounds_toArray, List.set_cons_zero, List.set_cons_succ]
            refine wpAnyH_done (by kernel_rfl) ?_ _
            have HBE := Lib.hid (HB3.out.trans (hHeld.1.mono HB3.out.size))
            have HWE := Lib.hid (HW.out.trans (hHeld.1.mono HW.out.size))
            clear hHeld HKP HB3 HW d0 d1 d2 d3 d4
            by_cases hz0 : z = 0
            · subst hz0
              rw [if_pos rfl] at HN
              have HF2 : Hid (firT BB T = firT (BB.drop (k + 1)) (T.drop (k + 1))) := HF.out.trans HN.out
              go_wp2
              go_roundg (BB.length - (k + 1))
              case measure => omega
              case rel => exact ⟨k + 1, by omega, rfl, by go_num, HF2, HWE⟩
            · rw [if_neg hz0] at HN
              have HE : Hid (cfgT T ten P Q BB = z) := HC.out.trans (HF.out.trans HN.out)
              go_wp2
              go_ret
              exact ⟨by rw [HE.out]; rfl, HBE.out⟩
          · have hltz : ¬ (k : Int) < (BB.length : Int) := by omega
            have HE : Hid (cfgT T ten P Q BB = 0) := HC.out.trans (HF.out.trans (firT_end T (by omega)))
            go_wp2
            go_ret
            exact ⟨by rw [HE.out]; rfl, HB3.out⟩
      · rw [if_neg hl] at HC
        have hlz : ¬ (BB.length : Int) = (T.length : Int) := by omega
        have hne1 : ((BB.length : Int) != (T.length : Int)) = true := bne_iff_ne.2 hlz
        have HE := HC
        clear HC
        go_wp2
        go_ret
        exact ⟨by rw [HE.out]; rfl, HB2.out⟩
    · rw [if_neg hq0] at HC
      have HE := HC
      clear HC
      go_wp2
      go_ret
      exact ⟨by rw [HE.out]; rfl, HB2.out⟩
  · have HE : Hid (cfgT T ten P Q BB = sTp T) := by show _ = _; unfold cfgT; rw [if_neg hs]
    obtain ⟨q, hq⟩ : ∃ q, sTp T = q := ⟨_, rfl⟩
    rw [hq] at hs HE ⊢
    clear hq
    go_wp2
    go_ret
    exact ⟨by rw [HE.out]; rfl, HB1.out⟩
end Go.Proofs

namespace Go.Proofs
open Go.RowKit Go.Proofs.Hd Go.Lib
theorem cwin_c (x : Bool) (n m : Int) (w : World) (hx : inB n m = x) : Calls Try.prog 68 #[.int .i64 n, .int .i64 m] w fun e w' => e = .returned (.bool x) ∧ w' = w := by
  unfold inB at hx
  by_cases h0 : 0 ≤ n
  · by_cases h1 : n < m
    · rw [decide_eq_true h0, decide_eq_true h1] at hx
      subst hx
      go_enter Try.func68, Try.ntmps68
      go_wp2
      go_ret
      exact ⟨rfl, rfl⟩
    · rw [decide_eq_true h0, decide_eq_false h1] at hx
      subst hx
      go_enter Try.func68, Try.ntmps68
      go_wp2
      go_ret
      exact ⟨rfl, rfl⟩
  · rw [decide_eq_false h0] at hx
    subst hx
    go_enter Try.func68, Try.ntmps68
    go_wp2
    go_ret
    exact ⟨rfl, rfl⟩
end Go.Proofs

namespace Go.Proofs.Hd
open Go.RowKit
section
variable {α : Type} {enc : α → List Value} {k : Nat}
theorem fm_get (hk : ∀ x, (enc x).length = k) {L : List α} {i j : Nat} {x : α} (h : L[i]? = some x) (hj : j < k) : (L.flatMap enc)[i * k + j]? = (enc x)[j]? := by
  induction L generalizing i with
  | nil => simp at h
  | cons c L ih =>
    rw [List.flatMap_cons]
    cases i with
    | zero =>
      simp only [List.getElem?_cons_zero, Option.some.injEq] at h
      subst h
      rw [List.getElem?_append_left (by rw [hk]; omega)]
      simp
    | succ i =>
      rw [List.getElem?_cons_succ] at h
      rw [List.getElem?_append_right (by rw [hk, Nat.add_mul]; omega), hk]
      rw [show (i + 1) * k + j - k = i * k + j by rw [Nat.add_mul]; omega]
      exact ih h
/-- v is a slice that reads as the elements L, of k cells each. -/
def RdE (w : World) (k : Nat) (enc : α → List Value) (v : Value) (L : List α) : Prop := ∃ A cap, v = .slice A L.length cap ∧ (L ≠ [] → ∃ b o, A = some ⟨b, o, none⟩ ∧ b < w.heap.size ∧ ∀ i x, L[i]? = some x → ∀ j u, (enc x)[j]? = some u → w.cell? ⟨b, o + i * k + j, none⟩ = some u)
theorem own_rde {w : World} {base : Nat} {t : TypeId} {v : Value} {L : List α} (h : w.ownsRow base t k v L.length (L.flatMap enc)) (hk : ∀ x, (enc x).length = k) : RdE w k enc v L := by
  rcases h.2 with ⟨rfl, hn⟩ | ⟨g, cap, cur, rfl, hb, hg, _⟩
  · obtain rfl : L = [] := List.eq_nil_of_length_eq_zero hn
    exact ⟨none, 0, rfl, fun h => absurd rfl h⟩
  · refine ⟨_, cap, rfl, fun _ => ⟨g, 0, rfl, (Array.getElem?_eq_some_iff.1 hg).1, fun i x hx j u hu => ?_⟩⟩
    have hil := (List.getElem?_eq_some_iff.1 hx).1
    have hjk : j < k := by have := (List.getElem?_eq_some_iff.1 hu).1; rwa [hk] at this
    have hlt : i * k + j < L.length * k := by
      have : (i + 1) * k ≤ L.length * k := Nat.mul_le_mul_right k hil
      rw [Nat.add_mul] at this
      omega
    rw [Nat.zero_add, h.cellAt (i * k + j) hlt, fm_get hk hx hjk]
    exact hu
theorem own_len {w : World} {base : Nat} {t : TypeId} {v : Value} {n : Nat} {xs : List Value} (h : w.ownsRow base t k v n xs) : n ≤ maxLen := by
  rcases h.2 with ⟨_, rfl⟩ | ⟨g, cap, cur, _, _, _, h1, h2, _⟩
  · exact Nat.zero_le _
  · exact Nat.le_trans h1 h2
end
theorem own_sl {w : World} {base : Nat} {t : TypeId} {size n : Nat} {v : Value} {xs : List Value} (h : w.ownsRow base t size v n xs) : ∃ A cap, v = .slice A n cap ∧ (0 < n → ∃ g, A = some ⟨g, 0, none⟩) := by
  rcases h.2 with ⟨rfl, rfl⟩ | ⟨g, cap, cur, rfl, _⟩
  · exact ⟨none, 0, rfl, fun h => by omega⟩
  · exact ⟨_, cap, rfl, fun _ => ⟨g, rfl⟩⟩
theorem own_tb {w : World} {base g : Nat} {t : TypeId} {size n cap : Nat} {xs : List Value} (h : w.ownsRow base t size (.slice (some ⟨g, 0, none⟩) n cap) n xs) : TB w g t ∧ base ≤ g ∧ g < w.heap.size := by
  rcases h.2 with ⟨h', _⟩ | ⟨g', cap', cur, h', hb, hg, _⟩
  · simp at h'
  · simp only [Value.slice.injEq, Option.some.injEq, Addr.mk.injEq, and_true, true_and] at h'
    obtain ⟨rfl, rfl⟩ := h'
    exact ⟨⟨cur, (0, 0), hg⟩, hb, (Array.getElem?_eq_some_iff.1 hg).1⟩
theorem Src.on {w w' : World} {k n : Nat} {v : Value} {news : List Value} (h : Src w k v n news) (hb : Below w.heap.size w w') : Src w' k v n news := by
  obtain ⟨h1, h2, h3 | ⟨ad, c, e, hc⟩⟩ := h
  · exact ⟨h1, h2, .inl h3⟩
  · exact ⟨h1, h2, .inr ⟨ad, c, e, fun j u hj => on_some hb (hc j u hj)⟩⟩
/-- Pairs and ways as cells. -/
def encA (x : Int × Int) : List Value := [.int .i64 x.1, .int .i64 x.2]
def Wa.cs (x : Wa) : List Value := [.int .i64 x.frm, .int .i64 x.too, .int .i64 x.via]
theorem len_pt (x : Pt) : x.cs.length = 5 := rfl
theorem len_rl (x : Rl) : x.cs.length = 12 := rfl
theorem len_a (x : Int × Int) : (encA x).length = 2 := rfl
theorem len_w (x : Wa) : x.cs.length = 3 := rfl
theorem RdE.ps {w : World} {v : Value} {L : List Pt} (h : RdE w 5 Pt.cs v L) (hl : L.length ≤ maxLen) : Ps w v L := by
  obtain ⟨A, cap, rfl, h⟩ := h
  refine ⟨A, cap, rfl, hl, fun hne => ?_⟩
  obtain ⟨b, o, e, hb, hc⟩ := h hne
  exact ⟨b, o, e, hb, fun i x hx => ⟨hc i x hx 0 _ rfl, hc i x hx 1 _ rfl, hc i x hx 2 _ rfl, hc i x hx 3 _ rfl, hc i x hx 4 _ rfl⟩⟩
theorem RdE.pe {w : World} {v : Value} {L : List (Int × Int)} (h : RdE w 2 encA v L) (hl : L.length ≤ maxLen) : Pe w v L := by
  obtain ⟨A, cap, rfl, h⟩ := h
  refine ⟨A, cap, rfl, hl, fun hne => ?_⟩
  obtain ⟨b, o, e, hb, hc⟩ := h hne
  exact ⟨b, o, e, hb, fun i x hx => ⟨hc i x hx 0 _ rfl, hc i x hx 1 _ rfl⟩⟩
theorem RdE.wy {w : World} {v : Value} {L : List Wa} (h : RdE w 3 Wa.cs v L) (hl : L.length ≤ maxLen) : Wy w v L := by
  obtain ⟨A, cap, rfl, h⟩ := h
  refine ⟨A, cap, rfl, hl, fun hne => ?_⟩
  obtain ⟨b, o, e, hb, hc⟩ := h hne
  exact ⟨b, o, e, hb, fun i x hx => ⟨hc i x hx 0 _ rfl, hc i x hx 1 _ rfl, hc i x hx 2 _ rfl⟩⟩
theorem RdE.ru {w : World} {v : Value} {L : List Rl} (h : RdE w 12 Rl.cs v L) : Ru w v L := by
  obtain ⟨A, cap, rfl, h⟩ := h
  by_cases hne : L = []
  · subst hne; exact .inl ⟨rfl, A, cap, rfl⟩
  · obtain ⟨b, o, rfl, hb, hc⟩ := h hne
    exact .inr ⟨b, o, cap, rfl, hb, fun i x hx j u hu => hc i x hx j u hu⟩
section
variable {β : Type}
/-- A list of headers of the call's own; each reads as R says. -/
def OwG (te : TypeId) (R : World → Value → β → Prop) (w : World) (B : Nat) (v : Value) (T : List β) : Prop := ∃ hs, w.ownsRow B te 1 v T.length hs ∧ ∀ (i : Nat) (x : β), T[i]? = some x → ∃ s, hs[i]? = some s ∧ R w s x
theorem OwG.on {te : TypeId} {R : World → Value → β → Prop} (hR : ∀ w w' s x, Below w.heap.size w w' → R w s x → R w' s x) {w w' : World} {B : Nat} {v : Value} {T : List β} (h : OwG te R w B v T) (hb : Below w.heap.size w w') : OwG te R w' B v T := by
  obtain ⟨hs, h1, h2⟩ := h
  refine ⟨hs, own_on h1 hb, fun i x hx => ?_⟩
  obtain ⟨s, e, hr⟩ := h2 i x hx
  exact ⟨s, e, hR _ _ _ _ hb hr⟩
theorem OwG.far {te t3 : TypeId} (hne : te ≠ t3) {R : World → Value → β → Prop} (hR : ∀ (w : World) (g i : Nat) (u s : Value) (x : β), TB w g t3 → R w s x → R (w.setCell ⟨g, i, none⟩ u) s x) {w : World} {g i B : Nat} {u v : Value} {T : List β} (hg : TB w g t3) (h : OwG te R w B v T) : OwG te R (w.setCell ⟨g, i, none⟩ u) B v T := by
  obtain ⟨hs, h1, h2⟩ := h
  refine ⟨hs, ownsRow_setCell_other h1 (fun e => own_apartT h1 hg hne e.symm) u, fun j x hx => ?_⟩
  obtain ⟨s, e, hr⟩ := h2 j x hx
  exact ⟨s, e, hR _ _ _ _ _ _ hg hr⟩
end
/-- Ports, rules of the call's own. -/
def O1P (B : Nat) (w : World) (s : Value) (L : List Pt) : Prop := w.ownsRow B 88 5 s L.length (L.flatMap Pt.cs)
def O1R (B : Nat) (w : World) (s : Value) (L : List Rl) : Prop := w.ownsRow B 38 12 s L.length (L.flatMap Rl.cs)
def O2P (B : Nat) (w : World) (v : Value) (T : List (List Pt)) : Prop := OwG 86 (O1P B) w B v T
def O2R (B : Nat) (w : World) (v : Value) (T : List (List Rl)) : Prop := OwG 30 (O1R B) w B v T
def O3R (B : Nat) (w : World) (v : Value) (T : List (List (List Rl))) : Prop := OwG 22 (O2R B) w B v T
theorem O1P.on (B : Nat) : ∀ w w' s x, Below w.heap.size w w' → O1P B w s x → O1P B w' s x := fun _ _ _ _ hb h => own_on h hb
theorem O1R.on (B : Nat) : ∀ w w' s x, Below w.heap.size w w' → O1R B w s x → O1R B w' s x := fun _ _ _ _ hb h => own_on h hb
theorem O2P.on (B : Nat) : ∀ w w' s x, Below w.heap.size w w' → O2P B w s x → O2P B w' s x := fun _ _ _ _ hb h => OwG.on (O1P.on B) h hb
theorem O2R.on (B : Nat) : ∀ w w' s x, Below w.heap.size w w' → O2R B w s x → O2R B w' s x := fun _ _ _ _ hb h => OwG.on (O1R.on B) h hb
theorem O3R.on (B : Nat) : ∀ w w' s x, Below w.heap.size w w' → O3R B w s x → O3R B w' s x := fun _ _ _ _ hb h => OwG.on (O2R.on B) h hb
theorem O1P.far {B : Nat} {t3 : TypeId} (hne : 88 ≠ t3) : ∀ (w : World) (g i : Nat) (u s : Value) (x : List Pt), TB w g t3 → O1P B w s x → O1P B (w.setCell ⟨g, i, none⟩ u) s x := fun _ _ _ u _ _ hg h => ownsRow_setCell_other h (fun e => own_apartT h hg hne e.symm) u
theorem O1R.far {B : Nat} {t3 : TypeId} (hne : 38 ≠ t3) : ∀ (w : World) (g i : Nat) (u s : Value) (x : List Rl), TB w g t3 → O1R B w s x → O1R B (w.setCell ⟨g, i, none⟩ u) s x := fun _ _ _ u _ _ hg h => ownsRow_setCell_other h (fun e => own_apartT h hg hne e.symm) u
theorem O2R.far {B : Nat} {t3 : TypeId} (hne : 38 ≠ t3) (hne2 : 30 ≠ t3) : ∀ (w : World) (g i : Nat) (u s : Value) (x : List (List Rl)), TB w g t3 → O2R B w s x → O2R B (w.setCell ⟨g, i, none⟩ u) s x := fun _ _ _ _ _ _ hg h => OwG.far hne2 (O1R.far hne) hg h
theorem O1P.mono {B B' : Nat} (hB : B' ≤ B) {w : World} {s : Value} {L : List Pt} (h : O1P B w s L) : O1P B' w s L := World.ownsRow.mono h hB
theorem O1R.mono {B B' : Nat} (hB : B' ≤ B) {w : World} {s : Value} {L : List Rl} (h : O1R B w s L) : O1R B' w s L := World.ownsRow.mono h hB
theorem O2P.mono {B B' : Nat} (hB : B' ≤ B) {w : World} {s : Value} {T : List (List Pt)} (h : O2P B w s T) : O2P B' w s T := by
  obtain ⟨hs, h1, h2⟩ := h
  refine ⟨hs, World.ownsRow.mono h1 hB, fun i x hx => ?_⟩
  obtain ⟨s, e, hr⟩ := h2 i x hx
  exact ⟨s, e, O1P.mono hB hr⟩
theorem O2R.mono {B B' : Nat} (hB : B' ≤ B) {w : World} {s : Value} {T : List (List Rl)} (h : O2R B w s T) : O2R B' w s T := by
  obtain ⟨hs, h1, h2⟩ := h
  refine ⟨hs, World.ownsRow.mono h1 hB, fun i x hx => ?_⟩
  obtain ⟨s, e, hr⟩ := h2 i x hx
  exact ⟨s, e, O1R.mono hB hr⟩
theorem O3R.mono {B B' : Nat} (hB : B' ≤ B) {w : World} {s : Value} {T : List (List (List Rl))} (h : O3R B w s T) : O3R B' w s T := by
  obtain ⟨hs, h1, h2⟩ := h
  refine ⟨hs, World.ownsRow.mono h1 hB, fun i x hx => ?_⟩
  obtain ⟨s, e, hr⟩ := h2 i x hx
  exact ⟨s, e, O2R.mono hB hr⟩
theorem OwG.rd {β : Type} {te : TypeId} {R : World → Value → β → Prop} {w : World} {B : Nat} {v : Value} {T : List β} (h : OwG te R w B v T) : ∃ A cap, v = .slice A T.length cap ∧ T.length ≤ maxLen ∧ (T ≠ [] → ∃ b o, A = some ⟨b, o, none⟩ ∧ b < w.heap.size ∧ ∀ (k : Nat) (x : β), T[k]? = some x → ∃ s, w.cell? ⟨b, o + k, none⟩ = some s ∧ R w s x) := by
  obtain ⟨hs, h1, h2⟩ := h
  have hm := own_len h1
  obtain ⟨A, cap, rfl, hA⟩ := own_sl h1
  refine ⟨A, cap, rfl, hm, fun hne => ?_⟩
  obtain ⟨g, rfl⟩ := hA (List.length_pos_iff.2 hne)
  refine ⟨g, 0, rfl, (own_tb h1).2.2, fun k x hx => ?_⟩
  obtain ⟨s, e, hr⟩ := h2 k x hx
  have hkl := (List.getElem?_eq_some_iff.1 hx).1
  exact ⟨s, by rw [Nat.zero_add, h1.cellAt k (by omega)]; exact e, hr⟩
theorem O1P.ps {B : Nat} {w : World} {s : Value} {L : List Pt} (h : O1P B w s L) : Ps w s L := (own_rde h len_pt).ps (own_len h)
theorem O1R.ru {B : Nat} {w : World} {s : Value} {L : List Rl} (h : O1R B w s L) : Ru w s L := (own_rde h len_rl).ru
theorem O2P.rd {B : Nat} {w : World} {v : Value} {T : List (List Pt)} (h : O2P B w v T) : PsT w v T := by
  obtain ⟨A, cap, e, hm, hc⟩ := OwG.rd h
  refine ⟨A, cap, e, hm, fun hne => ?_⟩
  obtain ⟨b, o, e2, hb, hk⟩ := hc hne
  refine ⟨b, o, e2, hb, fun k L hL => ?_⟩
  obtain ⟨s, h1, h2⟩ := hk k L hL
  exact ⟨s, h1, h2.ps⟩
theorem O2R.rd {B : Nat} {w : World} {v : Value} {T : List (List Rl)} (h : O2R B w v T) : RuT w v T := by
  obtain ⟨A, cap, e, hm, hc⟩ := OwG.rd h
  refine ⟨A, cap, e, hm, fun L hL => ?_, fun hne => ?_⟩
  · obtain ⟨i, hi⟩ := List.getElem?_of_mem hL
    obtain ⟨b, o, e2, hb, hk⟩ := hc (by rintro rfl; simp at hi)
    obtain ⟨s, h1, h2⟩ := hk i L hi
    exact own_len h2
  · obtain ⟨b, o, e2, hb, hk⟩ := hc hne
    refine ⟨b, o, e2, hb, fun k L hL => ?_⟩
    obtain ⟨s, h1, h2⟩ := hk k L hL
    exact ⟨s, h1, h2.ru⟩
theorem O3R.rd {B : Nat} {w : World} {v : Value} {T : List (List (List Rl))} (h : O3R B w v T) : RuQ w v T := by
  obtain ⟨A, cap, e, hm, hc⟩ := OwG.rd h
  refine ⟨A, cap, e, hm, fun hne => ?_⟩
  obtain ⟨b, o, e2, hb, hk⟩ := hc hne
  refine ⟨b, o, e2, hb, fun k L hL => ?_⟩
  obtain ⟨s, h1, h2⟩ := hk k L hL
  exact ⟨s, h1, O2R.rd h2⟩
theorem Ps.one {w : World} {s : Value} {L : List Pt} (h : Ps w s L) : s.oneCell' = true := by obtain ⟨A, cap, rfl, _⟩ := h; rfl
theorem Ru.one {w : World} {s : Value} {L : List Rl} (h : Ru w s L) : s.oneCell' = true := by obtain ⟨A, cap, rfl, _⟩ := h.form; rfl
theorem RuT.one {w : World} {s : Value} {L : List (List Rl)} (h : RuT w s L) : s.oneCell' = true := by obtain ⟨A, cap, rfl, _⟩ := h; rfl
end Go.Proofs.Hd

namespace Go.Proofs
open Go.RowKit Go.Proofs.Hd Go.Lib
end Go.Proofs

namespace Go.Proofs.Hd
open Go.RowKit
/-- Block b, at or behind block B, holds the cells cs. -/
def Nb (B : Nat) (w : World) (b : Nat) (T : TypeId) (cs : Array Value) : Prop := Blk w b T cs ∧ B ≤ b
theorem Nb.on {B b : Nat} {W w' : World} {T : TypeId} {cs : Array Value} (h : Nb B W b T cs) (hb : Below W.heap.size W w') : Nb B w' b T cs := ⟨h.1.on hb, h.2⟩
theorem Nb.top {B : Nat} {T : TypeId} {cs : Array Value} (X : World) (h : B ≤ X.heap.size) : Nb B (X.alloc (.cells cs T)) X.heap.size T cs := ⟨Blk.new X T cs, h⟩
theorem Nb.ne {B b : Nat} {W : World} {T : TypeId} {cs : Array Value} (h : Nb B W b T cs) : b ≠ W.heap.size := Nat.ne_of_lt h.1.lt
theorem Nb.there {B b : Nat} {W : World} {T : TypeId} {cs : Array Value} (h : Nb B W b T cs) : W.there b 0 cs.size := fun j hj => by
  rw [Nat.zero_add, h.1.cell j, h.1.free j]
  simp [hj]
theorem Blk.farC {g b : Nat} {t : TypeId} {cs : Array Value} (hne : b ≠ g) : ∀ (vs : List Value) (o : Nat) (w : World), Blk w g t cs → Blk (w.setCells b o vs) g t cs
  | [], _, _, h => h
  | v :: vs, o, _, h => Blk.farC hne vs (o + 1) _ (h.far (p := ⟨b, o, none⟩) (fun e => hne e.symm) v)
theorem Nb.far {B b c : Nat} {W : World} {T : TypeId} {cs : Array Value} (h : Nb B W b T cs) (hne : c ≠ b) (vs : List Value) : Nb B (W.setCells c 0 vs) b T cs := ⟨Blk.farC hne vs 0 W h.1, h.2⟩
/-- Cells from place o on are set, one by one. -/
def setL (cs : Array Value) : Nat → List Value → Array Value
  | _, [] => cs
  | o, v :: vs => setL (cs.setIfInBounds o v) (o + 1) vs
theorem Blk.putC {b : Nat} {t : TypeId} : ∀ (vs : List Value) (o : Nat) (w : World) (cs : Array Value), Blk w b t cs → Blk (w.setCells b o vs) b t (setL cs o vs)
  | [], _, _, _, h => h
  | v :: vs, o, _, _, h => Blk.putC vs (o + 1) _ _ (h.set o v)
theorem setL_get : ∀ (vs : List Value) (o : Nat) (cs : Array Value) (j : Nat), (setL cs o vs)[j]? = if o ≤ j ∧ j < o + vs.length ∧ j < cs.size then vs[j - o]? else cs[j]?
  | [], o, cs, j => by rw [setL, if_neg (by simp; omega)]
  | v :: vs, o, cs, j => by
    rw [setL, setL_get vs]
    simp only [Array.size_setIfInBounds, List.length_cons]
    by_cases h1 : j = o
    · subst h1
      rw [if_neg (by omega)]
      by_cases h2 : j < cs.size
      · rw [if_pos (by omega)]
        simp [h2]
      · rw [if_neg (by omega)]
        simp [h2]
    · by_cases h2 : o + 1 ≤ j ∧ j < o + 1 + vs.length ∧ j < cs.size
      · rw [if_pos h2, if_pos (by omega), show j - o = (j - (o + 1)) + 1 by omega, List.getElem?_cons_succ]
      · rw [if_neg h2, if_neg (by omega), Array.getElem?_setIfInBounds, if_neg (fun e => h1 e.symm)]
theorem setL_all (vs : List Value) (cs : Array Value) (h : vs.length = cs.size) : setL cs 0 vs = vs.toArray := by
  apply Array.ext_getElem?
  intro j
  rw [setL_get]
  by_cases hj : j < cs.size
  · rw [if_pos (by omega)]; simp
  · rw [if_neg (by omega), Array.getElem?_eq_none (by omega), Array.getElem?_eq_none (by simp; omega)]
theorem Nb.put {B b : Nat} {W : World} {T : TypeId} {cs : Array Value} (h : Nb B W b T cs) (vs : List Value) (hl : vs.length = cs.size) : Nb B (W.setCells b 0 vs) b T vs.toArray := by
  refine ⟨?_, h.2⟩
  rw [← setL_all vs cs hl]
  exact Blk.putC vs 0 W cs h.1
end Go.Proofs.Hd

namespace Go.Proofs.Hd
open Go.RowKit
theorem O2P.far {B : Nat} {t3 : TypeId} (hne : 88 ≠ t3) (hne2 : 86 ≠ t3) : ∀ (w : World) (g i : Nat) (u s : Value) (x : List (List Pt)), TB w g t3 → O2P B w s x → O2P B (w.setCell ⟨g, i, none⟩ u) s x := fun _ _ _ _ _ _ hg h => OwG.far hne2 (O1P.far hne) hg h
/-- A configuration of the call's own. -/
structure Cfo (B : Nat) (w : World) (tv pv wv bv : Value) (T : List (List Pt)) (P : List (Int × Int)) (Q : List Wa) (BB : List (List (List Rl))) : Prop where
  ports : O2P B w tv T
  peers : w.ownsRow B 102 2 pv P.length (P.flatMap encA)
  ways : w.ownsRow B 104 3 wv Q.length (Q.flatMap Wa.cs)
  tabs : O3R B w bv BB
theorem Cfo.on {B : Nat} {w w' : World} {tv pv wv bv : Value} {T : List (List Pt)} {P : List (Int × Int)} {Q : List Wa} {BB : List (List (List Rl))} (h : Cfo B w tv pv wv bv T P Q BB) (hb : Below w.heap.size w w') : Cfo B w' tv pv wv bv T P Q BB :=
  ⟨O2P.on _ _ _ _ _ hb h.ports, own_on h.peers hb, own_on h.ways hb, O3R.on _ _ _ _ _ hb h.tabs⟩
theorem Cfo.mono {B B' : Nat} (hB : B' ≤ B) {w : World} {tv pv wv bv : Value} {T : List (List Pt)} {P : List (Int × Int)} {Q : List Wa} {BB : List (List (List Rl))} (h : Cfo B w tv pv wv bv T P Q BB) : Cfo B' w tv pv wv bv T P Q BB :=
  ⟨O2P.mono hB h.ports, World.ownsRow.mono h.peers hB, World.ownsRow.mono h.ways hB, O3R.mono hB h.tabs⟩
theorem Cfo.rd {B : Nat} {w : World} {tv pv wv bv : Value} {T : List (List Pt)} {P : List (Int × Int)} {Q : List Wa} {BB : List (List (List Rl))} (h : Cfo B w tv pv wv bv T P Q BB) : PsT w tv T ∧ Pe w pv P ∧ Wy w wv Q ∧ RuQ w bv BB :=
  ⟨O2P.rd h.ports, (own_rde h.peers len_a).pe (own_len h.peers), (own_rde h.ways len_w).wy (own_len h.ways), O3R.rd h.tabs⟩
theorem ownsRow_low {w : World} {base : Nat} {e : TypeId} {size : Nat} {v : Value} {n : Nat} {xs : List Value} (h : w.ownsRow base e size v n xs) {g i : Nat} (hg : g < base) (u : Value) : (w.setCell ⟨g, i, none⟩ u).ownsRow base e size v n xs := ownsRow_setCell_below h hg u
theorem OwG.low {β : Type} {te : TypeId} {B g : Nat} (hg : g < B) {R : World → Value → β → Prop} (hR : ∀ (w : World) (i : Nat) (u s : Value) (x : β), R w s x → R (w.setCell ⟨g, i, none⟩ u) s x) {w : World} {i : Nat} {u v : Value} {T : List β} (h : OwG te R w B v T) : OwG te R (w.setCell ⟨g, i, none⟩ u) B v T := by
  obtain ⟨hs, h1, h2⟩ := h
  refine ⟨hs, ownsRow_low h1 hg u, fun j x hx => ?_⟩
  obtain ⟨s, e, hr⟩ := h2 j x hx
  exact ⟨s, e, hR _ _ _ _ _ hr⟩
theorem O1P.low {B g : Nat} (hg : g < B) : ∀ (w : World) (i : Nat) (u s : Value) (x : List Pt), O1P B w s x → O1P B (w.setCell ⟨g, i, none⟩ u) s x := fun _ _ u _ _ h => ownsRow_low h hg u
theorem O1R.low {B g : Nat} (hg : g < B) : ∀ (w : World) (i : Nat) (u s : Value) (x : List Rl), O1R B w s x → O1R B (w.setCell ⟨g, i, none⟩ u) s x := fun _ _ u _ _ h => ownsRow_low h hg u
theorem O2P.low {B g : Nat} (hg : g < B) : ∀ (w : World) (i : Nat) (u s : Value) (x : List (List Pt)), O2P B w s x → O2P B (w.setCell ⟨g, i, none⟩ u) s x := fun _ _ _ _ _ h => OwG.low hg (O1P.low hg) h
theorem O2R.low {B g : Nat} (hg : g < B) : ∀ (w : World) (i : Nat) (u s : Value) (x : List (List Rl)), O2R B w s x → O2R B (w.setCell ⟨g, i, none⟩ u) s x := fun _ _ _ _ _ h => OwG.low hg (O1R.low hg) h
theorem O3R.low {B g : Nat} (hg : g < B) : ∀ (w : World) (i : Nat) (u s : Value) (x : List (List (List Rl))), O3R B w s x → O3R B (w.setCell ⟨g, i, none⟩ u) s x := fun _ _ _ _ _ h => OwG.low hg (O2R.low hg) h
theorem Cfo.low {B g i : Nat} (hg : g < B) {w : World} {tv pv wv bv u : Value} {T : List (List Pt)} {P : List (Int × Int)} {Q : List Wa} {BB : List (List (List Rl))} (h : Cfo B w tv pv wv bv T P Q BB) : Cfo B (w.setCell ⟨g, i, none⟩ u) tv pv wv bv T P Q BB :=
  ⟨O2P.low hg _ _ _ _ _ h.ports, ownsRow_low h.peers hg u, ownsRow_low h.ways hg u, O3R.low hg _ _ _ _ _ h.tabs⟩
theorem Cfo.put5 {B g : Nat} (hg : g < B) {w : World} {tv pv wv bv : Value} {T : List (List Pt)} {P : List (Int × Int)} {Q : List Wa} {BB : List (List (List Rl))} (h : Cfo B w tv pv wv bv T P Q BB) (a0 a1 a2 a3 a4 : Value) : Cfo B (((((w.setCell ⟨g, 0, none⟩ a0).setCell ⟨g, 1, none⟩ a1).setCell ⟨g, 2, none⟩ a2).setCell ⟨g, 3, none⟩ a3).setCell ⟨g, 4, none⟩ a4) tv pv wv bv T P Q BB :=
  ((((h.low hg).low hg).low hg).low hg).low hg
/-- No list of a configuration is longer than memory reaches. -/
structure Szd (T : List (List Pt)) (P : List (Int × Int)) (Q : List Wa) (BB : List (List (List Rl))) : Prop where
  t : T.length ≤ 5864062014634
  l : ∀ L ∈ T, L.length ≤ 3518437208780
  p : P.length ≤ 8796093021952
  q : Q.length ≤ 5864062014634
  b : BB.length ≤ 5864062014634
  x : ∀ X ∈ BB, X.length ≤ 5864062014634
  r : ∀ X ∈ BB, ∀ L ∈ X, L.length ≤ 1466015503658
end Go.Proofs.Hd
namespace Go.Proofs
open Go.RowKit Go.Proofs.Hd Go.Lib
end Go.Proofs

namespace Go.Proofs.Hd
open Go.RowKit
/-- The row that may have been written is of element type t3. -/
def Rw (w : World) (row : Option Nat) (t3 : TypeId) : Prop := row = none ∨ ∃ g, row = some g ∧ TB w g t3
theorem own_kept {w w' : World} {base : Nat} {e t3 : TypeId} {size : Nat} {v : Value} {n : Nat} {xs : List Value} {row : Option Nat} (hr : Rw w row t3) (hne : e ≠ t3) (hg : w.grownBy w' row) (h : w.ownsRow base e size v n xs) : w'.ownsRow base e size v n xs := by
  refine h.kept hg ?_
  rcases hr with rfl | ⟨g, rfl, hb⟩
  · cases v.ownBlock with
    | none => exact .inl rfl
    | some k => exact .inr (by simp)
  · exact .inr fun e2 => own_apartT h hb hne e2.symm
theorem OwG.kept {β : Type} {te t3 : TypeId} (hne : te ≠ t3) {R : World → Value → β → Prop} {w w' : World} {row : Option Nat} (hR : ∀ s x, R w s x → R w' s x) {B : Nat} {v : Value} {T : List β} (hr : Rw w row t3) (hg : w.grownBy w' row) (h : OwG te R w B v T) : OwG te R w' B v T := by
  obtain ⟨hs, h1, h2⟩ := h
  refine ⟨hs, own_kept hr hne hg h1, fun i x hx => ?_⟩
  obtain ⟨s, e, h3⟩ := h2 i x hx
  exact ⟨s, e, hR s x h3⟩
theorem Cfo.start {B : Nat} {w : World} : Cfo B w (.slice none 0 0) (.slice none 0 0) (.slice none 0 0) (.slice none 0 0) [] [] [] [] :=
  ⟨⟨[], World.ownsRow_nil _ _ _ _, fun i x hx => by simp at hx⟩, World.ownsRow_nil _ _ _ _, World.ownsRow_nil _ _ _ _, ⟨[], World.ownsRow_nil _ _ _ _, fun i x hx => by simp at hx⟩⟩
/-- A store into a box of type Config. -/
theorem Cfo.box {B b i : Nat} {u : Value} {w : World} {tv pv wv bv : Value} {T : List (List Pt)} {P : List (Int × Int)} {Q : List Wa} {BB : List (List (List Rl))} (hb : TB w b 49) (h : Cfo B w tv pv wv bv T P Q BB) : Cfo B (w.setCell ⟨b, i, none⟩ u) tv pv wv bv T P Q BB :=
  ⟨O2P.far (by decide) (by decide) _ _ _ _ _ _ hb h.ports, ownsRow_setCell_other h.peers (fun e => own_apartT h.peers hb (by decide) e.symm) u, ownsRow_setCell_other h.ways (fun e => own_apartT h.ways hb (by decide) e.symm) u,
    OwG.far (by decide) (O2R.far (by decide) (by decide)) hb h.tabs⟩
end Go.Proofs.Hd

namespace Go.Proofs.Ytgoenjpllepdjaa
open Go.ChangeShapes Go.WideShapes Go.ChangeAt Go.RowKit Go.Joins Go.Deep Go.Proofs.Hd
theorem cellsPair : Try.prog.cellsOf 102 = 2 := by kernel_rfl
theorem cellsWay : Try.prog.cellsOf 104 = 3 := by kernel_rfl
theorem cellsPol : Try.prog.cellsOf 46 = 3 := by kernel_rfl
theorem cellsCfg : Try.prog.cellsOf 49 = 5 := by kernel_rfl
theorem cellsPairs : Try.prog.cellsOf 43 = 1 := by kernel_rfl
theorem cellsWays : Try.prog.cellsOf 44 = 1 := by kernel_rfl
theorem cellsRss : Try.prog.cellsOf 22 = 1 := by kernel_rfl
theorem cellsRsss : Try.prog.cellsOf 47 = 1 := by kernel_rfl
theorem bytesPt : Try.prog.bytesOf 88 = 40 := by kernel_rfl
theorem bytesPts : Try.prog.bytesOf 86 = 24 := by kernel_rfl
theorem bytesPair : Try.prog.bytesOf 102 = 16 := by kernel_rfl
theorem bytesWay : Try.prog.bytesOf 104 = 24 := by kernel_rfl
theorem bytesRule : Try.prog.bytesOf 38 = 96 := by kernel_rfl
theorem bytesRs : Try.prog.bytesOf 30 = 24 := by kernel_rfl
theorem bytesRss : Try.prog.bytesOf 22 = 24 := by kernel_rfl
instance : Inhabited Rl := ⟨⟨0, ⟨0#64, 0#64, 0#64, 0#64⟩, 0, 0, 0, ⟨0#64, 0#64, 0#64, 0#64⟩⟩⟩
instance : Inhabited Wa := ⟨⟨0, 0, 0⟩⟩
theorem weights_all {H : Type} {P : Program} {e : TypeId} : ∀ {l : List (DataW H)} {d : DataW H}, d ∈ l → ∀ n ∈ d.weights P e, n ∈ DataW.weightsAll P e l
  | d' :: r, d, hd, n, hn => by
    simp only [DataW.weightsAll, List.mem_append]
    rcases List.mem_cons.1 hd with rfl | h
    · exact Or.inl hn
    · exact Or.inr (weights_all h n hn)
/-- No weight of a datum is over memory's reach. -/
def Lite {H : Type} (t : TypeId) (d : DataW H) : Prop := ∀ m ∈ d.weights Try.prog t, m ≤ reachBytes
section
variable {H : Type} {enc : TypeId × Value → H} {W : World}
theorem read_slice {α : Type} [Inhabited α] {tS tE : TypeId} (hu : Try.prog.underlying tS = some (.slice tE)) {K : Nat} (hK : Try.prog.cellsOf tE = K) (hK0 : 0 < K) (Rd : List Value → α → Prop) (Sz : α → Prop)
    (hel : ∀ n cs (y : DataW H × List MemPlace), cs.length = K → DataW.trod enc Try.prog W 0 (fun _ => true) true n tE cs = some y → ∃ x, Rd cs x ∧ (Lite tE y.1 → Sz x))
    {n : Nat} {cs : List Value} {y : DataW H × List MemPlace} (hf : DataW.trod enc Try.prog W 0 (fun _ => true) true n tS cs = some y) :
    ∃ (A : Option Addr) (cap : Nat) (L : List α), cs = [.slice A L.length cap] ∧ L.length ≤ maxLen ∧ (L ≠ [] → ∃ b o, A = some ⟨b, o, none⟩ ∧ b < W.heap.size ∧ ∀ (k : Nat) (x : α), L[k]? = some x → ∃ cs', Rd cs' x ∧ ∀ (j : Nat) (u : Value), cs'[j]? = some u → W.cell? ⟨b, o + k * K + j, none⟩ = some u) ∧
      (Lite tS y.1 → L.length * Try.prog.bytesOf tE ≤ reachBytes ∧ ∀ x ∈ L, Sz x) := by
  rcases open_slice hu hf with ⟨h1, _⟩ | ⟨a, len, cap, m, n, D, Pl, hcs, _, hlc, hcm, hm, hx, hel2⟩
  · exact ⟨none, 0, [], h1, Nat.zero_le _, fun h => absurd rfl h, fun _ => ⟨by simp, fun x hx => absurd hx List.not_mem_nil⟩⟩
  · rw [hK] at hel2
    have hm' : m = cap := by simpa using hm
    subst hm'
    obtain ⟨f, hfr⟩ := choose_lt (α := α) (p := fun i x => (∃ cs', Rd cs' x ∧ cs'.length = K ∧ ∀ (j : Nat) (u : Value), cs'[j]? = some u → W.cell? ((a.add (i * K)).add j) = some u) ∧ (Lite tE (D i) → Sz x)) (fun i (hi : i < m) => by
      obtain ⟨cs', hc, ht⟩ := hel2 i hi
      obtain ⟨_, hl, hat⟩ := World.cells?_some hc
      obtain ⟨x, hr, hz⟩ := hel _ _ _ hl ht
      refine ⟨x, ⟨cs', hr, hl, fun j u hj => ?_⟩, hz⟩
      have hj' : j < K := by have := (List.getElem?_eq_some_iff.1 hj).1; omega
      exact (hat j hj').trans hj)
    have hlen : ((List.range len).map f).length = len := by simp
    have hd := congrArg Prod.fst hx
    refine ⟨some a, m, (List.range len).map f, by rw [hlen]; exact hcs, by rw [hlen]; exact Nat.le_trans hlc hcm, fun hne => ?_, fun hz => ?_⟩
    · have h0 : 0 < len := by
        rcases Nat.eq_zero_or_pos len with h | h
        · subst h; exact absurd (by simp) hne
        · exact h
      obtain ⟨⟨cs0, -, hl0, hc0⟩, -⟩ := hfr 0 (by omega)
      obtain ⟨u0, hu0⟩ : ∃ u, cs0[0]? = some u := ⟨_, List.getElem?_eq_getElem (by omega)⟩
      have h1 := hc0 0 u0 hu0
      obtain ⟨b, off, spot⟩ := a
      have hs : spot = none := by
        have := World.cell?_spot h1
        simpa [Addr.add] using this
      subst hs
      have hlt := World.block_lt_of_cell? W _ h1
      rw [add_plainW, add_plainW] at hlt
      refine ⟨b, off, rfl, hlt, fun k x hk => ?_⟩
      obtain ⟨hkl, rfl⟩ := List.getElem?_eq_some_iff.1 hk
      simp only [List.length_map, List.length_range] at hkl
      simp only [List.getElem_map, List.getElem_range]
      obtain ⟨⟨cs', hr, -, hc⟩, -⟩ := hfr k (by omega)
      refine ⟨cs', hr, fun j u hj => ?_⟩
      have := hc j u hj
      rw [add_plainW, add_plainW] at this
      exact this
    · rw [hd] at hz
      unfold Lite at hz
      simp only [DataW.weights, hu] at hz
      refine ⟨?_, fun x hx => ?_⟩
      · have h1 := hz _ (List.mem_cons_self ..)
        rw [hlen]
        simp only [List.length_map, List.length_range] at h1
        exact Nat.le_trans (Nat.mul_le_mul_right _ (by omega)) h1
      · obtain ⟨i, hi, rfl⟩ := List.mem_map.1 hx
        have hi2 := List.mem_range.1 hi
        refine (hfr i (by omega)).2 fun q hq => hz q (List.mem_cons_of_mem _ (List.mem_append_left _ (weights_all (List.mem_map.2 ⟨i, hi, rfl⟩) q hq)))
theorem rd_pt : ∀ n cs (y : DataW H × List MemPlace), cs.length = 5 → DataW.trod enc Try.prog W 0 (fun _ => true) true n 88 cs = some y → ∃ x : Pt, cs = x.cs ∧ (Lite 88 y.1 → True) := fun _ _ _ hl h => by
  obtain ⟨p, e⟩ := read_pt hl h
  exact ⟨p, e, fun _ => trivial⟩
theorem rd_rl : ∀ n cs (y : DataW H × List MemPlace), cs.length = 12 → DataW.trod enc Try.prog W 0 (fun _ => true) true n 38 cs = some y → ∃ x : Rl, cs = x.cs ∧ (Lite 38 y.1 → True) := fun _ _ _ hl h => by
  obtain ⟨p, e⟩ := read_rule hl h
  exact ⟨p, e, fun _ => trivial⟩
set_option maxRecDepth 100000 in
theorem rd_way : ∀ n cs (y : DataW H × List MemPlace), cs.length = 3 → DataW.trod enc Try.prog W 0 (fun _ => true) true n 104 cs = some y → ∃ x : Wa, cs = x.cs ∧ (Lite 104 y.1 → True) := fun _ cs _ hl h0 => by
  obtain ⟨xs, m, _, _, _, hxs, hf⟩ := DataW.trod_struct Try.underlying104 h0
  have hx3 : xs.length = 3 := hxs
  match cs, hl with
  | [c0, c1, c2], _ =>
    match xs, hx3 with
    | [x0, x1, x2], _ =>
      have q0 := hf 0 _ rfl
      have q1 := hf 1 _ rfl
      have q2 := hf 2 _ rfl
      simp [cellsI] at q0 q1 q2
      obtain ⟨k0, rfl⟩ := int_of q0
      obtain ⟨k1, rfl⟩ := int_of q1
      obtain ⟨k2, rfl⟩ := int_of q2
      exact ⟨⟨k0, k1, k2⟩, rfl, fun _ => trivial⟩
set_option maxRecDepth 100000 in
theorem rd_pair : ∀ n cs (y : DataW H × List MemPlace), cs.length = 2 → DataW.trod enc Try.prog W 0 (fun _ => true) true n 102 cs = some y → ∃ x : Int × Int, cs = encA x ∧ (Lite 102 y.1 → True) := fun _ cs _ hl h0 => by
  obtain ⟨xs, m, _, _, _, hxs, hf⟩ := DataW.trod_array Try.underlying102 h0
  match cs, hl with
  | [c0, c1], _ =>
    match xs, hxs with
    | [x0, x1], _ =>
      have q0 := hf 0 (by decide)
      have q1 := hf 1 (by decide)
      simp [cellsI] at q0 q1
      obtain ⟨k0, rfl⟩ := int_of q0
      obtain ⟨k1, rfl⟩ := int_of q1
      exact ⟨(k0, k1), rfl, fun _ => trivial⟩
theorem rd_ps : ∀ n cs (y : DataW H × List MemPlace), cs.length = 1 → DataW.trod enc Try.prog W 0 (fun _ => true) true n 86 cs = some y → ∃ L : List Pt, (∃ s, cs = [s] ∧ Ps W s L) ∧ (Lite 86 y.1 → L.length ≤ 3518437208780) := fun _ _ _ _ h => by
  obtain ⟨A, cap, L, rfl, hm, hc, hz⟩ := read_slice Try.underlying86 cellsPt (by decide) (fun cs (x : Pt) => cs = x.cs) (fun _ => True) rd_pt h
  refine ⟨L, ⟨_, rfl, RdE.ps ⟨A, cap, rfl, fun hne => ?_⟩ hm⟩, fun hl => ?_⟩
  · obtain ⟨b, o, e, hb, hk⟩ := hc hne
    refine ⟨b, o, e, hb, fun i x hx j u hu => ?_⟩
    obtain ⟨cs', rfl, h2⟩ := hk i x hx
    exact h2 j u hu
  · have := (hz hl).1
    rw [bytesPt] at this
    unfold reachBytes at this
    omega
theorem rd_ru : ∀ n cs (y : DataW H × List MemPlace), cs.length = 1 → DataW.trod enc Try.prog W 0 (fun _ => true) true n 30 cs = some y → ∃ L : List Rl, (∃ s, cs = [s] ∧ Ru W s L ∧ L.length ≤ maxLen) ∧ (Lite 30 y.1 → L.length ≤ 1466015503658) := fun _ _ _ _ h => by
  obtain ⟨A, cap, L, rfl, hm, hc, hz⟩ := read_slice Try.underlying30 cellsRule (by decide) (fun cs (x : Rl) => cs = x.cs) (fun _ => True) rd_rl h
  refine ⟨L, ⟨_, rfl, RdE.ru ⟨A, cap, rfl, fun hne => ?_⟩, hm⟩, fun hl => ?_⟩
  · obtain ⟨b, o, e, hb, hk⟩ := hc hne
    refine ⟨b, o, e, hb, fun i x hx j u hu => ?_⟩
    obtain ⟨cs', rfl, h2⟩ := hk i x hx
    exact h2 j u hu
  · have := (hz hl).1
    rw [bytesRule] at this
    unfold reachBytes at this
    omega
theorem rd_rut : ∀ n cs (y : DataW H × List MemPlace), cs.length = 1 → DataW.trod enc Try.prog W 0 (fun _ => true) true n 22 cs = some y → ∃ X : List (List Rl), (∃ s, cs = [s] ∧ RuT W s X) ∧ (Lite 22 y.1 → X.length ≤ 5864062014634 ∧ ∀ L ∈ X, L.length ≤ 1466015503658) := fun _ _ _ _ h => by
  obtain ⟨A, cap, X, rfl, hm, hc, hz⟩ := read_slice Try.underlying22 cellsRules (by decide) _ _ rd_ru h
  refine ⟨X, ⟨_, rfl, A, cap, rfl, hm, fun L hL => ?_, fun hne => ?_⟩, fun hl => ?_⟩
  · obtain ⟨i, hi⟩ := List.getElem?_of_mem hL
    obtain ⟨b, o, e, hb, hk⟩ := hc (by rintro rfl; simp at hi)
    obtain ⟨cs', ⟨s, rfl, h2, h3⟩, h4⟩ := hk i L hi
    exact h3
  · obtain ⟨b, o, e, hb, hk⟩ := hc hne
    refine ⟨b, o, e, hb, fun i x hx => ?_⟩
    obtain ⟨cs', ⟨s, rfl, h2, h3⟩, h4⟩ := hk i x hx
    have h5 := h4 0 s rfl
    rw [Nat.mul_one, Nat.add_zero] at h5
    exact ⟨s, h5, h2⟩
  · have h1 := (hz hl).1
    rw [bytesRs] at h1
    unfold reachBytes at h1
    exact ⟨by omega, (hz hl).2⟩
theorem rd_pst {n : Nat} {c : Value} {y : DataW H × List MemPlace} (h : DataW.trod enc Try.prog W 0 (fun _ => true) true n 40 [c] = some y) : ∃ T : List (List Pt), PsT W c T ∧ (Lite 40 y.1 → T.length ≤ 5864062014634 ∧ ∀ L ∈ T, L.length ≤ 3518437208780) := by
  obtain ⟨A, cap, T, e, hm, hc, hz⟩ := read_slice Try.underlying40 cellsPts (by decide) _ _ rd_ps h
  injection e with e
  subst e
  refine ⟨T, ⟨A, cap, rfl, hm, fun hne => ?_⟩, fun hl => ?_⟩
  · obtain ⟨b, o, e, hb, hk⟩ := hc hne
    refine ⟨b, o, e, hb, fun i x hx => ?_⟩
    obtain ⟨cs', ⟨s, rfl, h2⟩, h4⟩ := hk i x hx
    have h5 := h4 0 s rfl
    rw [Nat.mul_one, Nat.add_zero] at h5
    exact ⟨s, h5, h2⟩
  · have h1 := (hz hl).1
    rw [bytesPts] at h1
    unfold reachBytes at h1
    exact ⟨by omega, (hz hl).2⟩
theorem rd_ruq {n : Nat} {c : Value} {y : DataW H × List MemPlace} (h : DataW.trod enc Try.prog W 0 (fun _ => true) true n 47 [c] = some y) : ∃ B : List (List (List Rl)), RuQ W c B ∧ (Lite 47 y.1 → B.length ≤ 5864062014634 ∧ ∀ X ∈ B, X.length ≤ 5864062014634 ∧ ∀ L ∈ X, L.length ≤ 1466015503658) := by
  obtain ⟨A, cap, B, e, hm, hc, hz⟩ := read_slice Try.underlying47 cellsRss (by decide) _ _ rd_rut h
  injection e with e
  subst e
  refine ⟨B, ⟨A, cap, rfl, hm, fun hne => ?_⟩, fun hl => ?_⟩
  · obtain ⟨b, o, e, hb, hk⟩ := hc hne
    refine ⟨b, o, e, hb, fun i x hx => ?_⟩
    obtain ⟨cs', ⟨s, rfl, h2⟩, h4⟩ := hk i x hx
    have h5 := h4 0 s rfl
    rw [Nat.mul_one, Nat.add_zero] at h5
    exact ⟨s, h5, h2⟩
  · have h1 := (hz hl).1
    rw [bytesRss] at h1
    unfold reachBytes at h1
    exact ⟨by omega, (hz hl).2⟩
theorem rd_pe {n : Nat} {c : Value} {y : DataW H × List MemPlace} (h : DataW.trod enc Try.prog W 0 (fun _ => true) true n 43 [c] = some y) : ∃ P : List (Int × Int), Pe W c P ∧ (Lite 43 y.1 → P.length ≤ 8796093021952) := by
  obtain ⟨A, cap, P, e, hm, hc, hz⟩ := read_slice Try.underlying43 cellsPair (by decide) (fun cs x => cs = encA x) (fun _ => True) rd_pair h
  injection e with e
  subst e
  refine ⟨P, RdE.pe ⟨A, cap, rfl, fun hne => ?_⟩ hm, fun hl => ?_⟩
  · obtain ⟨b, o, e, hb, hk⟩ := hc hne
    refine ⟨b, o, e, hb, fun i x hx j u hu => ?_⟩
    obtain ⟨cs', rfl, h2⟩ := hk i x hx
    exact h2 j u hu
  · have := (hz hl).1
    rw [bytesPair] at this
    unfold reachBytes at this
    omega
theorem rd_wy {n : Nat} {c : Value} {y : DataW H × List MemPlace} (h : DataW.trod enc Try.prog W 0 (fun _ => true) true n 44 [c] = some y) : ∃ Q : List Wa, Wy W c Q ∧ (Lite 44 y.1 → Q.length ≤ 5864062014634) := by
  obtain ⟨A, cap, Q, e, hm, hc, hz⟩ := read_slice Try.underlying44 cellsWay (by decide) (fun cs (x : Wa) => cs = x.cs) (fun _ => True) rd_way h
  injection e with e
  subst e
  refine ⟨Q, RdE.wy ⟨A, cap, rfl, fun hne => ?_⟩ hm, fun hl => ?_⟩
  · obtain ⟨b, o, e, hb, hk⟩ := hc hne
    refine ⟨b, o, e, hb, fun i x hx j u hu => ?_⟩
    obtain ⟨cs', rfl, h2⟩ := hk i x hx
    exact h2 j u hu
  · have := (hz hl).1
    rw [bytesWay] at this
    unfold reachBytes at this
    omega
set_option maxRecDepth 100000 in
theorem rd_pol {n : Nat} {c0 c1 c2 : Value} {y : DataW H × List MemPlace} (h : DataW.trod enc Try.prog W 0 (fun _ => true) true n 46 [c0, c1, c2] = some y) : ∃ (ten : Int) (P : List (Int × Int)) (Q : List Wa), c0 = .int .i64 ten ∧ Pe W c1 P ∧ Wy W c2 Q ∧ (Lite 46 y.1 → P.length ≤ 8796093021952 ∧ Q.length ≤ 5864062014634) := by
  obtain ⟨xs, m, _, hx, _, hxs, hf⟩ := DataW.trod_struct Try.underlying46 h
  have hx3 : xs.length = 3 := hxs
  match xs, hx3 with
  | [x0, x1, x2], _ =>
    have q0 := hf 0 _ rfl
    have q1 := hf 1 _ rfl
    have q2 := hf 2 _ rfl
    simp [cellsI, cellsPairs, cellsWays] at q0 q1 q2
    obtain ⟨ten, rfl⟩ := int_of q0
    obtain ⟨P, hP, zP⟩ := rd_pe q1
    obtain ⟨Q, hQ, zQ⟩ := rd_wy q2
    refine ⟨ten, P, Q, rfl, hP, hQ, fun hl => ?_⟩
    have hd := congrArg Prod.fst hx
    rw [hd] at hl
    unfold Lite at hl
    simp [DataW.weights, DataW.weightsEach, Try.underlying46] at hl
    exact ⟨zP fun m hm => hl m (.inr (.inl hm)), zQ fun m hm => hl m (.inr (.inr hm))⟩
set_option maxRecDepth 100000 in
/-- A configuration by value. -/
theorem open_cfg {base : Nat} {v : Value} {d : DataW H} {p : List MemPlace} (hok : Value.okWide Try.prog W .any base 49 v) (h0 : DataW.Trod enc Try.prog W 0 (fun _ => true) true 49 v d p) :
    ∃ (tv : Value) (T : List (List Pt)) (ten : Int) (pv : Value) (P : List (Int × Int)) (wv : Value) (Q : List Wa) (bv : Value) (B : List (List (List Rl))), v = .agg #[tv, .int .i64 ten, pv, wv, bv] ∧ PsT W tv T ∧ Pe W pv P ∧ Wy W wv Q ∧ RuQ W bv B ∧ (Lite 49 d → Szd T P Q B) := by
  obtain ⟨cs, rfl, hsz⟩ := okWide_struct Try.underlying49 hok
  obtain ⟨fuel, hf0⟩ := h0
  have hf : DataW.trod enc Try.prog W 0 (fun _ => true) true fuel 49 cs.toList = some (d, p) := by simpa [Value.cells] using hf0
  have hc5 : cs.toList.length = 5 := by simpa using hsz.trans cellsCfg
  obtain ⟨l, hl⟩ : ∃ l, cs.toList = l := ⟨_, rfl⟩
  rw [hl] at hf hc5
  match l, hc5 with
  | [c0, c1, c2, c3, c4], _ =>
    obtain ⟨xs, m, _, hx, _, hxs, hff⟩ := DataW.trod_struct Try.underlying49 hf
    have hx3 : xs.length = 3 := hxs
    match xs, hx3 with
    | [x0, x1, x2], _ =>
      have q0 := hff 0 _ rfl
      have q1 := hff 1 _ rfl
      have q2 := hff 2 _ rfl
      simp [cellsTopo, cellsPol, cellsRsss] at q0 q1 q2
      obtain ⟨ys, m2, _, hy, _, hys, hfy⟩ := DataW.trod_struct Try.underlying42 q0
      have hy1 : ys.length = 1 := hys
      match ys, hy1 with
      | [y0], _ =>
        have r0 := hfy 0 _ rfl
        simp [cellsPtt] at r0
        obtain ⟨T, hT, zT⟩ := rd_pst r0
        obtain ⟨ten, P, Q, rfl, hP, hQ, zP⟩ := rd_pol q1
        obtain ⟨B, hB, zB⟩ := rd_ruq q2
        refine ⟨c0, T, ten, c2, P, c3, Q, c4, B, by congr 1; apply Array.toList_inj.1; rw [hl], hT, hP, hQ, hB, fun hz => ?_⟩
        have hd := congrArg Prod.fst hx
        simp only at hd
        have hd0 := congrArg Prod.fst hy
        rw [hd] at hz
        unfold Lite at hz
        simp [DataW.weights, DataW.weightsEach, Try.underlying49] at hz
        have z0 := zT fun m hm => hz m (.inl (by rw [hd0]; simp [DataW.weights, DataW.weightsEach, Try.underlying42]; exact hm))
        have z1 := zP fun m hm => hz m (.inr (.inl hm))
        have z2 := zB fun m hm => hz m (.inr (.inr hm))
        exact ⟨z0.1, z0.2, z1.1, z1.2, z2.1, fun X hX => (z2.2 X hX).1, fun X hX => (z2.2 X hX).2⟩
end
end Go.Proofs.Ytgoenjpllepdjaa

namespace Go.Proofs.Hd
open Go.RowKit
theorem firT_zero : ∀ {BB : List (List (List Rl))} {T : List (List Pt)}, firT BB T = 0 → ∀ {n : Nat} {B : List (List Rl)} {L : List Pt}, BB[n]? = some B → T[n]? = some L → sT B (L.map Pt.kind) = 0
  | [], _, _, n, B, L, hB, _ => by simp at hB
  | _ :: _, [], _, n, B, L, _, hL => by simp at hL
  | B' :: BB, L' :: T, h, n, B, L, hB, hL => by
    unfold firT at h
    by_cases e : sT B' (L'.map Pt.kind) = 0
    · rw [if_pos e] at h
      cases n with
      | zero =>
        simp only [List.getElem?_cons_zero, Option.some.injEq] at hB hL
        rw [← hB, ← hL]
        exact e
      | succ n =>
        rw [List.getElem?_cons_succ] at hB hL
        exact firT_zero h hB hL
    · rw [if_neg e] at h
      exact absurd h e
theorem cfg_parts {T : List (List Pt)} {ten : Int} {P : List (Int × Int)} {Q : List Wa} {BB : List (List (List Rl))} (h : cfgT T ten P Q BB = 0) : sTp T = 0 ∧ polT T ten P Q = 0 ∧ BB.length = T.length ∧ firT BB T = 0 := by
  unfold cfgT at h
  by_cases h1 : sTp T = 0
  · rw [if_pos h1] at h
    by_cases h2 : polT T ten P Q = 0
    · rw [if_pos h2] at h
      by_cases h3 : BB.length = T.length
      · rw [if_pos h3] at h
        exact ⟨h1, h2, h3, h⟩
      · rw [if_neg h3] at h
        cases h
    · rw [if_neg h2] at h
      exact absurd h h2
  · rw [if_neg h1] at h
    exact absurd h h1
theorem sT_zero {B : List (List Rl)} {K : List Int} (h : sT B K = 0) : 1 ≤ B.length ∧ B.length ≤ 3 ∧ okT B K B.length = true := by
  unfold sT at h
  split at h
  · cases h
  · split at h
    · cases h
    · split at h
      · rename_i h1 _ h2
        exact ⟨by omega, by omega, h2⟩
      · cases h
theorem okT_at {B : List (List Rl)} {K : List Int} (h : okT B K B.length = true) {t i : Nat} {R : List Rl} {r : Rl} (hR : B[t]? = some R) (hr : R[i]? = some r) : okR B.length K t r = true := by
  cases hc : okR B.length K t r with
  | true => rfl
  | false => rw [okT_no hR hr hc] at h; cases h
/-- Table t of switch n is there; L its ports, R its rules. -/
def StA (T : List (List Pt)) (BB : List (List (List Rl))) (n t : Nat) (L : List Pt) (R : List Rl) : Prop := T[n]? = some L ∧ ∃ B, BB[n]? = some B ∧ B[t]? = some R
/-- Where a rule may lead in a sound configuration. -/
theorem rule_leads {T : List (List Pt)} {ten : Int} {P : List (Int × Int)} {Q : List Wa} {BB : List (List (List Rl))} (h : cfgT T ten P Q BB = 0) {n t i : Nat} {L : List Pt} {R : List Rl} {r : Rl} (hs : StA T BB n t L R) (hr : R[i]? = some r) :
    r.m.snd = true ∧ r.s.snd = true ∧ (r.kind = 1 ∨ r.kind = 2 ∨ (r.kind = 3 ∧ ∃ (j m : Nat) (p : Pt) (L' : List Pt) (R' : List Rl), r.port = (j : Int) ∧ L[j]? = some p ∧ p.kind = 2 ∧ p.peer = (m : Int) ∧ StA T BB m 0 L' R') ∨ (r.kind = 4 ∧ ∃ (u : Nat) (R' : List Rl), r.tab = (u : Int) ∧ StA T BB n u L R')) := by
  obtain ⟨h1, -, h3, h4⟩ := cfg_parts h
  obtain ⟨hL, B, hB, hR⟩ := hs
  obtain ⟨-, -, hok⟩ := sT_zero (firT_zero h4 hB hL)
  have hx := okT_at hok hR hr
  unfold okR at hx
  rw [Bool.and_eq_true, decide_eq_true_eq] at hx
  obtain ⟨hx, htab⟩ := hx
  unfold sndR at hx
  simp only [Bool.and_eq_true, decide_eq_true_eq] at hx
  obtain ⟨⟨⟨-, hm⟩, hset⟩, hl⟩ := hx
  refine ⟨hm, hset, ?_⟩
  unfold leads at hl
  split at hl
  · exact .inl (by assumption)
  · split at hl
    · exact .inr (.inl (by assumption))
    · split at hl
      · rename_i hk
        refine .inr (.inr (.inl ⟨hk, ?_⟩))
        rw [Bool.and_eq_true] at hl
        have hp := hl.1
        unfold isP at hp
        simp only [Bool.and_eq_true, decide_eq_true_eq, beq_iff_eq] at hp
        obtain ⟨h0, hp⟩ := hp
        rw [List.getElem?_map] at hp
        cases hq : L[r.port.toNat]? with
        | none => rw [hq] at hp; cases hp
        | some p =>
          rw [hq] at hp
          injection hp with hp
          have ho := (sTp_zero h1).2 n r.port.toNat L p (List.getElem?_eq_some_iff.1 hL).1 hL hq
          unfold okP at ho
          rw [if_neg (by omega), if_pos hp] at ho
          simp only [Bool.and_eq_true, decide_eq_true_eq] at ho
          have ha := ho.2
          unfold ansP at ha
          cases hq2 : ptAt T p.peer p.spot with
          | none => rw [hq2] at ha; cases ha
          | some q =>
            obtain ⟨m, i', L', e1, -, hL', -⟩ := ptAt_some hq2
            have hm' := (List.getElem?_eq_some_iff.1 hL').1
            have hB' : BB[m]? = some BB[m] := List.getElem?_eq_getElem (by omega)
            obtain ⟨hb1, -, -⟩ := sT_zero (firT_zero h4 hB' hL')
            exact ⟨r.port.toNat, m, p, L', BB[m][0], by omega, hq, hp, e1, hL', BB[m], hB', List.getElem?_eq_getElem (by omega)⟩
      · split at hl
        · rename_i hk
          refine .inr (.inr (.inr ⟨hk, ?_⟩))
          simp only [Bool.and_eq_true, decide_eq_true_eq] at hl
          have hlt : r.tab.toNat < B.length := by omega
          exact ⟨r.tab.toNat, B[r.tab.toNat], by omega, hL, B, hB, List.getElem?_eq_getElem hlt⟩
        · cases hl
/-- A hop as cells. -/
structure Hp where
  sw : Int
  tb : Int
  rl : Int
  hh : BitVec 64
  hl : BitVec 64
def Hp.cs (x : Hp) : List Value := [.int .i64 x.sw, .int .i64 x.tb, .int .i64 x.rl, .int .u64 (uv x.hh), .int .u64 (uv x.hl)]
/-- A run. -/
structure Rn where
  fin : Int
  sw : Int
  sp : Int
  hops : List Hp
/-- The header behind a rule's Set. -/
def stH (r : Rl) (hh : BitVec 64) : BitVec 64 := (hh &&& ~~~r.s.ch) ||| (r.s.vh &&& r.s.ch)
def stL (r : Rl) (hl : BitVec 64) : BitVec 64 := (hl &&& ~~~r.s.cl) ||| (r.s.vl &&& r.s.cl)
/-- Table t of switch n, empty where there is none. -/
def tabL (BB : List (List (List Rl))) (n t : Nat) : List Rl := ((BB[n]?).bind fun B => B[t]?).getD []
/-- The other end's switch of a port, 0 where there is none. -/
def peerN (T : List (List Pt)) (n : Nat) (i : Int) : Nat := (((T[n]?).bind fun L => L[i.toNat]?).map fun p => p.peer.toNat).getD 0
/-- What becomes of a packet at table t of switch n, of at most k hops more; f finds a header's rule (to be had: fndI of TbF). -/
def runF (f : List Rl → BitVec 64 → BitVec 64 → Option Nat) (T : List (List Pt)) (BB : List (List (List Rl))) : Nat → Nat → Nat → BitVec 64 → BitVec 64 → List Hp → Rn
  | 0, _, _, _, _, H => ⟨4, 0, 0, H⟩
  | k + 1, n, t, hh, hl, H => match f (tabL BB n t) hh hl with
    | none => ⟨3, 0, 0, H ++ [⟨n, t, -1, hh, hl⟩]⟩
    | some i => match (tabL BB n t)[i]? with
      | none => ⟨3, 0, 0, H ++ [⟨n, t, -1, hh, hl⟩]⟩
      | some r =>
        if r.kind = 1 then ⟨1, 0, 0, H ++ [⟨n, t, i, hh, hl⟩]⟩
        else if r.kind = 2 then ⟨2, n, r.port, H ++ [⟨n, t, i, hh, hl⟩]⟩
        else if r.kind = 4 then runF f T BB k n r.tab.toNat (stH r hh) (stL r hl) (H ++ [⟨n, t, i, hh, hl⟩])
        else runF f T BB k (peerN T n r.port) 0 (stH r hh) (stL r hl) (H ++ [⟨n, t, i, hh, hl⟩])
theorem StA.tab {T : List (List Pt)} {BB : List (List (List Rl))} {n t : Nat} {L : List Pt} {R : List Rl} (h : StA T BB n t L R) : tabL BB n t = R := by
  obtain ⟨-, B, hB, hR⟩ := h
  unfold tabL
  rw [hB, Option.bind_some, hR, Option.getD_some]
theorem peer_at {T : List (List Pt)} {n j m : Nat} {L : List Pt} {p : Pt} (hL : T[n]? = some L) (hp : L[j]? = some p) (hm : p.peer = (m : Int)) : peerN T n (j : Int) = m := by
  unfold peerN
  rw [hL, Option.bind_some, Int.toNat_natCast, hp, Option.map_some, Option.getD_some, hm, Int.toNat_natCast]
/-- One hop. -/
theorem runF_miss {f : List Rl → BitVec 64 → BitVec 64 → Option Nat} {T : List (List Pt)} {BB : List (List (List Rl))} {k n t : Nat} {hh hl : BitVec 64} {H : List Hp} {L : List Pt} {R : List Rl} (h : StA T BB n t L R) (hf : f R hh hl = none) : runF f T BB (k + 1) n t hh hl H = ⟨3, 0, 0, H ++ [⟨n, t, -1, hh, hl⟩]⟩ := by
  unfold runF
  rw [h.tab, hf]
theorem runF_hit {f : List Rl → BitVec 64 → BitVec 64 → Option Nat} {T : List (List Pt)} {BB : List (List (List Rl))} {k n t i : Nat} {hh hl : BitVec 64} {H : List Hp} {L : List Pt} {R : List Rl} {r : Rl} (h : StA T BB n t L R) (hf : f R hh hl = some i) (hr : R[i]? = some r) :
    runF f T BB (k + 1) n t hh hl H = if r.kind = 1 then ⟨1, 0, 0, H ++ [⟨n, t, i, hh, hl⟩]⟩
        else if r.kind = 2 then ⟨2, n, r.port, H ++ [⟨n, t, i, hh, hl⟩]⟩
        else if r.kind = 4 then runF f T BB k n r.tab.toNat (stH r hh) (stL r hl) (H ++ [⟨n, t, i, hh, hl⟩])
        else runF f T BB k (peerN T n r.port) 0 (stH r hh) (stL r hl) (H ++ [⟨n, t, i, hh, hl⟩]) := by
  rw [runF, h.tab, hf]
  simp only [hr]
/-- A run has no more hops than it may. -/
theorem runF_len (f : List Rl → BitVec 64 → BitVec 64 → Option Nat) (T : List (List Pt)) (BB : List (List (List Rl))) : ∀ (k n t : Nat) (hh hl : BitVec 64) (H : List Hp), (runF f T BB k n t hh hl H).hops.length ≤ H.length + k
  | 0, _, _, _, _, H => by simp [runF]
  | k + 1, n, t, hh, hl, H => by
    have ih := runF_len f T BB k
    rw [runF]
    split
    · simp
    · split
      · simp
      · split
        · simp
        · split
          · simp
          · split
            · refine Nat.le_trans (ih ..) ?_
              simp
              omega
            · refine Nat.le_trans (ih ..) ?_
              simp
              omega
end Go.Proofs.Hd

namespace Go.Proofs.Hd
open Go.RowKit
end Go.Proofs.Hd
