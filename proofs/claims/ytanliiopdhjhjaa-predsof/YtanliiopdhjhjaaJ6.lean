/-
  Contracts of the reference's port and Sound of layer 7. Conditions as each theorem lists them.
  Configurations in memory; contract of the reference's Sound of layer 8. Conditions as the theorem lists them.
  Contracts of package config: within; copied, at the types of a configuration: a list of the call's own memory with the same cells. Conditions as each theorem lists them.
  Lists of lists in memory of a call's own: how they are read, what stays behind a store elsewhere, and what a loop that writes to them holds. Conditions as each theorem lists them.
  Contracts of config.copiedLists. Conditions as each theorem lists them.
  Plain facts on blocks that a statement makes in whatever order and fills afterwards. No conditions.
  Contract of package config: Clone. Conditions as the theorem lists them.
  What stays behind an append to a row of another type; a configuration that is copied piece by piece. Conditions as each theorem lists them.
  How a configuration, a policy, a pair handed in by value read; no list in a configuration is longer than memory reaches, where what came in is not. No conditions.
  Plain mathematics for a list of predicates: elements added once each, a list closed under a partial function (every element, those added too, by each element of S), and the stable order by a number, told by rows. Over any type with equality. No program in sight.
  Contract of math/bits.LeadingZeros64, out of the library's own contract, which is proved over any program: the function's bodies are compared by the kernel. No conditions.
  Contract of cube.highest: the header with the highest bit alone. No conditions.
  What memory holds at the head of the loop of cube.Less, and how it is carried on: plain facts on worlds. No conditions.
  Contract of cube.Less: the difference of two cubes as a list. Conditions as each theorem lists them.
  Contracts of cube.Field: the field's cube, or an error. Conditions as each theorem lists them.
  The function awake of the laws of layer 2 returns true. No conditions.
  The law CubeParts returns true for all cubes and headers, and changes nothing that was there. No conditions.
  Contract: Has of the reference of layer 2 tells whether a header is in the cube of a text. Conditions: the text is that of a sound cube.
  The law CubeHas returns true for all cubes and headers, and changes nothing that was there. No conditions.
  Plain facts on rows of bytes in memory and on the signs of two cubes' intersection. No program in sight. No conditions.
  Contracts: Meet and Within of the reference of layer 2, on the texts of two sound cubes. Conditions: both texts are those of sound cubes.
  Plain facts on the bits of a field. No conditions.
  Plain facts on whole arrays that are written place by place. No conditions.
-/
import Derived.Test.YtanliiopdhjhjaaJ5
import Derived.Lib.SliceRun
import Derived.Laws.MakeOwn
import Derived.Deep.MidRow
import Derived.Deep.RegionHeld3
import Derived.Deep.DeepCutAuto
import Derived.SizedLaws
import Derived.OpenShut
import Derived.Sort.LotA
import Derived.Shelf.Small.Bits
import Derived.Shelf.Strconv.Itoa0
import Derived.Test.YtanliiopdhjhjaaProg
import Derived.Lib.Hide
import Derived.Deep.AppendLies
import Derived.Laws.OwnMore
import Derived.OneCell
import Derived.Deep.Onto
import Derived.Deep.LoopGhost
import Derived.Deep.Light
import Derived.OwnWalk
import Derived.Deep.QuietTactic
import Derived.BigQuiet
import Derived.Deep.RegionHeld
namespace Go.Proofs
open Go.RowKit Go.Proofs.Hd Go.Lib
theorem rport_c (x : Bool) (tv : Value) (T : List (List Pt)) (n i : Nat) (L : List Pt) (p : Pt) (w : World) (hT : PsT w tv T) (hL : T[n]? = some L) (hp : L[i]? = some p) (hx : okP T n i p = x) : Calls Try.prog 63 #[.agg #[tv], .int .i64 n, .int .i64 i] w fun e w' => e = .returned (.bool x) ∧ Below w.heap.size w w' := by
  obtain ⟨kd, tn, pr, sp, co⟩ := p
  unfold okP at hx
  dsimp only at hx
  by_cases k0 : kd = 0
  · subst k0
    rw [if_neg (by decide), if_neg (by decide)] at hx
    by_cases h1 : tn = 0
    · subst h1
      by_cases h2 : pr = 0
      · subst h2
        by_cases h3 : sp = 0
        · subst h3
          by_cases h4 : co = 0
          · subst h4
            obtain rfl : x = true := by rw [← hx]; exact eqP_self _
            exact rp0e tv T n i L w hT hL hp
          · obtain rfl : x = false := by rw [← hx]; simp [eqP, h4]
            exact rp0d tv T n i L w hT hL hp h4
        · obtain rfl : x = false := by rw [← hx]; simp [eqP, h3]
          exact rp0c tv T n i L w hT hL hp h3
      · obtain rfl : x = false := by rw [← hx]; simp [eqP, h2]
        exact rp0b tv T n i L w hT hL hp h2
    · obtain rfl : x = false := by rw [← hx]; simp [eqP, h1]
      exact rp0a tv T n i L w hT hL hp h1
  by_cases k1 : kd = 1
  · subst k1
    rw [if_pos rfl] at hx
    by_cases h1 : 0 ≤ tn
    · by_cases h2 : tn ≤ 3
      · have hb : inB tn 4 = true := by simp [inB]; omega
        rw [hb, Bool.true_and] at hx
        by_cases h3 : pr = 0
        · subst h3
          by_cases h4 : sp = 0
          · subst h4
            by_cases h5 : co = 0
            · subst h5
              obtain rfl : x = true := by rw [← hx]; exact eqP_self _
              exact rp1f tv T n i L w hT hL hp h1 h2
            · obtain rfl : x = false := by rw [← hx]; simp [eqP, h5]
              exact rp1e tv T n i L w hT hL hp h1 h2 h5
          · obtain rfl : x = false := by rw [← hx]; simp [eqP, h4]
            exact rp1d tv T n i L w hT hL hp h1 h2 h4
        · obtain rfl : x = false := by rw [← hx]; simp [eqP, h3]
          exact rp1c tv T n i L w hT hL hp h1 h2 h3
      · obtain rfl : x = false := by
          have hb : inB tn 4 = false := by simp [inB]; omega
          rw [← hx, hb]; rfl
        exact rp1b tv T n i L w hT hL hp h1 h2
    · obtain rfl : x = false := by
        have hb : inB tn 4 = false := by simp [inB]; omega
        rw [← hx, hb]; rfl
      exact rp1a tv T n i L w hT hL hp h1
  rw [if_neg k1] at hx
  by_cases k2 : kd = 2
  · subst k2
    rw [if_pos rfl] at hx
    by_cases h1 : tn = 0
    · subst h1
      by_cases h3 : co < 1
      · obtain rfl : x = false := by rw [← hx, decide_eq_false (by omega : ¬ 1 ≤ co)]; simp
        exact rp2c tv T n i L w hT hL hp h3
      by_cases h4 : 1000 < co
      · obtain rfl : x = false := by rw [← hx, decide_eq_false (by omega : ¬ co ≤ 1000)]; simp
        exact rp2d tv T n i L w hT hL hp h3 h4
      rw [decide_eq_true (by omega : 1 ≤ co), decide_eq_true (by omega : co ≤ 1000)] at hx
      simp only [decide_true, Bool.true_and] at hx
      by_cases h5 : pr < 0
      · obtain rfl : x = false := by
          have hn : ptAt T pr sp = none := ptAt_far1 (by simp [inB]; omega)
          rw [← hx]; simp [ansP, hn]
        exact rp2e tv T n i L w hT hL hp h3 h4 h5
      by_cases h6 : (T.length : Int) ≤ pr
      · obtain rfl : x = false := by
          have hn : ptAt T pr sp = none := ptAt_far1 (by simp [inB]; omega)
          rw [← hx]; simp [ansP, hn]
        exact rp2f tv T n i L w hT hL hp h3 h4 h5 h6
      obtain ⟨m, rfl⟩ : ∃ m : Nat, pr = (m : Int) := ⟨pr.toNat, by omega⟩
      by_cases h7 : m = n
      · subst h7
        obtain rfl : x = false := by
          rw [← hx]
          unfold ansP
          cases ptAt T (m : Int) sp <;> simp
        exact rp2g tv T m i L w hT hL hp h3 h4
      have hm : m < T.length := by omega
      have hL' : T[m]? = some T[m] := List.getElem?_eq_getElem hm
      generalize T[m] = L' at hL'
      by_cases h8 : sp < 0
      · obtain rfl : x = false := by
          have hn : ptAt T (m : Int) sp = none := ptAt_far2 hL' (by simp [inB]; omega)
          rw [← hx]; simp [ansP, hn]
        exact rp2h tv T n i L w hT hL hp h3 h4 hm h7 h8
      by_cases h9 : (L'.length : Int) ≤ sp
      · obtain rfl : x = false := by
          have hn : ptAt T (m : Int) sp = none := ptAt_far2 hL' (by simp [inB]; omega)
          rw [← hx]; simp [ansP, hn]
        exact rp2i tv T n i L w hT hL hp h3 h4 L' hL' hm h7 h8 h9
      obtain ⟨j, rfl⟩ : ∃ j : Nat, sp = (j : Int) := ⟨sp.toNat, by omega⟩
      have hj : j < L'.length := by omega
      have hq : L'[j]? = some L'[j] := List.getElem?_eq_getElem hj
      generalize L'[j] = q at hq
      obtain ⟨qk, qt, qp, qs, qc⟩ := q
      have hx2 : eqP ⟨qk, qt, qp, qs, qc⟩ ⟨2, 0, (n : Int), (i : Int), co⟩ = x := by
        rw [← hx]
        unfold ansP
        simp only [ptAt_nat hL' hq]
        have : ((m : Int) == (n : Int)) = false := beq_false_of_ne (by omega)
        rw [this]; rfl
      exact rp3 tv T n i L w hT hL hp h3 h4 L' hL' hm h7 qk qt qp qs qc hq x hx2
    · obtain rfl : x = false := by rw [← hx]; simp [h1]
      exact rp2b tv T n i L w hT hL hp h1
  · obtain rfl : x = false := by rw [← hx, if_neg k2]; simp [eqP, k0]
    exact rp2a tv T n i L w hT hL hp k0 k1 k2
set_option maxRecDepth 100000 in
set_option maxHeartbeats 2000000 in
theorem rtsound_c (tv : Value) (T : List (List Pt)) (w : World) (hT : PsT w tv T) : Calls Try.prog 44 #[.agg #[tv]] w fun e w' => e = .returned (.int .i64 (sTp T)) ∧ Below w.heap.size w w' := by
  have HT := Lib.hid hT
  obtain ⟨A, cap, rfl, htm, hA⟩ := hT
  have HB := Lib.hid (below1 w (.cells #[.slice A T.length cap] 24))
  have NB : Hid (Blk (w.alloc (.cells #[.slice A T.length cap] 24)) w.heap.size 24 #[.slice A T.length cap]) := Blk.new w _ _
  have htz : (T.length : Int) ≤ 9223372036854775807 := by unfold maxLen at htm; omega
  by_cases h1 : 1 ≤ T.length
  · by_cases h6 : T.length ≤ 6
    · have hz1 : ¬ (T.length : Int) < 1 := by omega
      have hz6 : ¬ (6 : Int) < (T.length : Int) := by omega
      obtain ⟨b, o, rfl, hb0, hc⟩ := hA (by rintro rfl; simp at h1)
      have HC := Lib.hid hc
      clear hc hA
      go_enter Try.func44, Try.ntmps44
      go_wp2
      go_loopg [3] T.length (fun gk s3 wr => ∃ (k : Nat), k ≤ T.length ∧ gk = T.length - k ∧ s3 = .int .i64 k ∧ Hid (∀ j L, j < k → T[j]? = some L → L.length ≤ 6) ∧ Hid (Blk wr w.heap.size 24 #[.slice (some ⟨b, o, none⟩) T.length cap]) ∧ Hid (Below w.heap.size w wr))
      case atStart => exact ⟨0, Nat.zero_le _, rfl, rfl, fun j L hj => absurd hj (Nat.not_lt_zero _), NB, HB⟩
      case round =>
        clear HB NB
        obtain ⟨k, hk, rfl, rfl, HN, NB, HW⟩ := hrel
        have cb := NB.out.one
        by_cases hlt : k < T.length
        · have hltz : (k : Int) < (T.length : Int) := by omega
          obtain ⟨L, hTL⟩ : ∃ L, T[k]? = some L := ⟨_, List.getElem?_eq_getElem hlt⟩
          obtain ⟨s, hcell0, A1, c1, rfl, _⟩ := HC.out k L hTL
          have hcell := on_some HW.out hcell0
          have HTL := Lib.hid hTL
          clear hTL hcell0
          by_cases hl6 : L.length ≤ 6
          · have hl6z : ¬ (6 : Int) < (L.length : Int) := by omega
            have HN2 : Hid (∀ j L, j < k + 1 → T[j]? = some L → L.length ≤ 6) := fun j L' hj hL' => by
              by_cases e : j = k
              · subst e
                rw [HTL.out] at hL'
                injection hL' with hL'
                subst hL'
                exact hl6
              · exact HN.out j L' (by omega) hL'
            clear HN
            go_wp2
            go_roundg (T.length - (k + 1))
            case measure => omega
            case rel => exact ⟨k + 1, by omega, rfl, by go_num, HN2, NB, HW⟩
          · have hl6z : (6 : Int) < (L.length : Int) := by omega
            have HE : Hid (sTp T = 4) := sTp_range (by
              cases hs : szT T with
              | false => rfl
              | true => exact absurd ((szT_iff.1 hs).2.2 L (List.mem_of_getElem? HTL.out)) hl6)
            clear HN
            go_wp2
            go_ret
            exact ⟨by rw [HE.out]; rfl, HW.out⟩
        · have hltz : ¬ (k : Int) < (T.length : Int) := by omega
          have hs : Hid (szT T = true) := szT_iff.2 ⟨h1, h6, fun L hL => by
            obtain ⟨j, hj⟩ := List.getElem?_of_mem hL
            have := (List.getElem?_eq_some_iff.1 hj).1
            exact HN.out j L (by omega) hj⟩
          clear HN
          go_wp2
          clear cb
          go_loopg [4, 5] T.length (fun gn s4 _ wn => ∃ (n : Nat), n ≤ T.length ∧ gn = T.length - n ∧ s4 = .int .i64 n ∧ Hid (okTo T n) ∧ Hid (Blk wn w.heap.size 24 #[.slice (some ⟨b, o, none⟩) T.length cap]) ∧ Hid (Below w.heap.size w wn))
          case atStart => exact ⟨0, Nat.zero_le _, rfl, rfl, fun n i L p hn => absurd hn (Nat.not_lt_zero _), NB, HW⟩
          case round =>
            clear HW NB
            obtain ⟨n, hn, rfl, rfl, HO, NB, HB⟩ := hrel
            have cb := NB.out.one
            by_cases hnt : n < T.length
            · have hntz : (n : Int) < (T.length : Int) := by omega
              obtain ⟨L, hTL⟩ : ∃ L, T[n]? = some L := ⟨_, List.getElem?_eq_getElem hnt⟩
              obtain ⟨s, hcell0, A1, c1, rfl, hLm, hA1⟩ := HC.out n L hTL
              have HCE := Lib.hid hcell0
              have HTL := Lib.hid hTL
              have hLz : (L.length : Int) ≤ 6 := by have := (szT_iff.1 hs.out).2.2 L (List.mem_of_getElem? hTL); omega
              clear hTL hcell0 hA1
              go_wp2
              clear cb
              go_loopg [5] L.length (fun gi s5 wi => ∃ (i : Nat), i ≤ L.length ∧ gi = L.length - i ∧ s5 = .int .i64 i ∧ Hid (okUp T n L i) ∧ Hid (Blk wi w.heap.size 24 #[.slice (some ⟨b, o, none⟩) T.length cap]) ∧ Hid (Below w.heap.size w wi))
              case atStart => exact ⟨0, Nat.zero_le _, rfl, rfl, fun i p hi => absurd hi (Nat.not_lt_zero _), NB, HB⟩
              case round =>
                clear HB NB
                obtain ⟨i, hi, rfl, rfl, HI, NB, HB⟩ := hrel
                have cb := NB.out.one
                have hcell := on_some HB.out HCE.out
                by_cases hit : i < L.length
                · have hitz : (i : Int) < (L.length : Int) := by omega
                  obtain ⟨p, hp⟩ : ∃ p, L[i]? = some p := ⟨_, List.getElem?_eq_getElem hit⟩
                  cases hx : okP T n i p with
                  | false =>
                    have HE := Lib.hid (sTp_form hs.out HTL.out hp hx)
                    go_wp2_with fail
                    (with_reducible refine (rport_c false _ T n i L p _ (HT.out.on HB.out) HTL.out hp hx).mono ?_)
                    rintro e w2 ⟨rfl, hb2⟩
                    have B2 := Lib.hid (HB.out.trans (hb2.mono HB.out.size))
                    clear HB hb2 NB cb hcell
                    go_wp2
                    go_ret
                    exact ⟨by rw [HE.out]; rfl, B2.out⟩
                  | true =>
                    have HI2 := Lib.hid (okUp_succ HI.out hp hx)
                    go_wp2_with fail
                    (with_reducible refine (rport_c true _ T n i L p _ (HT.out.on HB.out) HTL.out hp hx).mono ?_)
                    rintro e w2 ⟨rfl, hb2⟩
                    have HB2 := Lib.hid (HB.out.trans (hb2.mono HB.out.size))
                    have NB2 := Lib.hid (NB.out.on hb2)
                    clear HB hb2 NB cb hcell
                    go_wp2
                    go_roundg (L.length - (i + 1))
                    case measure => omega
                    case rel => exact ⟨i + 1, by omega, rfl, by go_num, HI2, NB2, HB2⟩
                · have hitz : ¬ (i : Int) < (L.length : Int) := by omega
                  obtain rfl : i = L.length := by omega
                  have HO2 := Lib.hid (okTo_succ HO.out HTL.out HI.out)
                  go_wp2
                  go_roundg (T.length - (n + 1))
                  case measure => omega
                  case rel => exact ⟨n + 1, by omega, rfl, by go_num, HO2, NB, HB⟩
            · have hntz : ¬ (n : Int) < (T.length : Int) := by omega
              obtain rfl : n = T.length := by omega
              have HE := Lib.hid (sTp_ok hs.out HO.out)
              clear HC HO
              go_wp2
              go_ret
              exact ⟨by rw [HE.out]; rfl, HB.out⟩
    · have hz1 : ¬ (T.length : Int) < 1 := by omega
      have hz6 : (6 : Int) < (T.length : Int) := by omega
      have HE : Hid (sTp T = 4) := sTp_range (by simp [szT, h6])
      clear hA
      go_enter Try.func44, Try.ntmps44
      go_wp2
      go_ret
      exact ⟨by rw [HE.out]; rfl, HB.out⟩
  · have HE : Hid (sTp T = 4) := sTp_range (by simp [szT, h1])
    have h0 : T.length = 0 := by omega
    have hz1 : (T.length : Int) < 1 := by omega
    clear hA
    go_enter Try.func44, Try.ntmps44
    rw [h0] at HB ⊢
    go_wp2
    go_ret
    exact ⟨by rw [HE.out]; rfl, HB.out⟩
end Go.Proofs

namespace Go.Proofs.Hd
open Go.RowKit
/-- v is a slice that reads as the tables of all switches. -/
def RuQ (w : World) (v : Value) (B : List (List (List Rl))) : Prop := ∃ A cap, v = .slice A B.length cap ∧ B.length ≤ maxLen ∧ (B ≠ [] → ∃ b o, A = some ⟨b, o, none⟩ ∧ b < w.heap.size ∧ ∀ (k : Nat) (T : List (List Rl)), B[k]? = some T → ∃ s, w.cell? ⟨b, o + k, none⟩ = some s ∧ RuT w s T)
theorem RuQ.on {w w' : World} {v : Value} {B : List (List (List Rl))} (h : RuQ w v B) (hb : Below w.heap.size w w') : RuQ w' v B := by
  obtain ⟨A, cap, e, h1, h⟩ := h
  refine ⟨A, cap, e, h1, fun hne => ?_⟩
  obtain ⟨b, o, e2, hl, hc⟩ := h hne
  refine ⟨b, o, e2, Nat.lt_of_lt_of_le hl hb.size, fun k T hk => ?_⟩
  obtain ⟨s, h3, h4⟩ := hc k T hk
  exact ⟨s, on_some hb h3, h4.on hb⟩
theorem Ps.po {w : World} {v : Value} {L : List Pt} (h : Ps w v L) : Po w v (L.map Pt.kind) := by
  obtain ⟨A, cap, rfl, hl, h⟩ := h
  cases L with
  | nil => exact .inl ⟨rfl, A, cap, rfl⟩
  | cons p L =>
    obtain ⟨b, o, rfl, hlt, hc⟩ := h (by simp)
    refine .inr ⟨b, o, cap, by simp, by simpa using hl, hlt, fun k x hk => ?_⟩
    rw [List.getElem?_map] at hk
    cases hq : (p :: L)[k]? with
    | none => rw [hq] at hk; cases hk
    | some q =>
      rw [hq] at hk
      injection hk with hk
      rw [← hk]
      exact (hc k q hq).1
/-- The first error of a switch's tables. -/
def firT : List (List (List Rl)) → List (List Pt) → Int
  | B :: BB, L :: T => if sT B (L.map Pt.kind) = 0 then firT BB T else sT B (L.map Pt.kind)
  | _, _ => 0
theorem firT_at {BB : List (List (List Rl))} {T : List (List Pt)} {k : Nat} {B : List (List Rl)} {L : List Pt} (hB : BB[k]? = some B) (hL : T[k]? = some L) : firT (BB.drop k) (T.drop k) = if sT B (L.map Pt.kind) = 0 then firT (BB.drop (k + 1)) (T.drop (k + 1)) else sT B (L.map Pt.kind) := by
  obtain ⟨h1, e1⟩ := List.getElem?_eq_some_iff.1 hB
  obtain ⟨h2, e2⟩ := List.getElem?_eq_some_iff.1 hL
  rw [List.drop_eq_getElem_cons h1, List.drop_eq_getElem_cons h2, e1, e2, firT]
theorem firT_end {BB : List (List (List Rl))} (T : List (List Pt)) {k : Nat} (h : BB.length ≤ k) : firT (BB.drop k) (T.drop k) = 0 := by
  rw [List.drop_eq_nil_of_le h]
  cases T.drop k <;> rfl
/-- What Sound says of a configuration. -/
noncomputable def cfgT (T : List (List Pt)) (ten : Int) (P : List (Int × Int)) (Q : List Wa) (BB : List (List (List Rl))) : Int :=
  if sTp T = 0 then (if polT T ten P Q = 0 then (if BB.length = T.length then firT BB T else 4) else polT T ten P Q) else sTp T
/-- A sound topology has few ports. -/
theorem sum_le6 : ∀ T : List (List Pt), (∀ L ∈ T, L.length ≤ 6) → ports T ≤ T.length * 6
  | [], _ => Nat.zero_le _
  | L :: T, h => by
    have h1 := sum_le6 T fun L hL => h L (List.mem_cons_of_mem _ hL)
    have h2 := h L (List.mem_cons_self ..)
    have h3 : ports (L :: T) = L.length + ports T := by simp [ports]
    rw [h3, List.length_cons]
    omega
theorem ports_sound {T : List (List Pt)} (h : sTp T = 0) : ports T ≤ 2000000 := by
  obtain ⟨_, h6, hl⟩ := szT_iff.1 (sTp_zero h).1
  have := sum_le6 T hl
  omega
end Go.Proofs.Hd
namespace Go.Proofs
open Go.RowKit Go.Proofs.Hd Go.Lib
set_option maxRecDepth 100000 in
set_option maxHeartbeats 4000000 in
theorem rcsound_c (tv pv wv bv : Value) (T : List (List Pt)) (ten : Int) (P : List (Int × Int)) (Q : List Wa) (BB : List (List (List Rl))) (w : World) (hT : PsT w tv T) (hP : Pe w pv P) (hQ : Wy w wv Q) (hB : RuQ w bv BB) : Calls Try.prog 25 #[.agg #[tv, .int .i64 ten, pv, wv, bv]] w fun e w' => e = .returned (.int .i64 (cfgT T ten P Q BB)) ∧ Below w.heap.size w w' := by
  have HT := Lib.hid hT
  have HP := Lib.hid hP
  have HQ := Lib.hid hQ
  obtain ⟨A, cap, rfl, htm, hA⟩ := hT
  obtain ⟨pA, pc, rfl, -, -⟩ := hP
  obtain ⟨wA, wc, rfl, -, -⟩ := hQ
  obtain ⟨bA, bc, rfl, hbm, hBA⟩ := hB
  have hbz : (BB.length : Int) ≤ 9223372036854775807 := by unfold maxLen at hbm; omega
  have B0 : Below w.heap.size w (w.alloc (.cells #[.slice A T.length cap, .int .i64 ten, .slice pA P.length pc, .slice wA Q.length wc, .slice bA BB.length bc] 31)) := below1 w _
  have N0 : Hid (Blk (w.alloc (.cells #[.slice A T.length cap, .int .i64 ten, .slice pA P.length pc, .slice wA Q.length wc, .slice bA BB.length bc] 31)) w.heap.size 31 #[.slice A T.length cap, .int .i64 ten, .slice pA P.length pc, .slice wA Q.length wc, .slice bA BB.length bc]) := Blk.new w _ _
  have HA := Lib.hid hA
  have HBA := Lib.hid hBA
  clear hA hBA
  go_enter Try.func25, Try.ntmps25
  go_wp2_with fail
  (with_reducible refine (rtsound_c _ T _ (HT.out.on B0)).mono ?_)
  rintro e w1 ⟨rfl, hb1⟩
  have HB1 := Lib.hid (B0.trans (hb1.mono B0.size))
  have N1 := Lib.hid (N0.out.on hb1)
  clear hb1 B0 N0
  by_cases hs : sTp T = 0
  · obtain ⟨d0, d1, d2, d3, d4⟩ := N1.out.five
    have hn := ports_sound hs
    have h6 := (szT_iff.1 (sTp_zero hs).1).2.1
    have HC : Hid (cfgT T ten P Q BB = if polT T ten P Q = 0 then (if BB.length = T.length then firT BB T else 4) else polT T ten P Q) := by show _ = _; unfold cfgT; rw [if_pos hs]
    rw [hs]
    clear hs
    go_wp2_with fail
    (with_reducible refine (rpolicy_c _ _ _ T ten P Q _ (HT.out.on HB1.out) (HP.out.on HB1.out) (HQ.out.on HB1.out) hn).mono ?_)
    rintro e w2 ⟨rfl, hb2⟩
    have HB2 := Lib.hid (HB1.out.trans (hb2.mono HB1.out.size))
    have N2 := Lib.hid (N1.out.on hb2)
    clear hb2 HB1 N1 d0 d1 d2 d3 d4
    obtain ⟨d0, d1, d2, d3, d4⟩ := N2.out.five
    obtain ⟨q, hq⟩ : ∃ q, polT T ten P Q = q := ⟨_, rfl⟩
    rw [hq] at HC ⊢
    clear hq
    by_cases hq0 : q = 0
    · subst hq0
      rw [if_pos rfl] at HC
      by_cases hl : BB.length = T.length
      · rw [if_pos hl] at HC
        have hlz : (BB.length : Int) = (T.length : Int) := by omega
        have hbl : (BB.length : Int) ≤ 6 := by omega
        obtain ⟨nb, hnb1, hnb2⟩ : ∃ nb, nb ≤ BB.length ∧ BB.length ≤ nb := ⟨_, Nat.le_refl _, Nat.le_refl _⟩
        have HL := Lib.hid hl
        have hne1 : ((BB.length : Int) != (T.length : Int)) = false := by simp [hl]
        clear hl hlz
        go_wp2
        clear d0 d1 d2 d3 d4
        go_loopg [3, 4] BB.length (fun gk _ s4 wr => ∃ k : Nat, k ≤ BB.length ∧ gk = BB.length - k ∧ s4 = .int .i64 k ∧ Hid (firT BB T = firT (BB.drop k) (T.drop k)) ∧ Hid (Below w2.heap.size w2 wr))
        case atStart => exact ⟨0, Nat.zero_le _, rfl, rfl, rfl, Below.refl _ _⟩
        case round =>
          obtain ⟨k, hk, rfl, rfl, HF, HW⟩ := hrel
          have HB3 := Lib.hid (HB2.out.trans (HW.out.mono HB2.out.size))
          obtain ⟨d0, d1, d2, d3, d4⟩ := (N2.out.on HW.out).five
          by_cases hlt : k < BB.length
          · have hltz : (k : Int) < (BB.length : Int) := by omega
            have hkT : k < T.length := by have := HL.out; omega
            have hkTz : (k : Int) < (T.length : Int) := by omega
            obtain ⟨B, hBk⟩ : ∃ B, BB[k]? = some B := ⟨_, List.getElem?_eq_getElem hlt⟩
            obtain ⟨L, hLk⟩ : ∃ L, T[k]? = some L := ⟨_, List.getElem?_eq_getElem hkT⟩
            obtain ⟨bb, bo, rfl, _, hbc⟩ := HBA.out (by rintro rfl; simp at hlt)
            obtain ⟨tb, tof, rfl, _, htc⟩ := HA.out (by rintro rfl; simp at hkT)
            obtain ⟨s1, hs1, hR⟩ := hbc k B hBk
            obtain ⟨s2, hs2, hPs⟩ := htc k L hLk
            have hPo := hPs.po
            obtain ⟨A1, c1, rfl, -⟩ := id hR
            obtain ⟨A2, c2, rfl, -⟩ := id hPs
            have x1 := on_some HB3.out hs1
            have x2 := on_some HB3.out hs2
            have HR := Lib.hid hR
            have HPo := Lib.hid hPo
            have KP : ∀ W, Below wr.heap.size wr W → (Below wr.heap.size wr W ∧ W.cell? ⟨w.heap.size, 0, none⟩ = some (.slice (some ⟨tb, tof, none⟩) T.length cap) ∧ W.cell? ⟨w.heap.size, 4, none⟩ = some (.slice (some ⟨bb, bo, none⟩) BB.length bc) ∧ W.cell? ⟨bb, bo + k, none⟩ = some (.slice A1 B.length c1) ∧ W.cell? ⟨tb, tof + k, none⟩ = some (.slice A2 L.length c2)) := fun W hb => ⟨hb, on_some hb d0, on_some hb d4, on_some hb x1, on_some hb x2⟩
            have HKP := Lib.hid KP
            have HN := Lib.hid (firT_at hBk hLk)
            obtain ⟨z, hz⟩ : ∃ z, sT B (L.map Pt.kind) = z := ⟨_, rfl⟩
            rw [hz] at HN
            have HZ := Lib.hid hz
            clear KP x1 x2 hbc htc hs1 hs2 hR hPs hPo hBk hLk hz
            go_upto_region 12 with (fail)
            refine wp_region_held_drew (S := fun w' => Below wr.heap.size wr w' ∧ w'.cell? ⟨w.heap.size, 0, none⟩ = some (.slice (some ⟨tb, tof, none⟩) T.length cap) ∧ w'.cell? ⟨w.heap.size, 4, none⟩ = some (.slice (some ⟨bb, bo, none⟩) BB.length bc) ∧ w'.cell? ⟨bb, bo + k, none⟩ = some (.slice A1 B.length c1) ∧ w'.cell? ⟨tb, tof + k, none⟩ = some (.slice A2 L.length c2)) (by kernel_rfl) (HKP.out _ (Below.refl _ wr).drew) (fun hHeld => ?_)
            refine wpAnyH_take (i := 0) (oi := ⟨some 34, _, _, _, _, _⟩) (v := ?vf0) rfl (by kernel_rfl) (by kernel_rfl) (by kernel_rfl) (fun _ _ _ h => h) (Or.inl ⟨by rfl, ?yf0⟩) hHeld ?rf0
            case yf0 => (intro w' hSw; (try dsimp only at hSw); go_simp; try (with_reducible rfl))
            simp only [Act.put, List.setIfInBounds_toArray, List.set_cons_zero, List.set_cons_succ]
            refine wpAnyH_take (i := 1) (oi := ⟨some 35, _, _, _, _, _⟩) (v := ?vf1) rfl (by kernel_rfl) (by kernel_rfl) (by kernel_rfl) (fun _ _ _ h => h) (Or.inl ⟨by rfl, ?yf1⟩) hHeld ?rf1
            case yf1 => (intro w' hSw; (try dsimp only at hSw); go_simp; try (with_reducible rfl))
            simp only [Act.put, List.setIfInBounds_toArray, List.set_cons_zero, List.set_cons_succ]
            refine wpAnyH_take (i := 2) (oi := ⟨some 36, _, _, _, _, _⟩) (v := ?vf2) rfl (by kernel_rfl) (by kernel_rfl) (by kernel_rfl) (fun _ _ _ h => h) (Or.inl ⟨by rfl, ?yf2⟩) hHeld ?rf2
            case yf2 => (intro w' hSw; (try dsimp only at hSw); go_simp; try (with_reducible rfl))
            simp only [Act.put, List.setIfInBounds_toArray, List.set_cons_zero, List.set_cons_succ]
            refine wpAnyH_take (i := 3) (oi := ⟨some 37, _, _, _, _, _⟩) (v := ?vf3) rfl (by kernel_rfl) (by kernel_rfl) (by kernel_rfl) (fun _ _ _ h => h) (Or.inl ⟨by rfl, ?yf3⟩) hHeld ?rf3
            case yf3 => (intro w' hSw; (try dsimp only at hSw); go_simp; try (with_reducible rfl))
            simp only [Act.put, List.setIfInBounds_toArray, List.set_cons_zero, List.set_cons_succ]
            refine wpAnyH_take (i := 4) (oi := ⟨some 38, _, _, _, _, _⟩) (v := ?vf4) rfl (by kernel_rfl) (by kernel_rfl) (by kernel_rfl) (fun _ _ _ h => h) (Or.inl ⟨by rfl, ?yf4⟩) hHeld ?rf4
            case yf4 => (intro w' hSw; (try dsimp only at hSw); go_simp; try (with_reducible rfl))
            simp only [Act.put, List.setIfInBounds_toArray, List.set_cons_zero, List.set_cons_succ]
            refine wpAnyH_take (i := 5) (oi := ⟨some 39, _, _, _, _, _⟩) (v := ?vf5) rfl (by kernel_rfl) (by kernel_rfl) (by kernel_rfl) (fun _ _ _ h => h) (Or.inl ⟨by rfl, ?yf5⟩) hHeld ?rf5
            case yf5 => (intro w' hSw; (try dsimp only at hSw); go_simp; try (with_reducible rfl))
            simp only [Act.put, List.setIfInBounds_toArray, List.set_cons_zero, List.set_cons_succ]
            refine wpAnyH_take (i := 6) (oi := ⟨some 40, _, _, _, _, _⟩) (v := ?vf6) rfl (by kernel_rfl) (by kernel_rfl) (by kernel_rfl) (fun _ _ _ h => h) (Or.inl ⟨by rfl, ?yf6⟩) hHeld ?rf6
            case yf6 => (intro w' hSw; (try dsimp only at hSw); go_simp; try (with_reducible rfl))
            simp only [Act.put, List.setIfInBounds_toArray, List.set_cons_zero, List.set_cons_succ]
            refine wpAnyH_take (i := 7) (oi := ⟨some 41, _, _, _, _, _⟩) (v := ?vf7) rfl (by kernel_rfl) (by kernel_rfl) (by kernel_rfl) (fun _ _ _ h => h) (Or.inl ⟨by rfl, ?yf7⟩) hHeld ?rf7
            case yf7 => (intro w' hSw; (try dsimp only at hSw); go_simp; try (with_reducible rfl))
            simp only [Act.put, List.setIfInBounds_toArray, List.set_cons_zero, List.set_cons_succ]
            refine wpAnyH_take (i := 8) (oi := ⟨some 42, _, _, _, _, _⟩) (v := ?vf8) rfl (by kernel_rfl) (by kernel_rfl) (by kernel_rfl) (fun _ _ _ h => h) (Or.inl ⟨by rfl, ?yf8⟩) hHeld ?rf8
            case yf8 => (intro w' hSw; (try dsimp only at hSw); go_simp; try (with_reducible rfl))
            simp only [Act.put, List.setIfInBounds_toArray, List.set_cons_zero, List.set_cons_succ]
            refine wpAnyH_take (i := 9) (oi := ⟨some 43, _, _, _, _, _⟩) (v := ?vf9) rfl (by kernel_rfl) (by kernel_rfl) (by kernel_rfl) (fun _ _ _ h => h) (Or.inl ⟨by rfl, ?yf9⟩) hHeld ?rf9
            case yf9 => (intro w' hSw; (try dsimp only at hSw); go_simp; try (with_reducible rfl))
            simp only [Act.put, List.setIfInBounds_toArray, List.set_cons_zero, List.set_cons_succ]
            refine wpAnyH_take (i := 10) (oi := ⟨some 44, _, _, _, _, _⟩) (v := ?vf10) rfl (by kernel_rfl) (by kernel_rfl) (by kernel_rfl) (fun _ _ _ h => h) (Or.inl ⟨by rfl, ?yf10⟩) hHeld ?rf10
            case yf10 => (intro w' hSw; (try dsimp only at hSw); go_simp; try (with_reducible rfl))
            simp only [Act.put, List.setIfInBounds_toArray, List.set_cons_zero, List.set_cons_succ]
            refine wpAnyH_ready (rs := [11]) (by kernel_rfl) (by simp) ?_
            refine AllReadyH.cons (o := ⟨some 45, _, _, _, _, _⟩) rfl (fun K hK => ?_) AllReadyH.nil
            go_simp
            (with_reducible refine (rtabs_c _ _ B (L.map Pt.kind) _ (HR.out.on (HB3.out.trans (hHeld.1.mono HB3.out.size))) (HPo.out.on (HB3.out.trans (hHeld.1.mono HB3.out.size)))).mono ?_)
            rintro e w5 ⟨rfl, hb⟩
            rw [HZ.out]
            (try dsimp only)
            refine hK.out _ _ (HKP.out _ (hHeld.1.trans (hb.mono hHeld.1.size))) (fun hNext => ?_)
            clear hK K hHeld
            have hHeld := hNext
            clear hNext
            try simp only [Act.put, List.setIfInBounds_toArray, List.set_cons_zero, List.set_cons_succ]
            refine wpAnyH_take (i := 12) (oi := ⟨some 3, _, _, _, _, _⟩) (v := ?vf12) rfl (by kernel_rfl) (by kernel_rfl) (by kernel_rfl) (fun _ _ _ h => h) (Or.inl ⟨by rfl, ?yf12⟩) hHeld ?rf12
            case yf12 => (intro w' hSw; (try dsimp only at hSw); go_simp; try (with_reducible rfl))
            simp only [Act.put, List.setIfInBounds_toArray, List.set_cons_zero, List.set_cons_succ]
            refine wpAnyH_done (by kernel_rfl) ?_ _
            have HBE := Lib.hid (HB3.out.trans (hHeld.1.mono HB3.out.size))
            have HWE := Lib.hid (HW.out.trans (hHeld.1.mono HW.out.size))
            clear hHeld HKP HB3 HW d0 d1 d2 d3 d4
            by_cases hz0 : z = 0
            · subst hz0
              rw [if_pos rfl] at HN
              have HF2 : Hid (firT BB T = firT (BB.drop (k + 1)) (T.drop (k + 1))) := HF.out.trans HN.out
              go_wp2
              go_roundg (BB.length - (k + 1))
              case measure => omega
              case rel => exact ⟨k + 1, by omega, rfl, by go_num, HF2, HWE⟩
            · rw [if_neg hz0] at HN
              have HE : Hid (cfgT T ten P Q BB = z) := HC.out.trans (HF.out.trans HN.out)
              go_wp2
              go_ret
              exact ⟨by rw [HE.out]; rfl, HBE.out⟩
          · have hltz : ¬ (k : Int) < (BB.length : Int) := by omega
            have HE : Hid (cfgT T ten P Q BB = 0) := HC.out.trans (HF.out.trans (firT_end T (by omega)))
            go_wp2
            go_ret
            exact ⟨by rw [HE.out]; rfl, HB3.out⟩
      · rw [if_neg hl] at HC
        have hlz : ¬ (BB.length : Int) = (T.length : Int) := by omega
        have hne1 : ((BB.length : Int) != (T.length : Int)) = true := bne_iff_ne.2 hlz
        have HE := HC
        clear HC
        go_wp2
        go_ret
        exact ⟨by rw [HE.out]; rfl, HB2.out⟩
    · rw [if_neg hq0] at HC
      have HE := HC
      clear HC
      go_wp2
      go_ret
      exact ⟨by rw [HE.out]; rfl, HB2.out⟩
  · have HE : Hid (cfgT T ten P Q BB = sTp T) := by show _ = _; unfold cfgT; rw [if_neg hs]
    obtain ⟨q, hq⟩ : ∃ q, sTp T = q := ⟨_, rfl⟩
    rw [hq] at hs HE ⊢
    clear hq
    go_wp2
    go_ret
    exact ⟨by rw [HE.out]; rfl, HB1.out⟩
end Go.Proofs

namespace Go.Proofs
open Go.RowKit Go.Proofs.Hd Go.Lib
theorem cwin_c (x : Bool) (n m : Int) (w : World) (hx : inB n m = x) : Calls Try.prog 57 #[.int .i64 n, .int .i64 m] w fun e w' => e = .returned (.bool x) ∧ w' = w := by
  unfold inB at hx
  by_cases h0 : 0 ≤ n
  · by_cases h1 : n < m
    · rw [decide_eq_true h0, decide_eq_true h1] at hx
      subst hx
      go_enter Try.func57, Try.ntmps57
      go_wp2
      go_ret
      exact ⟨rfl, rfl⟩
    · rw [decide_eq_true h0, decide_eq_false h1] at hx
      subst hx
      go_enter Try.func57, Try.ntmps57
      go_wp2
      go_ret
      exact ⟨rfl, rfl⟩
  · rw [decide_eq_false h0] at hx
    subst hx
    go_enter Try.func57, Try.ntmps57
    go_wp2
    go_ret
    exact ⟨rfl, rfl⟩
end Go.Proofs

namespace Go.Proofs.Hd
open Go.RowKit
section
variable {α : Type} {enc : α → List Value} {k : Nat}
theorem fm_len (hk : ∀ x, (enc x).length = k) (L : List α) : (L.flatMap enc).length = L.length * k := by
  induction L with
  | nil => simp
  | cons x L ih => rw [List.flatMap_cons, List.length_append, hk, ih, List.length_cons, Nat.add_mul]; omega
theorem fm_get (hk : ∀ x, (enc x).length = k) {L : List α} {i j : Nat} {x : α} (h : L[i]? = some x) (hj : j < k) : (L.flatMap enc)[i * k + j]? = (enc x)[j]? := by
  induction L generalizing i with
  | nil => simp at h
  | cons c L ih =>
    rw [List.flatMap_cons]
    cases i with
    | zero =>
      simp only [List.getElem?_cons_zero, Option.some.injEq] at h
      subst h
      rw [List.getElem?_append_left (by rw [hk]; omega)]
      simp
    | succ i =>
      rw [List.getElem?_cons_succ] at h
      rw [List.getElem?_append_right (by rw [hk, Nat.add_mul]; omega), hk]
      rw [show (i + 1) * k + j - k = i * k + j by rw [Nat.add_mul]; omega]
      exact ih h
theorem fm_at (hk : ∀ x, (enc x).length = k) (h0 : 0 < k) {L : List α} {j : Nat} {u : Value} (h : (L.flatMap enc)[j]? = some u) : ∃ x, L[j / k]? = some x ∧ (enc x)[j % k]? = some u := by
  have hl := (List.getElem?_eq_some_iff.1 h).1
  rw [fm_len hk] at hl
  have hd : j / k < L.length := by rw [Nat.div_lt_iff_lt_mul h0]; exact hl
  have hx : L[j / k]? = some L[j / k] := List.getElem?_eq_getElem hd
  refine ⟨_, hx, ?_⟩
  rw [← fm_get hk hx (Nat.mod_lt j h0), Nat.mul_comm, Nat.div_add_mod]
  exact h
theorem fm_one (h1 : ∀ x, ∀ u ∈ enc x, u.oneCell' = true) (L : List α) : ∀ u ∈ L.flatMap enc, u.oneCell' = true := fun u hu => by
  obtain ⟨x, _, hx⟩ := List.mem_flatMap.1 hu
  exact h1 x u hx
/-- v is a slice that reads as the elements L, of k cells each. -/
def RdE (w : World) (k : Nat) (enc : α → List Value) (v : Value) (L : List α) : Prop := ∃ A cap, v = .slice A L.length cap ∧ (L ≠ [] → ∃ b o, A = some ⟨b, o, none⟩ ∧ b < w.heap.size ∧ ∀ i x, L[i]? = some x → ∀ j u, (enc x)[j]? = some u → w.cell? ⟨b, o + i * k + j, none⟩ = some u)
theorem RdE.src {w : World} {v : Value} {L : List α} (h : RdE w k enc v L) (hk : ∀ x, (enc x).length = k) (h0 : 0 < k) (h1 : ∀ x, ∀ u ∈ enc x, u.oneCell' = true) : Src w k v L.length (L.flatMap enc) := by
  obtain ⟨A, cap, rfl, h⟩ := h
  refine ⟨fm_len hk L, fm_one h1 L, ?_⟩
  cases A with
  | none =>
    refine .inl ⟨?_, cap, ?_⟩
    · cases L with
      | nil => rfl
      | cons x L => obtain ⟨b, o, e, _⟩ := h (by simp); cases e
    · cases L with
      | nil => rfl
      | cons x L => obtain ⟨b, o, e, _⟩ := h (by simp); cases e
  | some a =>
    refine .inr ⟨a, cap, rfl, fun j u hj => ?_⟩
    obtain ⟨x, hx, hu⟩ := fm_at hk h0 hj
    obtain ⟨b, o, e, _, hc⟩ := h (by rintro rfl; simp at hx)
    injection e with e
    subst e
    have := hc _ x hx _ u hu
    have hd := Nat.div_add_mod j k
    rw [show o + j / k * k + j % k = o + j by rw [Nat.mul_comm] at hd; omega] at this
    have e2 : (⟨b, o, none⟩ : Addr).add j = ⟨b, o + j, none⟩ := by unfold Addr.add; by_cases h0 : j = 0 <;> simp [h0]
    rw [e2]
    exact this
theorem own_rde {w : World} {base : Nat} {t : TypeId} {v : Value} {L : List α} (h : w.ownsRow base t k v L.length (L.flatMap enc)) (hk : ∀ x, (enc x).length = k) : RdE w k enc v L := by
  rcases h.2 with ⟨rfl, hn⟩ | ⟨g, cap, cur, rfl, hb, hg, _⟩
  · obtain rfl : L = [] := List.eq_nil_of_length_eq_zero hn
    exact ⟨none, 0, rfl, fun h => absurd rfl h⟩
  · refine ⟨_, cap, rfl, fun _ => ⟨g, 0, rfl, (Array.getElem?_eq_some_iff.1 hg).1, fun i x hx j u hu => ?_⟩⟩
    have hil := (List.getElem?_eq_some_iff.1 hx).1
    have hjk : j < k := by have := (List.getElem?_eq_some_iff.1 hu).1; rwa [hk] at this
    have hlt : i * k + j < L.length * k := by
      have : (i + 1) * k ≤ L.length * k := Nat.mul_le_mul_right k hil
      rw [Nat.add_mul] at this
      omega
    rw [Nat.zero_add, h.cellAt (i * k + j) hlt, fm_get hk hx hjk]
    exact hu
theorem own_len {w : World} {base : Nat} {t : TypeId} {v : Value} {n : Nat} {xs : List Value} (h : w.ownsRow base t k v n xs) : n ≤ maxLen := by
  rcases h.2 with ⟨_, rfl⟩ | ⟨g, cap, cur, _, _, _, h1, h2, _⟩
  · exact Nat.zero_le _
  · exact Nat.le_trans h1 h2
end
theorem own_sl {w : World} {base : Nat} {t : TypeId} {size n : Nat} {v : Value} {xs : List Value} (h : w.ownsRow base t size v n xs) : ∃ A cap, v = .slice A n cap ∧ (0 < n → ∃ g, A = some ⟨g, 0, none⟩) := by
  rcases h.2 with ⟨rfl, rfl⟩ | ⟨g, cap, cur, rfl, _⟩
  · exact ⟨none, 0, rfl, fun h => by omega⟩
  · exact ⟨_, cap, rfl, fun _ => ⟨g, rfl⟩⟩
theorem own_tb {w : World} {base g : Nat} {t : TypeId} {size n cap : Nat} {xs : List Value} (h : w.ownsRow base t size (.slice (some ⟨g, 0, none⟩) n cap) n xs) : TB w g t ∧ base ≤ g ∧ g < w.heap.size := by
  rcases h.2 with ⟨h', _⟩ | ⟨g', cap', cur, h', hb, hg, _⟩
  · simp at h'
  · simp only [Value.slice.injEq, Option.some.injEq, Addr.mk.injEq, and_true, true_and] at h'
    obtain ⟨rfl, rfl⟩ := h'
    exact ⟨⟨cur, (0, 0), hg⟩, hb, (Array.getElem?_eq_some_iff.1 hg).1⟩
theorem Src.on {w w' : World} {k n : Nat} {v : Value} {news : List Value} (h : Src w k v n news) (hb : Below w.heap.size w w') : Src w' k v n news := by
  obtain ⟨h1, h2, h3 | ⟨ad, c, e, hc⟩⟩ := h
  · exact ⟨h1, h2, .inl h3⟩
  · exact ⟨h1, h2, .inr ⟨ad, c, e, fun j u hj => on_some hb (hc j u hj)⟩⟩
/-- Pairs and ways as cells. -/
def encA (x : Int × Int) : List Value := [.int .i64 x.1, .int .i64 x.2]
def Wa.cs (x : Wa) : List Value := [.int .i64 x.frm, .int .i64 x.too, .int .i64 x.via]
theorem len_pt (x : Pt) : x.cs.length = 5 := rfl
theorem len_rl (x : Rl) : x.cs.length = 12 := rfl
theorem len_a (x : Int × Int) : (encA x).length = 2 := rfl
theorem len_w (x : Wa) : x.cs.length = 3 := rfl
theorem RdE.ps {w : World} {v : Value} {L : List Pt} (h : RdE w 5 Pt.cs v L) (hl : L.length ≤ maxLen) : Ps w v L := by
  obtain ⟨A, cap, rfl, h⟩ := h
  refine ⟨A, cap, rfl, hl, fun hne => ?_⟩
  obtain ⟨b, o, e, hb, hc⟩ := h hne
  exact ⟨b, o, e, hb, fun i x hx => ⟨hc i x hx 0 _ rfl, hc i x hx 1 _ rfl, hc i x hx 2 _ rfl, hc i x hx 3 _ rfl, hc i x hx 4 _ rfl⟩⟩
theorem RdE.pe {w : World} {v : Value} {L : List (Int × Int)} (h : RdE w 2 encA v L) (hl : L.length ≤ maxLen) : Pe w v L := by
  obtain ⟨A, cap, rfl, h⟩ := h
  refine ⟨A, cap, rfl, hl, fun hne => ?_⟩
  obtain ⟨b, o, e, hb, hc⟩ := h hne
  exact ⟨b, o, e, hb, fun i x hx => ⟨hc i x hx 0 _ rfl, hc i x hx 1 _ rfl⟩⟩
theorem RdE.wy {w : World} {v : Value} {L : List Wa} (h : RdE w 3 Wa.cs v L) (hl : L.length ≤ maxLen) : Wy w v L := by
  obtain ⟨A, cap, rfl, h⟩ := h
  refine ⟨A, cap, rfl, hl, fun hne => ?_⟩
  obtain ⟨b, o, e, hb, hc⟩ := h hne
  exact ⟨b, o, e, hb, fun i x hx => ⟨hc i x hx 0 _ rfl, hc i x hx 1 _ rfl, hc i x hx 2 _ rfl⟩⟩
theorem RdE.ru {w : World} {v : Value} {L : List Rl} (h : RdE w 12 Rl.cs v L) : Ru w v L := by
  obtain ⟨A, cap, rfl, h⟩ := h
  by_cases hne : L = []
  · subst hne; exact .inl ⟨rfl, A, cap, rfl⟩
  · obtain ⟨b, o, rfl, hb, hc⟩ := h hne
    exact .inr ⟨b, o, cap, rfl, hb, fun i x hx j u hu => hc i x hx j u hu⟩
section
variable {β : Type}
/-- A list of headers of the call's own; each reads as R says. -/
def OwG (te : TypeId) (R : World → Value → β → Prop) (w : World) (B : Nat) (v : Value) (T : List β) : Prop := ∃ hs, w.ownsRow B te 1 v T.length hs ∧ ∀ (i : Nat) (x : β), T[i]? = some x → ∃ s, hs[i]? = some s ∧ R w s x
theorem OwG.on {te : TypeId} {R : World → Value → β → Prop} (hR : ∀ w w' s x, Below w.heap.size w w' → R w s x → R w' s x) {w w' : World} {B : Nat} {v : Value} {T : List β} (h : OwG te R w B v T) (hb : Below w.heap.size w w') : OwG te R w' B v T := by
  obtain ⟨hs, h1, h2⟩ := h
  refine ⟨hs, own_on h1 hb, fun i x hx => ?_⟩
  obtain ⟨s, e, hr⟩ := h2 i x hx
  exact ⟨s, e, hR _ _ _ _ hb hr⟩
theorem OwG.far {te t3 : TypeId} (hne : te ≠ t3) {R : World → Value → β → Prop} (hR : ∀ (w : World) (g i : Nat) (u s : Value) (x : β), TB w g t3 → R w s x → R (w.setCell ⟨g, i, none⟩ u) s x) {w : World} {g i B : Nat} {u v : Value} {T : List β} (hg : TB w g t3) (h : OwG te R w B v T) : OwG te R (w.setCell ⟨g, i, none⟩ u) B v T := by
  obtain ⟨hs, h1, h2⟩ := h
  refine ⟨hs, ownsRow_setCell_other h1 (fun e => own_apartT h1 hg hne e.symm) u, fun j x hx => ?_⟩
  obtain ⟨s, e, hr⟩ := h2 j x hx
  exact ⟨s, e, hR _ _ _ _ _ _ hg hr⟩
end
/-- Ports, rules of the call's own. -/
def O1P (B : Nat) (w : World) (s : Value) (L : List Pt) : Prop := w.ownsRow B 91 5 s L.length (L.flatMap Pt.cs)
def O1R (B : Nat) (w : World) (s : Value) (L : List Rl) : Prop := w.ownsRow B 51 12 s L.length (L.flatMap Rl.cs)
def O2P (B : Nat) (w : World) (v : Value) (T : List (List Pt)) : Prop := OwG 89 (O1P B) w B v T
def O2R (B : Nat) (w : World) (v : Value) (T : List (List Rl)) : Prop := OwG 45 (O1R B) w B v T
def O3R (B : Nat) (w : World) (v : Value) (T : List (List (List Rl))) : Prop := OwG 84 (O2R B) w B v T
theorem O1P.on (B : Nat) : ∀ w w' s x, Below w.heap.size w w' → O1P B w s x → O1P B w' s x := fun _ _ _ _ hb h => own_on h hb
theorem O1R.on (B : Nat) : ∀ w w' s x, Below w.heap.size w w' → O1R B w s x → O1R B w' s x := fun _ _ _ _ hb h => own_on h hb
theorem O2P.on (B : Nat) : ∀ w w' s x, Below w.heap.size w w' → O2P B w s x → O2P B w' s x := fun _ _ _ _ hb h => OwG.on (O1P.on B) h hb
theorem O2R.on (B : Nat) : ∀ w w' s x, Below w.heap.size w w' → O2R B w s x → O2R B w' s x := fun _ _ _ _ hb h => OwG.on (O1R.on B) h hb
theorem O3R.on (B : Nat) : ∀ w w' s x, Below w.heap.size w w' → O3R B w s x → O3R B w' s x := fun _ _ _ _ hb h => OwG.on (O2R.on B) h hb
theorem O1P.far {B : Nat} {t3 : TypeId} (hne : 91 ≠ t3) : ∀ (w : World) (g i : Nat) (u s : Value) (x : List Pt), TB w g t3 → O1P B w s x → O1P B (w.setCell ⟨g, i, none⟩ u) s x := fun _ _ _ u _ _ hg h => ownsRow_setCell_other h (fun e => own_apartT h hg hne e.symm) u
theorem O1R.far {B : Nat} {t3 : TypeId} (hne : 51 ≠ t3) : ∀ (w : World) (g i : Nat) (u s : Value) (x : List Rl), TB w g t3 → O1R B w s x → O1R B (w.setCell ⟨g, i, none⟩ u) s x := fun _ _ _ u _ _ hg h => ownsRow_setCell_other h (fun e => own_apartT h hg hne e.symm) u
theorem O2R.far {B : Nat} {t3 : TypeId} (hne : 51 ≠ t3) (hne2 : 45 ≠ t3) : ∀ (w : World) (g i : Nat) (u s : Value) (x : List (List Rl)), TB w g t3 → O2R B w s x → O2R B (w.setCell ⟨g, i, none⟩ u) s x := fun _ _ _ _ _ _ hg h => OwG.far hne2 (O1R.far hne) hg h
theorem O1P.mono {B B' : Nat} (hB : B' ≤ B) {w : World} {s : Value} {L : List Pt} (h : O1P B w s L) : O1P B' w s L := World.ownsRow.mono h hB
theorem O1R.mono {B B' : Nat} (hB : B' ≤ B) {w : World} {s : Value} {L : List Rl} (h : O1R B w s L) : O1R B' w s L := World.ownsRow.mono h hB
theorem O2P.mono {B B' : Nat} (hB : B' ≤ B) {w : World} {s : Value} {T : List (List Pt)} (h : O2P B w s T) : O2P B' w s T := by
  obtain ⟨hs, h1, h2⟩ := h
  refine ⟨hs, World.ownsRow.mono h1 hB, fun i x hx => ?_⟩
  obtain ⟨s, e, hr⟩ := h2 i x hx
  exact ⟨s, e, O1P.mono hB hr⟩
theorem O2R.mono {B B' : Nat} (hB : B' ≤ B) {w : World} {s : Value} {T : List (List Rl)} (h : O2R B w s T) : O2R B' w s T := by
  obtain ⟨hs, h1, h2⟩ := h
  refine ⟨hs, World.ownsRow.mono h1 hB, fun i x hx => ?_⟩
  obtain ⟨s, e, hr⟩ := h2 i x hx
  exact ⟨s, e, O1R.mono hB hr⟩
theorem O3R.mono {B B' : Nat} (hB : B' ≤ B) {w : World} {s : Value} {T : List (List (List Rl))} (h : O3R B w s T) : O3R B' w s T := by
  obtain ⟨hs, h1, h2⟩ := h
  refine ⟨hs, World.ownsRow.mono h1 hB, fun i x hx => ?_⟩
  obtain ⟨s, e, hr⟩ := h2 i x hx
  exact ⟨s, e, O2R.mono hB hr⟩
theorem OwG.rd {β : Type} {te : TypeId} {R : World → Value → β → Prop} {w : World} {B : Nat} {v : Value} {T : List β} (h : OwG te R w B v T) : ∃ A cap, v = .slice A T.length cap ∧ T.length ≤ maxLen ∧ (T ≠ [] → ∃ b o, A = some ⟨b, o, none⟩ ∧ b < w.heap.size ∧ ∀ (k : Nat) (x : β), T[k]? = some x → ∃ s, w.cell? ⟨b, o + k, none⟩ = some s ∧ R w s x) := by
  obtain ⟨hs, h1, h2⟩ := h
  have hm := own_len h1
  obtain ⟨A, cap, rfl, hA⟩ := own_sl h1
  refine ⟨A, cap, rfl, hm, fun hne => ?_⟩
  obtain ⟨g, rfl⟩ := hA (List.length_pos_iff.2 hne)
  refine ⟨g, 0, rfl, (own_tb h1).2.2, fun k x hx => ?_⟩
  obtain ⟨s, e, hr⟩ := h2 k x hx
  have hkl := (List.getElem?_eq_some_iff.1 hx).1
  exact ⟨s, by rw [Nat.zero_add, h1.cellAt k (by omega)]; exact e, hr⟩
theorem O1P.ps {B : Nat} {w : World} {s : Value} {L : List Pt} (h : O1P B w s L) : Ps w s L := (own_rde h len_pt).ps (own_len h)
theorem O1R.ru {B : Nat} {w : World} {s : Value} {L : List Rl} (h : O1R B w s L) : Ru w s L := (own_rde h len_rl).ru
theorem O2P.rd {B : Nat} {w : World} {v : Value} {T : List (List Pt)} (h : O2P B w v T) : PsT w v T := by
  obtain ⟨A, cap, e, hm, hc⟩ := OwG.rd h
  refine ⟨A, cap, e, hm, fun hne => ?_⟩
  obtain ⟨b, o, e2, hb, hk⟩ := hc hne
  refine ⟨b, o, e2, hb, fun k L hL => ?_⟩
  obtain ⟨s, h1, h2⟩ := hk k L hL
  exact ⟨s, h1, h2.ps⟩
theorem O2R.rd {B : Nat} {w : World} {v : Value} {T : List (List Rl)} (h : O2R B w v T) : RuT w v T := by
  obtain ⟨A, cap, e, hm, hc⟩ := OwG.rd h
  refine ⟨A, cap, e, hm, fun L hL => ?_, fun hne => ?_⟩
  · obtain ⟨i, hi⟩ := List.getElem?_of_mem hL
    obtain ⟨b, o, e2, hb, hk⟩ := hc (by rintro rfl; simp at hi)
    obtain ⟨s, h1, h2⟩ := hk i L hi
    exact own_len h2
  · obtain ⟨b, o, e2, hb, hk⟩ := hc hne
    refine ⟨b, o, e2, hb, fun k L hL => ?_⟩
    obtain ⟨s, h1, h2⟩ := hk k L hL
    exact ⟨s, h1, h2.ru⟩
theorem O3R.rd {B : Nat} {w : World} {v : Value} {T : List (List (List Rl))} (h : O3R B w v T) : RuQ w v T := by
  obtain ⟨A, cap, e, hm, hc⟩ := OwG.rd h
  refine ⟨A, cap, e, hm, fun hne => ?_⟩
  obtain ⟨b, o, e2, hb, hk⟩ := hc hne
  refine ⟨b, o, e2, hb, fun k L hL => ?_⟩
  obtain ⟨s, h1, h2⟩ := hk k L hL
  exact ⟨s, h1, O2R.rd h2⟩
theorem Ps.one {w : World} {s : Value} {L : List Pt} (h : Ps w s L) : s.oneCell' = true := by obtain ⟨A, cap, rfl, _⟩ := h; rfl
theorem Ru.one {w : World} {s : Value} {L : List Rl} (h : Ru w s L) : s.oneCell' = true := by obtain ⟨A, cap, rfl, _⟩ := h.form; rfl
theorem RuT.one {w : World} {s : Value} {L : List (List Rl)} (h : RuT w s L) : s.oneCell' = true := by obtain ⟨A, cap, rfl, _⟩ := h; rfl
end Go.Proofs.Hd

namespace Go.Proofs
open Go.RowKit Go.Proofs.Hd Go.Lib
end Go.Proofs

namespace Go.Proofs.Hd
open Go.RowKit
/-- Block b, at or behind block B, holds the cells cs. -/
def Nb (B : Nat) (w : World) (b : Nat) (T : TypeId) (cs : Array Value) : Prop := Blk w b T cs ∧ B ≤ b
theorem Nb.on {B b : Nat} {W w' : World} {T : TypeId} {cs : Array Value} (h : Nb B W b T cs) (hb : Below W.heap.size W w') : Nb B w' b T cs := ⟨h.1.on hb, h.2⟩
theorem Nb.top {B : Nat} {T : TypeId} {cs : Array Value} (X : World) (h : B ≤ X.heap.size) : Nb B (X.alloc (.cells cs T)) X.heap.size T cs := ⟨Blk.new X T cs, h⟩
theorem Nb.ne {B b : Nat} {W : World} {T : TypeId} {cs : Array Value} (h : Nb B W b T cs) : b ≠ W.heap.size := Nat.ne_of_lt h.1.lt
theorem Nb.there {B b : Nat} {W : World} {T : TypeId} {cs : Array Value} (h : Nb B W b T cs) : W.there b 0 cs.size := fun j hj => by
  rw [Nat.zero_add, h.1.cell j, h.1.free j]
  simp [hj]
theorem Blk.farC {g b : Nat} {t : TypeId} {cs : Array Value} (hne : b ≠ g) : ∀ (vs : List Value) (o : Nat) (w : World), Blk w g t cs → Blk (w.setCells b o vs) g t cs
  | [], _, _, h => h
  | v :: vs, o, _, h => Blk.farC hne vs (o + 1) _ (h.far (p := ⟨b, o, none⟩) (fun e => hne e.symm) v)
theorem Nb.far {B b c : Nat} {W : World} {T : TypeId} {cs : Array Value} (h : Nb B W b T cs) (hne : c ≠ b) (vs : List Value) : Nb B (W.setCells c 0 vs) b T cs := ⟨Blk.farC hne vs 0 W h.1, h.2⟩
/-- Cells from place o on are set, one by one. -/
def setL (cs : Array Value) : Nat → List Value → Array Value
  | _, [] => cs
  | o, v :: vs => setL (cs.setIfInBounds o v) (o + 1) vs
theorem Blk.putC {b : Nat} {t : TypeId} : ∀ (vs : List Value) (o : Nat) (w : World) (cs : Array Value), Blk w b t cs → Blk (w.setCells b o vs) b t (setL cs o vs)
  | [], _, _, _, h => h
  | v :: vs, o, _, _, h => Blk.putC vs (o + 1) _ _ (h.set o v)
theorem setL_get : ∀ (vs : List Value) (o : Nat) (cs : Array Value) (j : Nat), (setL cs o vs)[j]? = if o ≤ j ∧ j < o + vs.length ∧ j < cs.size then vs[j - o]? else cs[j]?
  | [], o, cs, j => by rw [setL, if_neg (by simp; omega)]
  | v :: vs, o, cs, j => by
    rw [setL, setL_get vs]
    simp only [Array.size_setIfInBounds, List.length_cons]
    by_cases h1 : j = o
    · subst h1
      rw [if_neg (by omega)]
      by_cases h2 : j < cs.size
      · rw [if_pos (by omega)]
        simp [h2]
      · rw [if_neg (by omega)]
        simp [h2]
    · by_cases h2 : o + 1 ≤ j ∧ j < o + 1 + vs.length ∧ j < cs.size
      · rw [if_pos h2, if_pos (by omega), show j - o = (j - (o + 1)) + 1 by omega, List.getElem?_cons_succ]
      · rw [if_neg h2, if_neg (by omega), Array.getElem?_setIfInBounds, if_neg (fun e => h1 e.symm)]
theorem setL_all (vs : List Value) (cs : Array Value) (h : vs.length = cs.size) : setL cs 0 vs = vs.toArray := by
  apply Array.ext_getElem?
  intro j
  rw [setL_get]
  by_cases hj : j < cs.size
  · rw [if_pos (by omega)]; simp
  · rw [if_neg (by omega), Array.getElem?_eq_none (by omega), Array.getElem?_eq_none (by simp; omega)]
theorem Nb.put {B b : Nat} {W : World} {T : TypeId} {cs : Array Value} (h : Nb B W b T cs) (vs : List Value) (hl : vs.length = cs.size) : Nb B (W.setCells b 0 vs) b T vs.toArray := by
  refine ⟨?_, h.2⟩
  rw [← setL_all vs cs hl]
  exact Blk.putC vs 0 W cs h.1
end Go.Proofs.Hd

namespace Go.Proofs.Hd
open Go.RowKit
theorem O2P.far {B : Nat} {t3 : TypeId} (hne : 91 ≠ t3) (hne2 : 89 ≠ t3) : ∀ (w : World) (g i : Nat) (u s : Value) (x : List (List Pt)), TB w g t3 → O2P B w s x → O2P B (w.setCell ⟨g, i, none⟩ u) s x := fun _ _ _ _ _ _ hg h => OwG.far hne2 (O1P.far hne) hg h
/-- A configuration of the call's own. -/
structure Cfo (B : Nat) (w : World) (tv pv wv bv : Value) (T : List (List Pt)) (P : List (Int × Int)) (Q : List Wa) (BB : List (List (List Rl))) : Prop where
  ports : O2P B w tv T
  peers : w.ownsRow B 121 2 pv P.length (P.flatMap encA)
  ways : w.ownsRow B 123 3 wv Q.length (Q.flatMap Wa.cs)
  tabs : O3R B w bv BB
theorem Cfo.on {B : Nat} {w w' : World} {tv pv wv bv : Value} {T : List (List Pt)} {P : List (Int × Int)} {Q : List Wa} {BB : List (List (List Rl))} (h : Cfo B w tv pv wv bv T P Q BB) (hb : Below w.heap.size w w') : Cfo B w' tv pv wv bv T P Q BB :=
  ⟨O2P.on _ _ _ _ _ hb h.ports, own_on h.peers hb, own_on h.ways hb, O3R.on _ _ _ _ _ hb h.tabs⟩
theorem Cfo.mono {B B' : Nat} (hB : B' ≤ B) {w : World} {tv pv wv bv : Value} {T : List (List Pt)} {P : List (Int × Int)} {Q : List Wa} {BB : List (List (List Rl))} (h : Cfo B w tv pv wv bv T P Q BB) : Cfo B' w tv pv wv bv T P Q BB :=
  ⟨O2P.mono hB h.ports, World.ownsRow.mono h.peers hB, World.ownsRow.mono h.ways hB, O3R.mono hB h.tabs⟩
theorem Cfo.rd {B : Nat} {w : World} {tv pv wv bv : Value} {T : List (List Pt)} {P : List (Int × Int)} {Q : List Wa} {BB : List (List (List Rl))} (h : Cfo B w tv pv wv bv T P Q BB) : PsT w tv T ∧ Pe w pv P ∧ Wy w wv Q ∧ RuQ w bv BB :=
  ⟨O2P.rd h.ports, (own_rde h.peers len_a).pe (own_len h.peers), (own_rde h.ways len_w).wy (own_len h.ways), O3R.rd h.tabs⟩
theorem ownsRow_low {w : World} {base : Nat} {e : TypeId} {size : Nat} {v : Value} {n : Nat} {xs : List Value} (h : w.ownsRow base e size v n xs) {g i : Nat} (hg : g < base) (u : Value) : (w.setCell ⟨g, i, none⟩ u).ownsRow base e size v n xs := ownsRow_setCell_below h hg u
theorem OwG.low {β : Type} {te : TypeId} {B g : Nat} (hg : g < B) {R : World → Value → β → Prop} (hR : ∀ (w : World) (i : Nat) (u s : Value) (x : β), R w s x → R (w.setCell ⟨g, i, none⟩ u) s x) {w : World} {i : Nat} {u v : Value} {T : List β} (h : OwG te R w B v T) : OwG te R (w.setCell ⟨g, i, none⟩ u) B v T := by
  obtain ⟨hs, h1, h2⟩ := h
  refine ⟨hs, ownsRow_low h1 hg u, fun j x hx => ?_⟩
  obtain ⟨s, e, hr⟩ := h2 j x hx
  exact ⟨s, e, hR _ _ _ _ _ hr⟩
theorem O1P.low {B g : Nat} (hg : g < B) : ∀ (w : World) (i : Nat) (u s : Value) (x : List Pt), O1P B w s x → O1P B (w.setCell ⟨g, i, none⟩ u) s x := fun _ _ u _ _ h => ownsRow_low h hg u
theorem O1R.low {B g : Nat} (hg : g < B) : ∀ (w : World) (i : Nat) (u s : Value) (x : List Rl), O1R B w s x → O1R B (w.setCell ⟨g, i, none⟩ u) s x := fun _ _ u _ _ h => ownsRow_low h hg u
theorem O2P.low {B g : Nat} (hg : g < B) : ∀ (w : World) (i : Nat) (u s : Value) (x : List (List Pt)), O2P B w s x → O2P B (w.setCell ⟨g, i, none⟩ u) s x := fun _ _ _ _ _ h => OwG.low hg (O1P.low hg) h
theorem O2R.low {B g : Nat} (hg : g < B) : ∀ (w : World) (i : Nat) (u s : Value) (x : List (List Rl)), O2R B w s x → O2R B (w.setCell ⟨g, i, none⟩ u) s x := fun _ _ _ _ _ h => OwG.low hg (O1R.low hg) h
theorem O3R.low {B g : Nat} (hg : g < B) : ∀ (w : World) (i : Nat) (u s : Value) (x : List (List (List Rl))), O3R B w s x → O3R B (w.setCell ⟨g, i, none⟩ u) s x := fun _ _ _ _ _ h => OwG.low hg (O2R.low hg) h
theorem Cfo.low {B g i : Nat} (hg : g < B) {w : World} {tv pv wv bv u : Value} {T : List (List Pt)} {P : List (Int × Int)} {Q : List Wa} {BB : List (List (List Rl))} (h : Cfo B w tv pv wv bv T P Q BB) : Cfo B (w.setCell ⟨g, i, none⟩ u) tv pv wv bv T P Q BB :=
  ⟨O2P.low hg _ _ _ _ _ h.ports, ownsRow_low h.peers hg u, ownsRow_low h.ways hg u, O3R.low hg _ _ _ _ _ h.tabs⟩
theorem Cfo.put5 {B g : Nat} (hg : g < B) {w : World} {tv pv wv bv : Value} {T : List (List Pt)} {P : List (Int × Int)} {Q : List Wa} {BB : List (List (List Rl))} (h : Cfo B w tv pv wv bv T P Q BB) (a0 a1 a2 a3 a4 : Value) : Cfo B (((((w.setCell ⟨g, 0, none⟩ a0).setCell ⟨g, 1, none⟩ a1).setCell ⟨g, 2, none⟩ a2).setCell ⟨g, 3, none⟩ a3).setCell ⟨g, 4, none⟩ a4) tv pv wv bv T P Q BB :=
  ((((h.low hg).low hg).low hg).low hg).low hg
/-- No list of a configuration is longer than memory reaches. -/
structure Szd (T : List (List Pt)) (P : List (Int × Int)) (Q : List Wa) (BB : List (List (List Rl))) : Prop where
  t : T.length ≤ 5864062014634
  l : ∀ L ∈ T, L.length ≤ 3518437208780
  p : P.length ≤ 8796093021952
  q : Q.length ≤ 5864062014634
  b : BB.length ≤ 5864062014634
  x : ∀ X ∈ BB, X.length ≤ 5864062014634
  r : ∀ X ∈ BB, ∀ L ∈ X, L.length ≤ 1466015503658
end Go.Proofs.Hd
namespace Go.Proofs
open Go.RowKit Go.Proofs.Hd Go.Lib
end Go.Proofs

namespace Go.Proofs.Hd
open Go.RowKit
/-- The row that may have been written is of element type t3. -/
def Rw (w : World) (row : Option Nat) (t3 : TypeId) : Prop := row = none ∨ ∃ g, row = some g ∧ TB w g t3
theorem own_rw {w : World} {base : Nat} {e : TypeId} {size : Nat} {v : Value} {n : Nat} {xs : List Value} (h : w.ownsRow base e size v n xs) : Rw w v.ownBlock e := by
  rcases h.2 with ⟨rfl, _⟩ | ⟨g, cap, cur, rfl, _, hg, _⟩
  · exact .inl rfl
  · exact .inr ⟨g, rfl, ⟨cur, (0, 0), hg⟩⟩
theorem own_kept {w w' : World} {base : Nat} {e t3 : TypeId} {size : Nat} {v : Value} {n : Nat} {xs : List Value} {row : Option Nat} (hr : Rw w row t3) (hne : e ≠ t3) (hg : w.grownBy w' row) (h : w.ownsRow base e size v n xs) : w'.ownsRow base e size v n xs := by
  refine h.kept hg ?_
  rcases hr with rfl | ⟨g, rfl, hb⟩
  · cases v.ownBlock with
    | none => exact .inl rfl
    | some k => exact .inr (by simp)
  · exact .inr fun e2 => own_apartT h hb hne e2.symm
theorem OwG.kept {β : Type} {te t3 : TypeId} (hne : te ≠ t3) {R : World → Value → β → Prop} {w w' : World} {row : Option Nat} (hR : ∀ s x, R w s x → R w' s x) {B : Nat} {v : Value} {T : List β} (hr : Rw w row t3) (hg : w.grownBy w' row) (h : OwG te R w B v T) : OwG te R w' B v T := by
  obtain ⟨hs, h1, h2⟩ := h
  refine ⟨hs, own_kept hr hne hg h1, fun i x hx => ?_⟩
  obtain ⟨s, e, h3⟩ := h2 i x hx
  exact ⟨s, e, hR s x h3⟩
/-- One more header. -/
theorem OwG.snoc {β : Type} {te : TypeId} {R : World → Value → β → Prop} {w w' : World} {B : Nat} {v v' s : Value} {T : List β} {x : β} {hs : List Value} (hR : ∀ s x, R w s x → R w' s x) (h1 : w.ownsRow B te 1 v T.length hs) (h2 : ∀ (i : Nat) (x : β), T[i]? = some x → ∃ s, hs[i]? = some s ∧ R w s x) (hx : R w s x) (h3 : w'.ownsRow B te 1 v' (T.length + 1) (hs ++ [s])) : OwG te R w' B v' (T ++ [x]) := by
  have hl : hs.length = T.length := by rw [h1.1, Nat.mul_one]
  refine ⟨hs ++ [s], by rw [List.length_append]; exact h3, fun i y hy => ?_⟩
  by_cases hi : i < T.length
  · rw [List.getElem?_append_left hi] at hy
    obtain ⟨s', e, h4⟩ := h2 i y hy
    exact ⟨s', by rw [List.getElem?_append_left (by omega)]; exact e, hR _ _ h4⟩
  · rw [List.getElem?_append_right (by omega)] at hy
    obtain ⟨e, e2⟩ := List.getElem?_eq_some_iff.1 hy
    simp at e
    have e3 : i - T.length = 0 := by omega
    subst e2
    refine ⟨s, by rw [List.getElem?_append_right (by omega), hl, e3]; rfl, ?_⟩
    have e4 : [x][i - T.length] = x := by simp [e3]
    rw [e4]
    exact hR _ _ hx
theorem Cfo.start {B : Nat} {w : World} : Cfo B w (.slice none 0 0) (.slice none 0 0) (.slice none 0 0) (.slice none 0 0) [] [] [] [] :=
  ⟨⟨[], World.ownsRow_nil _ _ _ _, fun i x hx => by simp at hx⟩, World.ownsRow_nil _ _ _ _, World.ownsRow_nil _ _ _ _, ⟨[], World.ownsRow_nil _ _ _ _, fun i x hx => by simp at hx⟩⟩
/-- A store into a box of type Config. -/
theorem Cfo.box {B b i : Nat} {u : Value} {w : World} {tv pv wv bv : Value} {T : List (List Pt)} {P : List (Int × Int)} {Q : List Wa} {BB : List (List (List Rl))} (hb : TB w b 31) (h : Cfo B w tv pv wv bv T P Q BB) : Cfo B (w.setCell ⟨b, i, none⟩ u) tv pv wv bv T P Q BB :=
  ⟨O2P.far (by decide) (by decide) _ _ _ _ _ _ hb h.ports, ownsRow_setCell_other h.peers (fun e => own_apartT h.peers hb (by decide) e.symm) u, ownsRow_setCell_other h.ways (fun e => own_apartT h.ways hb (by decide) e.symm) u,
    OwG.far (by decide) (O2R.far (by decide) (by decide)) hb h.tabs⟩
theorem O2R.app {B : Nat} {w w' : World} {v v' s : Value} {hs : List Value} {L : List (List Rl)} {x : List Rl} (o1 : w.ownsRow B 45 1 v L.length hs) (o2 : ∀ (i : Nat) (x : List Rl), L[i]? = some x → ∃ s, hs[i]? = some s ∧ O1R B w s x) (hx : O1R B w s x) (o3 : w'.ownsRow B 45 1 v' (L.length + 1) (hs ++ [s])) (hg : w.grownBy w' v.ownBlock) : O2R B w' v' (L ++ [x]) :=
  have hr := own_rw o1
  OwG.snoc (fun _ _ h => own_kept hr (by decide) hg h) o1 o2 hx o3
end Go.Proofs.Hd

namespace Go.Proofs.Ytanliiopdhjhjaa
open Go.ChangeShapes Go.WideShapes Go.ChangeAt Go.RowKit Go.Joins Go.Deep Go.Proofs.Hd
theorem cellsPair : Try.prog.cellsOf 121 = 2 := by kernel_rfl
theorem cellsWay : Try.prog.cellsOf 123 = 3 := by kernel_rfl
theorem cellsPol : Try.prog.cellsOf 28 = 3 := by kernel_rfl
theorem cellsCfg : Try.prog.cellsOf 31 = 5 := by kernel_rfl
theorem cellsPairs : Try.prog.cellsOf 25 = 1 := by kernel_rfl
theorem cellsWays : Try.prog.cellsOf 26 = 1 := by kernel_rfl
theorem cellsRss : Try.prog.cellsOf 84 = 1 := by kernel_rfl
theorem cellsRsss : Try.prog.cellsOf 29 = 1 := by kernel_rfl
theorem bytesPt : Try.prog.bytesOf 91 = 40 := by kernel_rfl
theorem bytesPts : Try.prog.bytesOf 89 = 24 := by kernel_rfl
theorem bytesPair : Try.prog.bytesOf 121 = 16 := by kernel_rfl
theorem bytesWay : Try.prog.bytesOf 123 = 24 := by kernel_rfl
theorem bytesRule : Try.prog.bytesOf 51 = 96 := by kernel_rfl
theorem bytesRs : Try.prog.bytesOf 45 = 24 := by kernel_rfl
theorem bytesRss : Try.prog.bytesOf 84 = 24 := by kernel_rfl
instance : Inhabited Rl := ⟨⟨0, ⟨0#64, 0#64, 0#64, 0#64⟩, 0, 0, 0, ⟨0#64, 0#64, 0#64, 0#64⟩⟩⟩
instance : Inhabited Wa := ⟨⟨0, 0, 0⟩⟩
theorem weights_all {H : Type} {P : Program} {e : TypeId} : ∀ {l : List (DataW H)} {d : DataW H}, d ∈ l → ∀ n ∈ d.weights P e, n ∈ DataW.weightsAll P e l
  | d' :: r, d, hd, n, hn => by
    simp only [DataW.weightsAll, List.mem_append]
    rcases List.mem_cons.1 hd with rfl | h
    · exact Or.inl hn
    · exact Or.inr (weights_all h n hn)
/-- No weight of a datum is over memory's reach. -/
def Lite {H : Type} (t : TypeId) (d : DataW H) : Prop := ∀ m ∈ d.weights Try.prog t, m ≤ reachBytes
section
variable {H : Type} {enc : TypeId × Value → H} {W : World}
theorem read_slice {α : Type} [Inhabited α] {tS tE : TypeId} (hu : Try.prog.underlying tS = some (.slice tE)) {K : Nat} (hK : Try.prog.cellsOf tE = K) (hK0 : 0 < K) (Rd : List Value → α → Prop) (Sz : α → Prop)
    (hel : ∀ n cs (y : DataW H × List MemPlace), cs.length = K → DataW.trod enc Try.prog W 0 (fun _ => true) true n tE cs = some y → ∃ x, Rd cs x ∧ (Lite tE y.1 → Sz x))
    {n : Nat} {cs : List Value} {y : DataW H × List MemPlace} (hf : DataW.trod enc Try.prog W 0 (fun _ => true) true n tS cs = some y) :
    ∃ (A : Option Addr) (cap : Nat) (L : List α), cs = [.slice A L.length cap] ∧ L.length ≤ maxLen ∧ (L ≠ [] → ∃ b o, A = some ⟨b, o, none⟩ ∧ b < W.heap.size ∧ ∀ (k : Nat) (x : α), L[k]? = some x → ∃ cs', Rd cs' x ∧ ∀ (j : Nat) (u : Value), cs'[j]? = some u → W.cell? ⟨b, o + k * K + j, none⟩ = some u) ∧
      (Lite tS y.1 → L.length * Try.prog.bytesOf tE ≤ reachBytes ∧ ∀ x ∈ L, Sz x) := by
  rcases open_slice hu hf with ⟨h1, _⟩ | ⟨a, len, cap, m, n, D, Pl, hcs, _, hlc, hcm, hm, hx, hel2⟩
  · exact ⟨none, 0, [], h1, Nat.zero_le _, fun h => absurd rfl h, fun _ => ⟨by simp, fun x hx => absurd hx List.not_mem_nil⟩⟩
  · rw [hK] at hel2
    have hm' : m = cap := by simpa using hm
    subst hm'
    obtain ⟨f, hfr⟩ := choose_lt (α := α) (p := fun i x => (∃ cs', Rd cs' x ∧ cs'.length = K ∧ ∀ (j : Nat) (u : Value), cs'[j]? = some u → W.cell? ((a.add (i * K)).add j) = some u) ∧ (Lite tE (D i) → Sz x)) (fun i (hi : i < m) => by
      obtain ⟨cs', hc, ht⟩ := hel2 i hi
      obtain ⟨_, hl, hat⟩ := World.cells?_some hc
      obtain ⟨x, hr, hz⟩ := hel _ _ _ hl ht
      refine ⟨x, ⟨cs', hr, hl, fun j u hj => ?_⟩, hz⟩
      have hj' : j < K := by have := (List.getElem?_eq_some_iff.1 hj).1; omega
      exact (hat j hj').trans hj)
    have hlen : ((List.range len).map f).length = len := by simp
    have hd := congrArg Prod.fst hx
    refine ⟨some a, m, (List.range len).map f, by rw [hlen]; exact hcs, by rw [hlen]; exact Nat.le_trans hlc hcm, fun hne => ?_, fun hz => ?_⟩
    · have h0 : 0 < len := by
        rcases Nat.eq_zero_or_pos len with h | h
        · subst h; exact absurd (by simp) hne
        · exact h
      obtain ⟨⟨cs0, -, hl0, hc0⟩, -⟩ := hfr 0 (by omega)
      obtain ⟨u0, hu0⟩ : ∃ u, cs0[0]? = some u := ⟨_, List.getElem?_eq_getElem (by omega)⟩
      have h1 := hc0 0 u0 hu0
      obtain ⟨b, off, spot⟩ := a
      have hs : spot = none := by
        have := World.cell?_spot h1
        simpa [Addr.add] using this
      subst hs
      have hlt := World.block_lt_of_cell? W _ h1
      rw [add_plainW, add_plainW] at hlt
      refine ⟨b, off, rfl, hlt, fun k x hk => ?_⟩
      obtain ⟨hkl, rfl⟩ := List.getElem?_eq_some_iff.1 hk
      simp only [List.length_map, List.length_range] at hkl
      simp only [List.getElem_map, List.getElem_range]
      obtain ⟨⟨cs', hr, -, hc⟩, -⟩ := hfr k (by omega)
      refine ⟨cs', hr, fun j u hj => ?_⟩
      have := hc j u hj
      rw [add_plainW, add_plainW] at this
      exact this
    · rw [hd] at hz
      unfold Lite at hz
      simp only [DataW.weights, hu] at hz
      refine ⟨?_, fun x hx => ?_⟩
      · have h1 := hz _ (List.mem_cons_self ..)
        rw [hlen]
        simp only [List.length_map, List.length_range] at h1
        exact Nat.le_trans (Nat.mul_le_mul_right _ (by omega)) h1
      · obtain ⟨i, hi, rfl⟩ := List.mem_map.1 hx
        have hi2 := List.mem_range.1 hi
        refine (hfr i (by omega)).2 fun q hq => hz q (List.mem_cons_of_mem _ (List.mem_append_left _ (weights_all (List.mem_map.2 ⟨i, hi, rfl⟩) q hq)))
theorem rd_pt : ∀ n cs (y : DataW H × List MemPlace), cs.length = 5 → DataW.trod enc Try.prog W 0 (fun _ => true) true n 91 cs = some y → ∃ x : Pt, cs = x.cs ∧ (Lite 91 y.1 → True) := fun _ _ _ hl h => by
  obtain ⟨p, e⟩ := read_pt hl h
  exact ⟨p, e, fun _ => trivial⟩
theorem rd_rl : ∀ n cs (y : DataW H × List MemPlace), cs.length = 12 → DataW.trod enc Try.prog W 0 (fun _ => true) true n 51 cs = some y → ∃ x : Rl, cs = x.cs ∧ (Lite 51 y.1 → True) := fun _ _ _ hl h => by
  obtain ⟨p, e⟩ := read_rule hl h
  exact ⟨p, e, fun _ => trivial⟩
set_option maxRecDepth 100000 in
theorem rd_way : ∀ n cs (y : DataW H × List MemPlace), cs.length = 3 → DataW.trod enc Try.prog W 0 (fun _ => true) true n 123 cs = some y → ∃ x : Wa, cs = x.cs ∧ (Lite 123 y.1 → True) := fun _ cs _ hl h0 => by
  obtain ⟨xs, m, _, _, _, hxs, hf⟩ := DataW.trod_struct Try.underlying123 h0
  have hx3 : xs.length = 3 := hxs
  match cs, hl with
  | [c0, c1, c2], _ =>
    match xs, hx3 with
    | [x0, x1, x2], _ =>
      have q0 := hf 0 _ rfl
      have q1 := hf 1 _ rfl
      have q2 := hf 2 _ rfl
      simp [cellsI] at q0 q1 q2
      obtain ⟨k0, rfl⟩ := int_of q0
      obtain ⟨k1, rfl⟩ := int_of q1
      obtain ⟨k2, rfl⟩ := int_of q2
      exact ⟨⟨k0, k1, k2⟩, rfl, fun _ => trivial⟩
set_option maxRecDepth 100000 in
theorem rd_pair : ∀ n cs (y : DataW H × List MemPlace), cs.length = 2 → DataW.trod enc Try.prog W 0 (fun _ => true) true n 121 cs = some y → ∃ x : Int × Int, cs = encA x ∧ (Lite 121 y.1 → True) := fun _ cs _ hl h0 => by
  obtain ⟨xs, m, _, _, _, hxs, hf⟩ := DataW.trod_array Try.underlying121 h0
  match cs, hl with
  | [c0, c1], _ =>
    match xs, hxs with
    | [x0, x1], _ =>
      have q0 := hf 0 (by decide)
      have q1 := hf 1 (by decide)
      simp [cellsI] at q0 q1
      obtain ⟨k0, rfl⟩ := int_of q0
      obtain ⟨k1, rfl⟩ := int_of q1
      exact ⟨(k0, k1), rfl, fun _ => trivial⟩
theorem rd_ps : ∀ n cs (y : DataW H × List MemPlace), cs.length = 1 → DataW.trod enc Try.prog W 0 (fun _ => true) true n 89 cs = some y → ∃ L : List Pt, (∃ s, cs = [s] ∧ Ps W s L) ∧ (Lite 89 y.1 → L.length ≤ 3518437208780) := fun _ _ _ _ h => by
  obtain ⟨A, cap, L, rfl, hm, hc, hz⟩ := read_slice Try.underlying89 cellsPt (by decide) (fun cs (x : Pt) => cs = x.cs) (fun _ => True) rd_pt h
  refine ⟨L, ⟨_, rfl, RdE.ps ⟨A, cap, rfl, fun hne => ?_⟩ hm⟩, fun hl => ?_⟩
  · obtain ⟨b, o, e, hb, hk⟩ := hc hne
    refine ⟨b, o, e, hb, fun i x hx j u hu => ?_⟩
    obtain ⟨cs', rfl, h2⟩ := hk i x hx
    exact h2 j u hu
  · have := (hz hl).1
    rw [bytesPt] at this
    unfold reachBytes at this
    omega
theorem rd_ru : ∀ n cs (y : DataW H × List MemPlace), cs.length = 1 → DataW.trod enc Try.prog W 0 (fun _ => true) true n 45 cs = some y → ∃ L : List Rl, (∃ s, cs = [s] ∧ Ru W s L ∧ L.length ≤ maxLen) ∧ (Lite 45 y.1 → L.length ≤ 1466015503658) := fun _ _ _ _ h => by
  obtain ⟨A, cap, L, rfl, hm, hc, hz⟩ := read_slice Try.underlying45 cellsRule (by decide) (fun cs (x : Rl) => cs = x.cs) (fun _ => True) rd_rl h
  refine ⟨L, ⟨_, rfl, RdE.ru ⟨A, cap, rfl, fun hne => ?_⟩, hm⟩, fun hl => ?_⟩
  · obtain ⟨b, o, e, hb, hk⟩ := hc hne
    refine ⟨b, o, e, hb, fun i x hx j u hu => ?_⟩
    obtain ⟨cs', rfl, h2⟩ := hk i x hx
    exact h2 j u hu
  · have := (hz hl).1
    rw [bytesRule] at this
    unfold reachBytes at this
    omega
theorem rd_rut : ∀ n cs (y : DataW H × List MemPlace), cs.length = 1 → DataW.trod enc Try.prog W 0 (fun _ => true) true n 84 cs = some y → ∃ X : List (List Rl), (∃ s, cs = [s] ∧ RuT W s X) ∧ (Lite 84 y.1 → X.length ≤ 5864062014634 ∧ ∀ L ∈ X, L.length ≤ 1466015503658) := fun _ _ _ _ h => by
  obtain ⟨A, cap, X, rfl, hm, hc, hz⟩ := read_slice Try.underlying84 cellsRules (by decide) _ _ rd_ru h
  refine ⟨X, ⟨_, rfl, A, cap, rfl, hm, fun L hL => ?_, fun hne => ?_⟩, fun hl => ?_⟩
  · obtain ⟨i, hi⟩ := List.getElem?_of_mem hL
    obtain ⟨b, o, e, hb, hk⟩ := hc (by rintro rfl; simp at hi)
    obtain ⟨cs', ⟨s, rfl, h2, h3⟩, h4⟩ := hk i L hi
    exact h3
  · obtain ⟨b, o, e, hb, hk⟩ := hc hne
    refine ⟨b, o, e, hb, fun i x hx => ?_⟩
    obtain ⟨cs', ⟨s, rfl, h2, h3⟩, h4⟩ := hk i x hx
    have h5 := h4 0 s rfl
    rw [Nat.mul_one, Nat.add_zero] at h5
    exact ⟨s, h5, h2⟩
  · have h1 := (hz hl).1
    rw [bytesRs] at h1
    unfold reachBytes at h1
    exact ⟨by omega, (hz hl).2⟩
theorem rd_pst {n : Nat} {c : Value} {y : DataW H × List MemPlace} (h : DataW.trod enc Try.prog W 0 (fun _ => true) true n 22 [c] = some y) : ∃ T : List (List Pt), PsT W c T ∧ (Lite 22 y.1 → T.length ≤ 5864062014634 ∧ ∀ L ∈ T, L.length ≤ 3518437208780) := by
  obtain ⟨A, cap, T, e, hm, hc, hz⟩ := read_slice Try.underlying22 cellsPts (by decide) _ _ rd_ps h
  injection e with e
  subst e
  refine ⟨T, ⟨A, cap, rfl, hm, fun hne => ?_⟩, fun hl => ?_⟩
  · obtain ⟨b, o, e, hb, hk⟩ := hc hne
    refine ⟨b, o, e, hb, fun i x hx => ?_⟩
    obtain ⟨cs', ⟨s, rfl, h2⟩, h4⟩ := hk i x hx
    have h5 := h4 0 s rfl
    rw [Nat.mul_one, Nat.add_zero] at h5
    exact ⟨s, h5, h2⟩
  · have h1 := (hz hl).1
    rw [bytesPts] at h1
    unfold reachBytes at h1
    exact ⟨by omega, (hz hl).2⟩
theorem rd_ruq {n : Nat} {c : Value} {y : DataW H × List MemPlace} (h : DataW.trod enc Try.prog W 0 (fun _ => true) true n 29 [c] = some y) : ∃ B : List (List (List Rl)), RuQ W c B ∧ (Lite 29 y.1 → B.length ≤ 5864062014634 ∧ ∀ X ∈ B, X.length ≤ 5864062014634 ∧ ∀ L ∈ X, L.length ≤ 1466015503658) := by
  obtain ⟨A, cap, B, e, hm, hc, hz⟩ := read_slice Try.underlying29 cellsRss (by decide) _ _ rd_rut h
  injection e with e
  subst e
  refine ⟨B, ⟨A, cap, rfl, hm, fun hne => ?_⟩, fun hl => ?_⟩
  · obtain ⟨b, o, e, hb, hk⟩ := hc hne
    refine ⟨b, o, e, hb, fun i x hx => ?_⟩
    obtain ⟨cs', ⟨s, rfl, h2⟩, h4⟩ := hk i x hx
    have h5 := h4 0 s rfl
    rw [Nat.mul_one, Nat.add_zero] at h5
    exact ⟨s, h5, h2⟩
  · have h1 := (hz hl).1
    rw [bytesRss] at h1
    unfold reachBytes at h1
    exact ⟨by omega, (hz hl).2⟩
theorem rd_pe {n : Nat} {c : Value} {y : DataW H × List MemPlace} (h : DataW.trod enc Try.prog W 0 (fun _ => true) true n 25 [c] = some y) : ∃ P : List (Int × Int), Pe W c P ∧ (Lite 25 y.1 → P.length ≤ 8796093021952) := by
  obtain ⟨A, cap, P, e, hm, hc, hz⟩ := read_slice Try.underlying25 cellsPair (by decide) (fun cs x => cs = encA x) (fun _ => True) rd_pair h
  injection e with e
  subst e
  refine ⟨P, RdE.pe ⟨A, cap, rfl, fun hne => ?_⟩ hm, fun hl => ?_⟩
  · obtain ⟨b, o, e, hb, hk⟩ := hc hne
    refine ⟨b, o, e, hb, fun i x hx j u hu => ?_⟩
    obtain ⟨cs', rfl, h2⟩ := hk i x hx
    exact h2 j u hu
  · have := (hz hl).1
    rw [bytesPair] at this
    unfold reachBytes at this
    omega
theorem rd_wy {n : Nat} {c : Value} {y : DataW H × List MemPlace} (h : DataW.trod enc Try.prog W 0 (fun _ => true) true n 26 [c] = some y) : ∃ Q : List Wa, Wy W c Q ∧ (Lite 26 y.1 → Q.length ≤ 5864062014634) := by
  obtain ⟨A, cap, Q, e, hm, hc, hz⟩ := read_slice Try.underlying26 cellsWay (by decide) (fun cs (x : Wa) => cs = x.cs) (fun _ => True) rd_way h
  injection e with e
  subst e
  refine ⟨Q, RdE.wy ⟨A, cap, rfl, fun hne => ?_⟩ hm, fun hl => ?_⟩
  · obtain ⟨b, o, e, hb, hk⟩ := hc hne
    refine ⟨b, o, e, hb, fun i x hx j u hu => ?_⟩
    obtain ⟨cs', rfl, h2⟩ := hk i x hx
    exact h2 j u hu
  · have := (hz hl).1
    rw [bytesWay] at this
    unfold reachBytes at this
    omega
set_option maxRecDepth 100000 in
theorem rd_pol {n : Nat} {c0 c1 c2 : Value} {y : DataW H × List MemPlace} (h : DataW.trod enc Try.prog W 0 (fun _ => true) true n 28 [c0, c1, c2] = some y) : ∃ (ten : Int) (P : List (Int × Int)) (Q : List Wa), c0 = .int .i64 ten ∧ Pe W c1 P ∧ Wy W c2 Q ∧ (Lite 28 y.1 → P.length ≤ 8796093021952 ∧ Q.length ≤ 5864062014634) := by
  obtain ⟨xs, m, _, hx, _, hxs, hf⟩ := DataW.trod_struct Try.underlying28 h
  have hx3 : xs.length = 3 := hxs
  match xs, hx3 with
  | [x0, x1, x2], _ =>
    have q0 := hf 0 _ rfl
    have q1 := hf 1 _ rfl
    have q2 := hf 2 _ rfl
    simp [cellsI, cellsPairs, cellsWays] at q0 q1 q2
    obtain ⟨ten, rfl⟩ := int_of q0
    obtain ⟨P, hP, zP⟩ := rd_pe q1
    obtain ⟨Q, hQ, zQ⟩ := rd_wy q2
    refine ⟨ten, P, Q, rfl, hP, hQ, fun hl => ?_⟩
    have hd := congrArg Prod.fst hx
    rw [hd] at hl
    unfold Lite at hl
    simp [DataW.weights, DataW.weightsEach, Try.underlying28] at hl
    exact ⟨zP fun m hm => hl m (.inr (.inl hm)), zQ fun m hm => hl m (.inr (.inr hm))⟩
set_option maxRecDepth 100000 in
/-- A configuration by value. -/
theorem open_cfg {base : Nat} {v : Value} {d : DataW H} {p : List MemPlace} (hok : Value.okWide Try.prog W .any base 31 v) (h0 : DataW.Trod enc Try.prog W 0 (fun _ => true) true 31 v d p) :
    ∃ (tv : Value) (T : List (List Pt)) (ten : Int) (pv : Value) (P : List (Int × Int)) (wv : Value) (Q : List Wa) (bv : Value) (B : List (List (List Rl))), v = .agg #[tv, .int .i64 ten, pv, wv, bv] ∧ PsT W tv T ∧ Pe W pv P ∧ Wy W wv Q ∧ RuQ W bv B ∧ (Lite 31 d → Szd T P Q B) := by
  obtain ⟨cs, rfl, hsz⟩ := okWide_struct Try.underlying31 hok
  obtain ⟨fuel, hf0⟩ := h0
  have hf : DataW.trod enc Try.prog W 0 (fun _ => true) true fuel 31 cs.toList = some (d, p) := by simpa [Value.cells] using hf0
  have hc5 : cs.toList.length = 5 := by simpa using hsz.trans cellsCfg
  obtain ⟨l, hl⟩ : ∃ l, cs.toList = l := ⟨_, rfl⟩
  rw [hl] at hf hc5
  match l, hc5 with
  | [c0, c1, c2, c3, c4], _ =>
    obtain ⟨xs, m, _, hx, _, hxs, hff⟩ := DataW.trod_struct Try.underlying31 hf
    have hx3 : xs.length = 3 := hxs
    match xs, hx3 with
    | [x0, x1, x2], _ =>
      have q0 := hff 0 _ rfl
      have q1 := hff 1 _ rfl
      have q2 := hff 2 _ rfl
      simp [cellsTopo, cellsPol, cellsRsss] at q0 q1 q2
      obtain ⟨ys, m2, _, hy, _, hys, hfy⟩ := DataW.trod_struct Try.underlying24 q0
      have hy1 : ys.length = 1 := hys
      match ys, hy1 with
      | [y0], _ =>
        have r0 := hfy 0 _ rfl
        simp [cellsPtt] at r0
        obtain ⟨T, hT, zT⟩ := rd_pst r0
        obtain ⟨ten, P, Q, rfl, hP, hQ, zP⟩ := rd_pol q1
        obtain ⟨B, hB, zB⟩ := rd_ruq q2
        refine ⟨c0, T, ten, c2, P, c3, Q, c4, B, by congr 1; apply Array.toList_inj.1; rw [hl], hT, hP, hQ, hB, fun hz => ?_⟩
        have hd := congrArg Prod.fst hx
        simp only at hd
        have hd0 := congrArg Prod.fst hy
        rw [hd] at hz
        unfold Lite at hz
        simp [DataW.weights, DataW.weightsEach, Try.underlying31] at hz
        have z0 := zT fun m hm => hz m (.inl (by rw [hd0]; simp [DataW.weights, DataW.weightsEach, Try.underlying24]; exact hm))
        have z1 := zP fun m hm => hz m (.inr (.inl hm))
        have z2 := zB fun m hm => hz m (.inr (.inr hm))
        exact ⟨z0.1, z0.2, z1.1, z1.2, z2.1, fun X hX => (z2.2 X hX).1, fun X hX => (z2.2 X hX).2⟩
end
end Go.Proofs.Ytanliiopdhjhjaa

namespace Go.Proofs.Hd
variable {α : Type}

/-! ### added once each -/
/-- x behind l, if it is not there. -/
def addC [DecidableEq α] (l : List α) (x : α) : List α := if x ∈ l then l else l ++ [x]
theorem addC_in [DecidableEq α] {l : List α} {x : α} (h : x ∈ l) : addC l x = l := by unfold addC; rw [if_pos h]
theorem addC_new [DecidableEq α] {l : List α} {x : α} (h : x ∉ l) : addC l x = l ++ [x] := by unfold addC; rw [if_neg h]
theorem addC_pre [DecidableEq α] (l : List α) (x : α) : l <+: addC l x := by
  by_cases h : x ∈ l
  · rw [addC_in h]; exact List.prefix_refl l
  · rw [addC_new h]; exact List.prefix_append l [x]
theorem addC_mem [DecidableEq α] {l : List α} {x y : α} : y ∈ addC l x ↔ y ∈ l ∨ y = x := by
  by_cases h : x ∈ l
  · rw [addC_in h]
    constructor
    · exact .inl
    · rintro (h' | rfl)
      · exact h'
      · exact h
  · rw [addC_new h]; simp
theorem addC_nodup [DecidableEq α] {l : List α} {x : α} (hl : l.Nodup) : (addC l x).Nodup := by
  by_cases h : x ∈ l
  · rw [addC_in h]; exact hl
  · rw [addC_new h, List.nodup_append]
    refine ⟨hl, by simp, ?_⟩
    intro a ha b hb e
    rw [List.mem_singleton] at hb
    rw [← hb, ← e] at h
    exact h ha
theorem addC_len [DecidableEq α] (l : List α) (x : α) : (addC l x).length ≤ l.length + 1 := by
  by_cases h : x ∈ l
  · rw [addC_in h]; omega
  · rw [addC_new h]; simp
/-- All of xs behind l, each once. -/
def addsC [DecidableEq α] (l xs : List α) : List α := xs.foldl addC l
theorem addsC_snoc [DecidableEq α] (l xs : List α) (x : α) : addsC l (xs ++ [x]) = addC (addsC l xs) x := by unfold addsC; rw [List.foldl_append]; rfl
theorem addsC_mem [DecidableEq α] {xs : List α} {y : α} : ∀ {l : List α}, y ∈ addsC l xs ↔ y ∈ l ∨ y ∈ xs := by
  induction xs with
  | nil => intro l; simp [addsC]
  | cons x xs ih =>
    intro l
    have : addsC l (x :: xs) = addsC (addC l x) xs := rfl
    rw [this, ih, addC_mem, List.mem_cons, or_assoc]
theorem addsC_nodup [DecidableEq α] {xs : List α} : ∀ {l : List α}, l.Nodup → (addsC l xs).Nodup := by
  induction xs with
  | nil => intro l h; exact h
  | cons x xs ih => intro l h; exact ih (addC_nodup h)
theorem addsC_len [DecidableEq α] (xs : List α) : ∀ l : List α, (addsC l xs).length ≤ l.length + xs.length := by
  induction xs with
  | nil => intro l; simp [addsC]
  | cons x xs ih =>
    intro l
    have h1 := ih (addC l x)
    have h2 := addC_len l x
    have : addsC l (x :: xs) = addsC (addC l x) xs := rfl
    rw [this, List.length_cons]
    omega

/-! ### closed under a partial function -/
/-- What one element asks for, added. -/
def askC [DecidableEq α] (l : List α) (o : Option α) : List α := match o with
  | some p => addC l p
  | none => l
theorem askC_pre [DecidableEq α] (l : List α) (o : Option α) : l <+: askC l o := by
  cases o with
  | none => exact List.prefix_refl l
  | some p => exact addC_pre l p
theorem askC_nodup [DecidableEq α] {l : List α} (o : Option α) (h : l.Nodup) : (askC l o).Nodup := by
  cases o with
  | none => exact h
  | some p => exact addC_nodup h
theorem askC_len [DecidableEq α] (l : List α) (o : Option α) : (askC l o).length ≤ l.length + 1 := by
  cases o with
  | none => exact Nat.le_add_right _ _
  | some p => exact addC_len l p
/-- All that c asks for, by each of S in order. -/
def askS [DecidableEq α] (bf : α → α → Option α) (S : List α) (c : α) (l : List α) : List α := S.foldl (fun l s => askC l (bf c s)) l
theorem askS_take [DecidableEq α] {bf : α → α → Option α} {S : List α} {c s : α} {l : List α} {k : Nat} (h : S[k]? = some s) : askS bf (S.take (k + 1)) c l = askC (askS bf (S.take k) c l) (bf c s) := by
  rw [List.take_add_one, h, Option.toList_some]
  unfold askS
  rw [List.foldl_append]
  rfl
theorem askS_pre [DecidableEq α] (bf : α → α → Option α) (S : List α) (c : α) : ∀ l : List α, l <+: askS bf S c l := by
  induction S with
  | nil => intro l; exact List.prefix_refl l
  | cons s S ih => intro l; exact (askC_pre l (bf c s)).trans (ih _)
theorem askS_nodup [DecidableEq α] (bf : α → α → Option α) (S : List α) (c : α) : ∀ {l : List α}, l.Nodup → (askS bf S c l).Nodup := by
  induction S with
  | nil => intro l h; exact h
  | cons s S ih => intro l h; exact ih (askC_nodup _ h)
theorem askS_len [DecidableEq α] (bf : α → α → Option α) (S : List α) (c : α) : ∀ l : List α, (askS bf S c l).length ≤ l.length + S.length := by
  induction S with
  | nil => intro l; simp [askS]
  | cons s S ih =>
    intro l
    have h1 := ih (askC l (bf c s))
    have h2 := askC_len l (bf c s)
    have : askS bf (s :: S) c l = askS bf S c (askC l (bf c s)) := rfl
    rw [this, List.length_cons]
    omega
theorem askS_all [DecidableEq α] (bf : α → α → Option α) (S : List α) (c : α) : ∀ (l : List α) (s p : α), s ∈ S → bf c s = some p → p ∈ askS bf S c l := by
  induction S with
  | nil => intro l s p h; cases h
  | cons t S ih =>
    intro l s p h hp
    have e : askS bf (t :: S) c l = askS bf S c (askC l (bf c t)) := rfl
    rw [e]
    rcases List.mem_cons.1 h with rfl | h
    · refine (askS_pre bf S c _).subset ?_
      rw [hp]
      exact addC_mem.2 (.inr rfl)
    · exact ih _ s p h hp
/-- What holds of the list and of all that is asked for holds of all. -/
theorem askS_ok [DecidableEq α] {Q : α → Prop} (bf : α → α → Option α) (S : List α) (c : α) (hb : ∀ s p, s ∈ S → bf c s = some p → Q p) : ∀ l : List α, (∀ x, x ∈ l → Q x) → ∀ x, x ∈ askS bf S c l → Q x := by
  induction S with
  | nil => intro l h; exact h
  | cons t S ih =>
    intro l h
    refine ih (fun s p hs => hb s p (List.mem_cons_of_mem _ hs)) (askC l (bf c t)) ?_
    intro x hx
    cases e : bf c t with
    | none => rw [e] at hx; exact h x hx
    | some p =>
      rw [e] at hx
      rcases addC_mem.1 hx with hx | rfl
      · exact h x hx
      · exact hb t x List.mem_cons_self e

/-- From element i on, as long as there is one and they are not more than M; k bounds the rounds. -/
def cloC [DecidableEq α] (bf : α → α → Option α) (S : List α) (M : Nat) : Nat → Nat → List α → List α
  | 0, _, l => l
  | k + 1, i, l => match l[i]? with
    | some c => if l.length ≤ M then cloC bf S M k (i + 1) (askS bf S c l) else l
    | none => l
theorem cloC_end [DecidableEq α] (bf : α → α → Option α) (S : List α) (M k i : Nat) (l : List α) (h : l.length ≤ i) : cloC bf S M k i l = l := by
  cases k with
  | zero => rfl
  | succ k => unfold cloC; rw [List.getElem?_eq_none h]
theorem cloC_big [DecidableEq α] (bf : α → α → Option α) (S : List α) (M k i : Nat) (l : List α) (h : M < l.length) : cloC bf S M k i l = l := by
  cases k with
  | zero => rfl
  | succ k =>
    unfold cloC
    cases l[i]? with
    | none => rfl
    | some c => show (if l.length ≤ M then _ else l) = l; rw [if_neg (by omega)]
theorem cloC_step [DecidableEq α] {bf : α → α → Option α} {S : List α} {M k i : Nat} {l : List α} {c : α} (hc : l[i]? = some c) (h : l.length ≤ M) : cloC bf S M (k + 1) i l = cloC bf S M k (i + 1) (askS bf S c l) := by
  rw [cloC, hc]
  show (if l.length ≤ M then _ else l) = _
  rw [if_pos h]
theorem cloC_pre [DecidableEq α] (bf : α → α → Option α) (S : List α) (M : Nat) : ∀ (k i : Nat) (l : List α), l <+: cloC bf S M k i l := by
  intro k
  induction k with
  | zero => intro i l; exact List.prefix_refl l
  | succ k ih =>
    intro i l
    by_cases h : l.length ≤ M
    · cases hc : l[i]? with
      | none => rw [cloC_end bf S M _ i l (List.getElem?_eq_none_iff.1 hc)]; exact List.prefix_refl l
      | some c => rw [cloC_step hc h]; exact (askS_pre bf S c l).trans (ih _ _)
    · rw [cloC_big bf S M _ i l (by omega)]; exact List.prefix_refl l
theorem cloC_nodup [DecidableEq α] (bf : α → α → Option α) (S : List α) (M : Nat) : ∀ (k i : Nat) (l : List α), l.Nodup → (cloC bf S M k i l).Nodup := by
  intro k
  induction k with
  | zero => intro i l h; exact h
  | succ k ih =>
    intro i l hn
    by_cases h : l.length ≤ M
    · cases hc : l[i]? with
      | none => rw [cloC_end bf S M _ i l (List.getElem?_eq_none_iff.1 hc)]; exact hn
      | some c => rw [cloC_step hc h]; exact ih _ _ (askS_nodup bf S c hn)
    · rw [cloC_big bf S M _ i l (by omega)]; exact hn
theorem cloC_ok [DecidableEq α] {Q : α → Prop} (bf : α → α → Option α) (S : List α) (M : Nat) (hb : ∀ c s p, Q c → s ∈ S → bf c s = some p → Q p) : ∀ (k i : Nat) (l : List α), (∀ x, x ∈ l → Q x) → ∀ x, x ∈ cloC bf S M k i l → Q x := by
  intro k
  induction k with
  | zero => intro i l h; exact h
  | succ k ih =>
    intro i l hn
    by_cases h : l.length ≤ M
    · cases hc : l[i]? with
      | none => rw [cloC_end bf S M _ i l (List.getElem?_eq_none_iff.1 hc)]; exact hn
      | some c => rw [cloC_step hc h]; exact ih _ _ (askS_ok bf S c (fun s p hs hp => hb c s p (hn c (List.mem_of_getElem? hc)) hs hp) l hn)
    · rw [cloC_big bf S M _ i l (by omega)]; exact hn
/-- With rounds enough, what is no more than M is closed. -/
theorem cloC_closed [DecidableEq α] (bf : α → α → Option α) (S : List α) (M : Nat) : ∀ (k i : Nat) (l : List α), M + 1 ≤ k + i → (∀ (j : Nat) (c s p : α), j < i → l[j]? = some c → s ∈ S → bf c s = some p → p ∈ l) →
    (cloC bf S M k i l).length ≤ M → ∀ c s p, c ∈ cloC bf S M k i l → s ∈ S → bf c s = some p → p ∈ cloC bf S M k i l := by
  intro k
  induction k with
  | zero =>
    intro i l hk hi hM c s p hc hs hp
    have e : cloC bf S M 0 i l = l := rfl
    rw [e] at hM hc ⊢
    obtain ⟨j, hj⟩ := List.mem_iff_getElem?.1 hc
    have hlt : j < l.length := by
      rcases Nat.lt_or_ge j l.length with h | h
      · exact h
      · rw [List.getElem?_eq_none h] at hj; cases hj
    exact hi j c s p (by omega) hj hs hp
  | succ k ih =>
    intro i l hk hi hM c s p hc hs hp
    by_cases h : l.length ≤ M
    · cases hd : l[i]? with
      | none =>
        have hn := List.getElem?_eq_none_iff.1 hd
        rw [cloC_end bf S M _ i l hn] at hc ⊢
        obtain ⟨j, hj⟩ := List.mem_iff_getElem?.1 hc
        have hlt : j < l.length := by
          rcases Nat.lt_or_ge j l.length with h | h
          · exact h
          · rw [List.getElem?_eq_none h] at hj; cases hj
        exact hi j c s p (by omega) hj hs hp
      | some d =>
        rw [cloC_step hd h] at hM hc ⊢
        refine ih (i + 1) (askS bf S d l) (by omega) ?_ hM c s p hc hs hp
        intro j c' s' p' hj hc' hs' hp'
        have hpre := askS_pre bf S d l
        have hi' : i < l.length := by
          rcases Nat.lt_or_ge i l.length with h | h
          · exact h
          · rw [List.getElem?_eq_none h] at hd; cases hd
        have hl : j < l.length := by omega
        have he : l[j]? = some c' := by
          obtain ⟨t, ht⟩ := hpre
          rw [← ht, List.getElem?_append_left hl] at hc'
          exact hc'
        rcases Nat.lt_or_ge j i with hlt | hge
        · exact hpre.subset (hi j c' s' p' hlt he hs' hp')
        · have : j = i := by omega
          subst this
          rw [hd] at he
          cases he
          exact askS_all bf S d l s' p' hs' hp'
    · rw [cloC_big bf S M _ i l (by omega)] at hM
      omega
/-! ### the stable order by a number, told by rows -/
/-- Those of number 0 in their order, then those of 1, .. below N. -/
def toldL (key : α → Nat) (N : Nat) (l : List α) : List α := (List.range N).flatMap fun n => l.filter fun x => decide (key x = n)
theorem toldL_snoc (key : α → Nat) (n : Nat) (l : List α) : toldL key (n + 1) l = toldL key n l ++ l.filter fun x => decide (key x = n) := by
  unfold toldL
  rw [List.range_succ, List.flatMap_append, List.flatMap_cons, List.flatMap_nil, List.append_nil]
theorem toldL_mem {key : α → Nat} {N : Nat} {l : List α} (hk : ∀ x, x ∈ l → key x < N) {x : α} : x ∈ toldL key N l ↔ x ∈ l := by
  unfold toldL
  rw [List.mem_flatMap]
  constructor
  · rintro ⟨n, _, h⟩
    exact (List.mem_filter.1 h).1
  · intro h
    exact ⟨key x, List.mem_range.2 (hk x h), List.mem_filter.2 ⟨h, by simp⟩⟩
/-- By the number, then by the place. -/
def ltK (key : α → Nat) (a b : α × Nat) : Prop := key a.1 < key b.1 ∨ (key a.1 = key b.1 ∧ a.2 < b.2)
theorem zip_inc (l : List α) (s : Nat) : (l.zipIdx s).Pairwise (fun a b => a.2 < b.2) := by
  rw [List.pairwise_iff_getElem]
  intro i j hi hj hij
  rw [List.getElem_zipIdx, List.getElem_zipIdx]
  show s + i < s + j
  omega
theorem tagged_inc (key : α → Nat) (N : Nat) (l : List α) : ((List.range N).flatMap fun n => l.zipIdx.filter fun x => decide (key x.1 = n)).Pairwise (ltK key) := by
  rw [List.pairwise_flatMap]
  constructor
  · intro n _
    refine List.Pairwise.imp_of_mem ?_ ((zip_inc l 0).filter _)
    intro a b ha hb h
    have h1 := of_decide_eq_true (List.mem_filter.1 ha).2
    have h2 := of_decide_eq_true (List.mem_filter.1 hb).2
    exact .inr ⟨h1.trans h2.symm, h⟩
  · refine List.Pairwise.imp ?_ List.pairwise_lt_range
    intro n m hnm a ha b hb
    have h1 := of_decide_eq_true (List.mem_filter.1 ha).2
    have h2 := of_decide_eq_true (List.mem_filter.1 hb).2
    left
    omega
theorem ltK_nodup {key : α → Nat} {q : List (α × Nat)} (h : q.Pairwise (ltK key)) : q.Nodup := by
  refine h.imp ?_
  rintro a b hab rfl
  rcases hab with h | ⟨_, h⟩ <;> omega
/-- A stable sort is the one told by rows: a permutation of the elements with their places, in order by number, then by place. -/
theorem told_unique {key : α → Nat} {N : Nat} {l : List α} (hk : ∀ x, x ∈ l → key x < N) {q : List (α × Nat)} (hp : q.Perm l.zipIdx) (hs : q.Pairwise (ltK key)) : q.map Prod.fst = toldL key N l := by
  have hq := tagged_inc key N l
  have hperm : q.Perm ((List.range N).flatMap fun n => l.zipIdx.filter fun x => decide (key x.1 = n)) := by
    rw [List.perm_ext_iff_of_nodup (ltK_nodup hs) (ltK_nodup hq)]
    intro a
    rw [hp.mem_iff, List.mem_flatMap]
    constructor
    · intro h
      have hm : a.1 ∈ l := by
        have := List.mem_map_of_mem (f := Prod.fst) h
        rw [List.zipIdx_map_fst] at this
        exact this
      exact ⟨key a.1, List.mem_range.2 (hk _ hm), List.mem_filter.2 ⟨h, by simp⟩⟩
    · rintro ⟨n, _, h⟩
      exact (List.mem_filter.1 h).1
  have he := List.Perm.eq_of_pairwise (le := ltK key) (fun a b _ _ h1 h2 => by
    rcases h1 with h1 | ⟨h1, k1⟩ <;> rcases h2 with h2 | ⟨h2, k2⟩ <;> omega) hs hq hperm
  rw [he, List.map_flatMap]
  unfold toldL
  congr 1
  funext n
  have : (l.zipIdx.filter fun x => decide (key x.1 = n)) = l.zipIdx.filter ((fun x => decide (key x = n)) ∘ Prod.fst) := rfl
  rw [this, ← List.filter_map, List.zipIdx_map_fst]
end Go.Proofs.Hd

namespace Go.Proofs
open Go.Shelf Go.RowKit Go.Proofs.Hd
end Go.Proofs

namespace Go.Proofs
open Go.RowKit Go.Proofs.Hd
attribute [local go_sem] uv_nonneg
end Go.Proofs

namespace Go.Proofs.Hd
open Go.RowKit
def hArr (h l : BitVec 64) : Array Value := #[.int .u64 (uv h), .int .u64 (uv l)]
theorem Blk.two {w : World} {g : Nat} {t : TypeId} {p q : BitVec 64} (h : Blk w g t (hArr p q)) : w.cell? ⟨g, 0, none⟩ = some (.int .u64 (uv p)) ∧ w.cell? ⟨g, 1, none⟩ = some (.int .u64 (uv q)) := ⟨h.cell 0, h.cell 1⟩
end Go.Proofs.Hd

namespace Go.Proofs
open Go.RowKit Go.Proofs.Hd
attribute [local go_sem] uv_and uv_or uv_xor uv_andNot uv_shr uv_shl uv_add uv_sub uv_nonneg
attribute [local go_sem high] run_eq2 run_eq4
theorem infoCube : (Try.prog.info? 43).map (fun i => (i.zero, i.size, i.bytes)) = some (some (.agg #[.int .u64 0, .int .u64 0, .int .u64 0, .int .u64 0]), 4, 32) := by kernel_rfl
end Go.Proofs

namespace Go.Proofs
open Go.RowKit Go.Proofs.Hd
attribute [local go_sem] uv_nonneg
theorem put_z (a n : Nat) (v : BitVec 64) (w : World) (hn : a + n ≤ 128) (h64 : n ≤ 64) (hv : ¬ uv (low n) < uv v) :
    Calls Try.prog 76 #[.agg #[.int .u64 0, .int .u64 0], .int .i64 a, .int .i64 n, .int .u64 (uv v)] w fun e w' => e = .returned (.tuple #[.agg #[.int .u64 (uv (putH 0#64 a n v)), .int .u64 (uv (putL 0#64 a n v))], .int .i64 0]) ∧ Below w.heap.size w w' :=
  put_c 0#64 0#64 a n v w hn h64 hv
theorem mask_i (x : Int) (a n : Nat) (w : World) (hx : x = (a : Int)) (h : a + n ≤ 128) : Calls Try.prog 77 #[.int .i64 x, .int .i64 n] w fun e w' => e = .returned (.tuple #[.agg #[.int .u64 (uv (maskH a n)), .int .u64 (uv (maskL a n))], .int .i64 0]) ∧ Below w.heap.size w w' := by
  subst hx; exact mask_c a n w h

set_option maxHeartbeats 1000000 in
theorem cfield_yes (a n len : Nat) (v : BitVec 64) (w : World) (hn : a + n ≤ 128) (h64 : n ≤ 64) (hv : ¬ uv (low n) < uv v) (hl : len ≤ n) :
    Calls Try.prog 61 #[.int .i64 a, .int .i64 n, .int .u64 (uv v), .int .i64 len] w fun e w' => e = .returned (.tuple #[.agg #[.int .u64 (uv (putH 0#64 a n v &&& maskH (a + n - len) len)), .int .u64 (uv (putL 0#64 a n v &&& maskL (a + n - len) len)), .int .u64 (uv (maskH (a + n - len) len)), .int .u64 (uv (maskL (a + n - len) len))], .int .i64 0]) ∧ Below w.heap.size w w' := by
  have HV := Lib.hid hv
  clear hv
  have b0 := below1 w (.cells #[.int .u64 0, .int .u64 0, .int .u64 0, .int .u64 0] 43)
  have Z0 := zero4_new w
  go_enter Try.func61, Try.ntmps61
  go_wp2_with fail
  (with_reducible refine (put_z a n v _ hn h64 (by have := HV.out; omega)).mono ?_)
  rintro e w1 ⟨rfl, hb1⟩
  have B1 := b0.trans (hb1.mono b0.size)
  have Z1 := Zero4.on hb1 Z0
  have bl1 := below1 w1 (.cells #[.int .u64 (uv (putH 0#64 a n v)), .int .u64 (uv (putL 0#64 a n v))] 41)
  have X1 : Blk (w1.alloc (.cells #[.int .u64 (uv (putH 0#64 a n v)), .int .u64 (uv (putL 0#64 a n v))] 41)) w1.heap.size 41 (hArr (putH 0#64 a n v) (putL 0#64 a n v)) := Blk.new w1 _ _
  have B2 := B1.trans (bl1.mono B1.size)
  have Z2 := Zero4.on bl1 Z1
  clear hb1 Z0 b0 B1 Z1 bl1
  have hl' : (len : Int) ≤ n := by omega
  go_wp2_with fail
  (with_reducible refine (mask_i _ (a + n - len) len _ (by omega) (by omega)).mono ?_)
  rintro e w3 ⟨rfl, hb3⟩
  have B3 := B2.trans (hb3.mono B2.size)
  have Z3 := Zero4.on hb3 Z2
  have X3 := X1.on hb3
  have x3 := X3.two
  have l3 : w1.heap.size < w3.heap.size := X3.lt
  clear hb3 Z2 X1 B2
  have bl3 := below1 w3 (.cells #[.int .u64 (uv (maskH (a + n - len) len)), .int .u64 (uv (maskL (a + n - len) len))] 41)
  have B4 := B3.trans (bl3.mono B3.size)
  have Z4 := Zero4.on bl3 Z3
  clear Z3 B3 bl3
  go_wp2_with fail
  (with_reducible refine (make_c _ _ _ _ _).mono ?_)
  rintro e w5 ⟨rfl, hb5⟩
  have B5 := B4.trans (hb5.mono B4.size)
  have Z5 := Zero4.on hb5 Z4
  have Y5 := Z5.out
  clear Z4 B4 hb5 x3 X3
  go_wp2
  exact bodyPost_ret (v := .tuple #[.agg #[.int .u64 (uv (putH 0#64 a n v &&& maskH (a + n - len) len)), .int .u64 (uv (putL 0#64 a n v &&& maskL (a + n - len) len)), .int .u64 (uv (maskH (a + n - len) len)), .int .u64 (uv (maskL (a + n - len) len))], .int .i64 0]) (by simp [results, Try.results61, go_sem, Y5]) rfl ⟨rfl, B5.trans ((sets4 _ _ _ _ _ _).mono (Nat.le_refl _))⟩

end Go.Proofs

namespace Go.Proofs
open Go.RowKit Go.Proofs.Hd
attribute [local go_sem] uv_nonneg eq4_self
attribute [local go_sem high] run_eq2 run_eq4
end Go.Proofs

namespace Go.Proofs
open Go.RowKit Go.Proofs.Hd
attribute [local go_sem] uv_nonneg eq4_self eq2_self
attribute [local go_sem high] run_eq2 run_eq4
theorem flat_get (L : List Cb) (k : Nat) (hk : k < L.length) (j : Nat) (hj : j < 4) : (flat L)[k * 4 + j]? = (L[k]).cells[j]? := by
  induction L generalizing k with
  | nil => simp at hk
  | cons c L ih =>
    have e : flat (c :: L) = c.cells ++ flat L := by simp [flat]
    rw [e]
    cases k with
    | zero => rw [Nat.zero_mul, Nat.zero_add, List.getElem?_append_left (by simp [Cb.cells]; omega)]; rfl
    | succ k =>
      rw [List.getElem?_append_right (by simp [Cb.cells]; omega), show (k + 1) * 4 + j - c.cells.length = k * 4 + j by simp [Cb.cells]; omega]
      exact ih k (by simpa using hk)
theorem own_get {w : World} {base g cap : Nat} {t : TypeId} {L : List Cb} (h : w.ownsRow base t 4 (.slice (some ⟨g, 0, none⟩) L.length cap) L.length (flat L)) (k : Nat) (hk : k < L.length) (j : Nat) (hj : j < 4) : w.cell? ⟨g, k * 4 + j, none⟩ = (L[k]).cells[j]? :=
  (h.cellAt (k * 4 + j) (by omega)).trans (flat_get L k hk j hj)
theorem own_at {w : World} {base g cap : Nat} {t : TypeId} {L : List Cb} {c : Cb} (h : w.ownsRow base t 4 (.slice (some ⟨g, 0, none⟩) L.length cap) L.length (flat L)) (k : Nat) (hc : L[k]? = some c) (j : Nat) (hj : j < 4) : w.cell? ⟨g, k * 4 + j, none⟩ = c.cells[j]? := by
  obtain ⟨hk, rfl⟩ := List.getElem?_eq_some_iff.1 hc
  exact own_get h k hk j hj
theorem own_form {w : World} {base : Nat} {t : TypeId} {size n : Nat} {v : Value} {xs : List Value} (h : w.ownsRow base t size v n xs) : ∃ A cap, v = .slice A n cap ∧ (0 < n → ∃ g, A = some ⟨g, 0, none⟩) := by
  rcases h.2 with ⟨rfl, rfl⟩ | ⟨g, cap, cur, rfl, _⟩
  · exact ⟨none, 0, rfl, fun h => by omega⟩
  · exact ⟨_, cap, rfl, fun _ => ⟨g, rfl⟩⟩
end Go.Proofs

namespace Go.Proofs
open Go.RowKit Go.Proofs.Hd
attribute [local go_sem] uv_nonneg
/-- Sign k of a text. -/
theorem sign_x {c : Cb} {s : ByteArray} (hs : txt c = s) (k m : Nat) (hm : m + k = 127) (hk : k < s.size) (h : c.K m = false) : ((s[k]'hk).toNat : Int) = 120 := by
  subst hs; rw [txt_get, show 127 - k = m by omega]; unfold sgn; rw [h]; rfl
theorem sign_1 {c : Cb} {s : ByteArray} (hs : txt c = s) (k m : Nat) (hm : m + k = 127) (hk : k < s.size) (h : c.K m = true) (hv : c.V m = true) : ((s[k]'hk).toNat : Int) = 49 := by
  subst hs; rw [txt_get, show 127 - k = m by omega]; unfold sgn; rw [h, hv]; rfl
theorem sign_0 {c : Cb} {s : ByteArray} (hs : txt c = s) (k m : Nat) (hm : m + k = 127) (hk : k < s.size) (h : c.K m = true) (hv : c.V m = false) : ((s[k]'hk).toNat : Int) = 48 := by
  subst hs; rw [txt_get, show 127 - k = m by omega]; unfold sgn; rw [h, hv]; rfl
theorem step_ok {P : Nat → Prop} {k m : Nat} (hm : m + k = 127) (h : ∀ j, j < 128 → 128 ≤ j + k → P j) (hp : P m) : ∀ j, j < 128 → 128 ≤ j + (k + 1) → P j := fun j hj hk => by
  by_cases e : j = m
  · subst e; exact hp
  · exact h j hj (by omega)
theorem text_len {c : Cb} {s : ByteArray} (hs : txt c = s) : s.size = 128 := by subst hs; exact txt_size c

end Go.Proofs

namespace Go.Proofs
open Go.RowKit Go.Proofs.Hd
attribute [local go_sem] uv_nonneg eq4_self eq2_self
attribute [local go_sem high] run_eq2 run_eq4
end Go.Proofs

namespace Go.Proofs.Hd
open Go.RowKit
/-- Block b begins with the 128 bytes f, which may be written. -/
def ByRow (w : World) (b : Nat) (f : Nat → UInt8) : Prop := ∀ i, i < 128 → w.cell? ⟨b, i, none⟩ = some (.int .u8 (f i).toNat) ∧ w.frozen? ⟨b, i, none⟩ = false
theorem ByRow.start (w : World) (s : ByteArray) (cap : Nat) (t : TypeId) (hs : s.size = 128) (f : Nat → UInt8) (hf : ∀ i (h : i < s.size), s[i] = f i) :
    ByRow (w.drew.alloc (.cells (bytesRow s cap) t ((bytesRow s cap).size, (bytesRow s cap).size + 1))) w.heap.size f := by
  intro i hi
  have hh : (w.drew.alloc (.cells (bytesRow s cap) t ((bytesRow s cap).size, (bytesRow s cap).size + 1))).heap[w.heap.size]? = some (.cells (bytesRow s cap) t ((bytesRow s cap).size, (bytesRow s cap).size + 1)) := heap_alloc_new w.drew _
  have hn : 128 ≤ (bytesRow s cap).size := by
    unfold bytesRow
    rw [Array.size_append, Array.size_map]
    have : s.data.size = 128 := hs
    omega
  constructor
  · rw [cell_of_row _ _ _ _ _ _ hh]
    unfold bytesRow
    have hd : i < s.data.size := by have : s.data.size = 128 := hs; omega
    rw [Array.getElem?_append_left (by rw [Array.size_map]; exact hd), Array.getElem?_map, Array.getElem?_eq_getElem hd]
    have := hf i (by omega)
    rw [← this]; rfl
  · simp only [World.frozen?, hh]
    simp; omega
theorem ByRow.set {w : World} {b : Nat} {f : Nat → UInt8} (h : ByRow w b f) (k : Nat) (hk : k < 128) (g : Nat → UInt8) (v : Int) (hv : v = ((g k).toNat : Int)) (hg : ∀ i, i < 128 → i ≠ k → g i = f i) : ByRow (w.setCell ⟨b, k, none⟩ (.int .u8 v)) b g := by
  intro i hi
  subst hv
  refine ⟨?_, by rw [World.frozen?_setCell]; exact (h i hi).2⟩
  by_cases e : i = k
  · subst e; exact World.cell?_setCell_same _ _ _ (h i hi).1
  · rw [World.cell?_setCell_other (h := by intro c; injection c with _ c; exact e c.symm), (h i hi).1, hg i hi e]
theorem ByRow.congr {w : World} {b : Nat} {f g : Nat → UInt8} (h : ByRow w b f) (hg : ∀ i, i < 128 → g i = f i) : ByRow w b g := fun i hi => by rw [hg i hi]; exact h i hi
theorem ByRow.on {w w' : World} {b : Nat} {f : Nat → UInt8} (h : ByRow w b f) (hb : Below w.heap.size w w') : ByRow w' b f := fun i hi =>
  have hl := World.block_lt_of_cell? w ⟨b, i, none⟩ (h i hi).1
  ⟨(hb.cell hl).trans (h i hi).1, (hb.frozen hl).trans (h i hi).2⟩
theorem txtL_get (c : Cb) (j : Nat) (hj : j < (txtL c).length) : (txtL c)[j] = sgn c (127 - j) := by simp [txtL]
theorem agr_fails {a b : Cb} {j : Nat} (hj : j < 128) (h1 : a.K j = true) (h2 : b.K j = true) (hne : ¬ a.V j = b.V j) : a.agr b = false := by
  cases e : a.agr b with
  | false => rfl
  | true => exact absurd ((Cb.agr_iff a b).1 e j hj h1 h2) hne
end Go.Proofs.Hd

namespace Go.Proofs
open Go.RowKit Go.Proofs.Hd
attribute [local go_sem] uv_nonneg
theorem bel_drewN {B : Nat} {w w' : World} (n : Nat) (h : Below B w w') : Below B w (w'.drewN n) := ⟨h.os, h.tape, h.output, h.size, h.block⟩
theorem toBytes (u : World) (s : ByteArray) : (convert 9 85 (.string s)).run Try.prog u = .ok (.slice (some ⟨u.heap.size, 0, none⟩) s.size (grownCap u s.size 0 5))
      (u.drew.alloc (.cells (bytesRow s (grownCap u s.size 0 5)) 5 ((bytesRow s (grownCap u s.size 0 5)).size, (bytesRow s (grownCap u s.size 0 5)).size + 1))) :=
  run_bytes_of_string u 9 85 5 s Try.underlying9 Try.underlying85 Try.underlying5
theorem fromBytes (u : World) (c : Cb) (b n cap : Nat) (hn : n = 128) (h : ByRow u b (fun i => sgn c (127 - i))) : (convert 85 9 (.slice (some ⟨b, 0, none⟩) n cap)).run Try.prog u = .ok (.string (txt c)) u := by
  subst hn
  have k := run_convert_bytes_back (P := Try.prog) u 85 9 5 ⟨b, 0, none⟩ cap (txtL c) Try.underlying85 Try.underlying5 Try.underlying9 (fun j hj => by
    have ha : (⟨b, 0, none⟩ : Addr).add j = ⟨b, j, none⟩ := by unfold Addr.add; split <;> simp_all
    rw [ha, (h j (by rw [txtL_len] at hj; exact hj)).1, txtL_get])
  rw [txtL_len] at k
  exact k

end Go.Proofs

namespace Go.Proofs.Hd
open Go.RowKit
/-- The bits a .. a + k - 1. -/
def mk (a k : Nat) : Nat → Bool := fun j => decide (a ≤ j) && decide (j < a + k)
end Go.Proofs.Hd

namespace Go.Proofs.Hd
open Go.RowKit
/-- The array f lies in block b, whole, and may be written. -/
def Row (w : World) (b : Nat) (f : Nat → Bool) : Prop := w.rangeAt b 0 (bl f) ∧ w.there b 0 128
theorem Row.cell {w : World} {b k : Nat} {f : Nat → Bool} (h : Row w b f) (hk : k < 128) : w.cell? ⟨b, k, none⟩ = some (.bool (f k)) := range_cell h.1 hk
theorem Row.froz {w : World} {b k : Nat} {f : Nat → Bool} (h : Row w b f) (hk : k < 128) : w.frozen? ⟨b, k, none⟩ = false := by
  have := (h.2 k hk).2; rwa [Nat.zero_add] at this
theorem Row.lt {w : World} {b : Nat} {f : Nat → Bool} (h : Row w b f) : b < w.heap.size := World.block_lt_of_cell? w ⟨b, 0, none⟩ (h.cell (by omega))
theorem Row.drew {w : World} {b : Nat} {f : Nat → Bool} (h : Row w b f) : Row w.drew b f := h
theorem Row.far {w : World} {b : Nat} {f : Nat → Bool} {p : Addr} {v : Value} (h : Row w b f) (hp : p.block ≠ b) : Row (w.setCell p v) b f := by
  refine ⟨fun j x hj => ?_, fun j hj => ?_⟩
  · rw [World.cell?_setCell_far w p ⟨b, 0 + j, none⟩ v hp]; exact h.1 j x hj
  · rw [World.cell?_setCell_far w p ⟨b, 0 + j, none⟩ v hp, World.frozen?_setCell]; exact h.2 j hj
theorem Row.set {w : World} {b k : Nat} {f g : Nat → Bool} {x : Bool} (h : Row w b f) (hk : k < 128) (e : (bl f).set k (.bool x) = bl g) : Row (w.setCell ⟨b, k, none⟩ (.bool x)) b g := by
  have hc : ∀ j, j < 128 → (w.setCell ⟨b, k, none⟩ (.bool x)).cell? ⟨b, j, none⟩ = some (if j = k then .bool x else .bool (f j)) := by
    intro j hj
    by_cases ej : j = k
    · subst ej; rw [if_pos rfl]; exact World.cell?_setCell_same w ⟨b, j, none⟩ (.bool x) (h.cell hj)
    · rw [if_neg ej, World.cell?_setCell_other w ⟨b, k, none⟩ ⟨b, j, none⟩ (.bool x) (fun e2 => ej (by injection e2 with _ e3; exact e3.symm)), h.cell hj]
  refine ⟨fun j y hj => ?_, fun j hj => ?_⟩
  · have hj' : j < 128 := by
      have := (List.getElem?_eq_some_iff.1 hj).1; rwa [bl_len] at this
    rw [Nat.zero_add, hc j hj', ← hj, ← e, bl_set, bl_get _ _ hj']
    by_cases ej : j = k <;> simp [ej]
  · rw [Nat.zero_add, hc j hj, World.frozen?_setCell]
    exact ⟨rfl, h.froz hj⟩
theorem Row.below {B b : Nat} {w w' : World} {f : Nat → Bool} (h : Row w b f) (hb : Below B w w') (hl : b < B) : Row w' b f := ⟨range_below hb h.1 hl, there_below hb h.2 hl⟩
theorem Row.of_set {w : World} {b : Nat} (f : Nat → Bool) (h : w.there b 0 128) : Row (w.setCells b 0 (bl f)) b f :=
  ⟨World.rangeAt_setCells_same w b 0 (bl f) (by rw [bl_len]; exact h), World.there_setCells h b 0 (bl f)⟩
theorem Row.apart {w : World} {b c : Nat} {f : Nat → Bool} {vs : List Value} (h : Row w b f) (hne : b ≠ c) : Row (w.setCells c 0 vs) b f :=
  ⟨World.rangeAt_setCells_apart h.1 c 0 vs (Or.inl hne), World.there_setCells h.2 c 0 vs⟩
theorem Row.congr {w : World} {b : Nat} {f g : Nat → Bool} (h : Row w b f) (e : bl f = bl g) : Row w b g := ⟨e ▸ h.1, h.2⟩
theorem two_Rows {V : World} {b c : Nat} (f g : Nat → Bool) (h1 : V.there b 0 128) (h2 : V.there c 0 128) (hne : b ≠ c) :
    Row ((V.setCells b 0 (bl f)).setCells c 0 (bl g)) b f ∧ Row ((V.setCells b 0 (bl f)).setCells c 0 (bl g)) c g :=
  ⟨(Row.of_set f h1).apart hne, Row.of_set g (World.there_setCells h2 b 0 (bl f))⟩
end Go.Proofs.Hd
