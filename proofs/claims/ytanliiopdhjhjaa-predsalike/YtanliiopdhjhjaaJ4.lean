/-
  Contracts of rule.Sound and of the reference's Sound. No conditions.
  Contract of the reference's Sound of layer 5. No conditions.
  Tables in memory; contracts of table.Sound and of the reference's Sound of layer 6. Conditions as each theorem lists them.
  How a slice of slices of rules reads; a slice of rules is no longer than its capacity. No conditions.
  Ports and topologies in memory; contracts of package topo: within, port, sized. Conditions as each theorem lists them.
  Contracts of package topo: port. Conditions as each theorem lists them.
  Contracts of package topo: port, answered, formed, sized. Conditions as each theorem lists them.
  Contracts of package topo: sized, Sound, Other, start. Conditions as each theorem lists them.
  Heaps as functions of places: mathematics of container/heap's up and down, no program. Conditions as each theorem lists them.
  Edges as lists; contracts of topo.Edges and of the reference's Edges of layer 7. Conditions as each theorem lists them.
  How a topology and a spot handed in by value read. No conditions.
  Policies in memory; contracts of the reference's tenant and Allowed of layer 8. Conditions as each theorem lists them.
  Contract of the reference's Edge of layer 7. Conditions as the theorem lists them.
  The contract of the reference's Edges of layer 7. Conditions as the theorem lists them.
  Contract of the reference's Policy of layer 8. Conditions as the theorem lists them.
  Contract of the reference's port of layer 7. Conditions as the theorem lists them.
  Contract of the reference's port of layer 7. Conditions as the theorem lists them.
  Contract of the reference's port of layer 7. Conditions as the theorem lists them.
  Contracts of the reference's port and Sound of layer 7. Conditions as each theorem lists them.
  Configurations in memory; contract of the reference's Sound of layer 8. Conditions as the theorem lists them.
  Contracts of package config: within; copied, at the types of a configuration: a list of the call's own memory with the same cells. Conditions as each theorem lists them.
  Lists of lists in memory of a call's own: how they are read, what stays behind a store elsewhere, and what a loop that writes to them holds. Conditions as each theorem lists them.
  Contracts of config.copiedLists. Conditions as each theorem lists them.
  Plain facts on blocks that a statement makes in whatever order and fills afterwards. No conditions.
  Contract of package config: Clone. Conditions as the theorem lists them.
-/
import Derived.Test.YtanliiopdhjhjaaJ3
import Derived.BigQuiet
import Derived.Deep.LoopGhost
import Derived.Lib.Hide
import Derived.Test.YtanliiopdhjhjaaProg
import Derived.Shelf.RegionOpenPlain
import Derived.Deep.Slices
import Derived.Deep.Strs
import Derived.Deep.RegionHeld3
import Derived.Deep.DeepCutAuto
import Derived.Deep.Light
import Derived.Lib.SliceRun
import Derived.Laws.MakeOwn
import Derived.Deep.MidRow
namespace Go.Proofs
open Go.RowKit Go.Proofs.Hd Go.Sort
attribute [local go_sem] uv_nonneg
theorem csnd_c (x : Bool) (c : Cb) (w : World) (h : c.snd = x) : Calls Try.prog 47 #[.agg #[.int .u64 (uv c.vh), .int .u64 (uv c.vl), .int .u64 (uv c.ch), .int .u64 (uv c.cl)]] w fun e w' => e = .returned (.bool x) ∧ Below w.heap.size w w' := by
  subst h; exact sound_c _ _ _ _ _
set_option maxRecDepth 100000 in
set_option maxHeartbeats 4000000 in
theorem sound_r (x : Bool) (r : Rl) (table : Int) (v : Value) (K : List Int) (w : World) (hx : sndR r table K = x) (hv : Po w v K) : Calls Try.prog 58 #[.agg #[.int .i64 r.pri, .int .u64 (uv r.m.vh), .int .u64 (uv r.m.vl), .int .u64 (uv r.m.ch), .int .u64 (uv r.m.cl), .int .i64 r.kind, .int .i64 r.port, .int .i64 r.tab, .int .u64 (uv r.s.vh), .int .u64 (uv r.s.vl), .int .u64 (uv r.s.ch), .int .u64 (uv r.s.cl)], .int .i64 table, v] w fun e w' => e = .returned (.bool x) ∧ Below w.heap.size w w' := by
  have B0 := below1 w (.cells #[.int .i64 r.pri, .int .u64 (uv r.m.vh), .int .u64 (uv r.m.vl), .int .u64 (uv r.m.ch), .int .u64 (uv r.m.cl), .int .i64 r.kind, .int .i64 r.port, .int .i64 r.tab, .int .u64 (uv r.s.vh), .int .u64 (uv r.s.vl), .int .u64 (uv r.s.ch), .int .u64 (uv r.s.cl)] 51)
  have N0 : Blk (w.alloc (.cells #[.int .i64 r.pri, .int .u64 (uv r.m.vh), .int .u64 (uv r.m.vl), .int .u64 (uv r.m.ch), .int .u64 (uv r.m.cl), .int .i64 r.kind, .int .i64 r.port, .int .i64 r.tab, .int .u64 (uv r.s.vh), .int .u64 (uv r.s.vl), .int .u64 (uv r.s.ch), .int .u64 (uv r.s.cl)] 51)) w.heap.size 51 #[.int .i64 r.pri, .int .u64 (uv r.m.vh), .int .u64 (uv r.m.vl), .int .u64 (uv r.m.ch), .int .u64 (uv r.m.cl), .int .i64 r.kind, .int .i64 r.port, .int .i64 r.tab, .int .u64 (uv r.s.vh), .int .u64 (uv r.s.vl), .int .u64 (uv r.s.ch), .int .u64 (uv r.s.cl)] := Blk.new w _ _
  have HV := Lib.hid hv
  clear hv
  unfold sndR at hx
  by_cases h1 : 0 ≤ r.pri
  · by_cases h2 : r.pri ≤ 1048576
    · cases h3 : r.m.snd with
      | false =>
        simp [h3] at hx
        subst hx
        go_enter Try.func58, Try.ntmps58
        go_wp2_with fail
        (with_reducible refine (csnd_c _ r.m _ h3).mono ?_)
        rintro e w1 ⟨rfl, hb⟩
        have B := B0.trans (hb.mono B0.size)
        clear B0 hb N0
        go_wp2
        go_ret
        exact ⟨by simp, B⟩
      | true =>
        cases h4 : r.s.snd with
        | false =>
          simp [h4] at hx
          subst hx
          go_enter Try.func58, Try.ntmps58
          go_wp2_with fail
          (with_reducible refine (csnd_c _ r.m _ h3).mono ?_)
          rintro e w1 ⟨rfl, hb⟩
          have B := B0.trans (hb.mono B0.size)
          have N1 := N0.on hb
          have c8 := N1.cell 8
          have c9 := N1.cell 9
          have c10 := N1.cell 10
          have c11 := N1.cell 11
          simp at c8 c9 c10 c11
          clear B0 hb N0
          go_wp2_with fail
          (with_reducible refine (csnd_c _ r.s _ h4).mono ?_)
          rintro e w2 ⟨rfl, hb2⟩
          have B2 := B.trans (hb2.mono B.size)
          clear B hb2 N1 c8 c9 c10 c11
          go_wp2
          go_ret
          exact ⟨by simp, B2⟩
        | true =>
          have h5 : leads r.kind r.port r.tab table K = x := by simpa [h1, h2, h3, h4] using hx
          have H5 := Lib.hid h5
          clear hx h5
          go_enter Try.func58, Try.ntmps58
          go_wp2_with fail
          (with_reducible refine (csnd_c _ r.m _ h3).mono ?_)
          rintro e w1 ⟨rfl, hb⟩
          have B := B0.trans (hb.mono B0.size)
          have N1 := N0.on hb
          have c8 := N1.cell 8
          have c9 := N1.cell 9
          have c10 := N1.cell 10
          have c11 := N1.cell 11
          simp at c8 c9 c10 c11
          clear B0 hb N0
          go_wp2_with fail
          (with_reducible refine (csnd_c _ r.s _ h4).mono ?_)
          rintro e w2 ⟨rfl, hb2⟩
          have B2 := B.trans (hb2.mono B.size)
          have N2 := N1.on hb2
          clear B hb2 N1 c8 c9 c10 c11
          have c0 := N2.cell 0
          have c1 := N2.cell 1
          have c2 := N2.cell 2
          have c3 := N2.cell 3
          have c4 := N2.cell 4
          have c5 := N2.cell 5
          have c6 := N2.cell 6
          have c7 := N2.cell 7
          have c8 := N2.cell 8
          have c9 := N2.cell 9
          have c10 := N2.cell 10
          have c11 := N2.cell 11
          simp at c0 c1 c2 c3 c4 c5 c6 c7 c8 c9 c10 c11
          go_wp2_with fail
          (with_reducible refine (leads_c x r table v K _ H5.out (HV.out.on B2)).mono ?_)
          rintro e w3 ⟨rfl, hb3⟩
          have B3 := B2.trans (hb3.mono B2.size)
          clear B2 hb3 N2 c0 c1 c2 c3 c4 c5 c6 c7 c8 c9 c10 c11
          go_wp2
          go_ret
          exact ⟨rfl, B3⟩
    · simp [h2] at hx
      subst hx
      go_enter Try.func58, Try.ntmps58
      go_wp2
      go_ret
      exact ⟨by simp, B0⟩
  · simp [h1] at hx
    subst hx
    go_enter Try.func58, Try.ntmps58
    go_wp2
    go_ret
    exact ⟨by simp, B0⟩
end Go.Proofs

namespace Go.Proofs
open Go.RowKit Go.Proofs.Hd Go.Sort
attribute [local go_sem] uv_nonneg
end Go.Proofs

namespace Go.Proofs.Hd
open Go.RowKit
/-- v is a slice of slices that read as the tables T. -/
def RuT (w : World) (v : Value) (T : List (List Rl)) : Prop := ∃ A cap, v = .slice A T.length cap ∧ T.length ≤ maxLen ∧ (∀ L ∈ T, L.length ≤ maxLen) ∧ (T ≠ [] → ∃ b o, A = some ⟨b, o, none⟩ ∧ b < w.heap.size ∧ ∀ k L, T[k]? = some L → ∃ s, w.cell? ⟨b, o + k, none⟩ = some s ∧ Ru w s L)
theorem RuT.on {w w' : World} {v : Value} {T : List (List Rl)} (h : RuT w v T) (hb : Below w.heap.size w w') : RuT w' v T := by
  obtain ⟨A, cap, e, h1, h2, h⟩ := h
  refine ⟨A, cap, e, h1, h2, fun hne => ?_⟩
  obtain ⟨b, o, e2, hl, hc⟩ := h hne
  refine ⟨b, o, e2, Nat.lt_of_lt_of_le hl hb.size, fun k L hk => ?_⟩
  obtain ⟨s, h3, h4⟩ := hc k L hk
  exact ⟨s, on_some hb h3, h4.on hb⟩
/-- How many rules the first k tables have, as an int counts. -/
def cntT (T : List (List Rl)) (k : Nat) : Int := (T.take k).foldl (fun c L => IntKind.i64.wrap (c + (L.length : Int))) 0
theorem cntT_succ {T : List (List Rl)} {k : Nat} {L : List Rl} (h : T[k]? = some L) : cntT T (k + 1) = IntKind.i64.wrap (cntT T k + (L.length : Int)) := by
  unfold cntT
  rw [List.take_add_one, h]
  simp
/-- Is a rule sound in table n of m? -/
def okR (m : Nat) (K : List Int) (n : Nat) (r : Rl) : Bool := sndR r (n : Int) K && decide (r.tab < (m : Int))
/-- Are the rules of the first k tables sound? -/
def okT (T : List (List Rl)) (K : List Int) (k : Nat) : Bool := (List.range k).all fun n => (T[n]!).all (okR T.length K n)
theorem okT_succ {T : List (List Rl)} {K : List Int} {k : Nat} {L : List Rl} (h : T[k]? = some L) : okT T K (k + 1) = (okT T K k && L.all (okR T.length K k)) := by
  obtain ⟨hl, e⟩ := List.getElem?_eq_some_iff.1 h
  unfold okT
  rw [List.range_succ, List.all_append]
  simp [hl, e]
theorem okT_no {T : List (List Rl)} {K : List Int} {k j : Nat} {L : List Rl} {r : Rl} (h : T[k]? = some L) (hj : L[j]? = some r) (hr : okR T.length K k r = false) : okT T K T.length = false := by
  cases hc : okT T K T.length with
  | false => rfl
  | true =>
    obtain ⟨hl, e⟩ := List.getElem?_eq_some_iff.1 h
    unfold okT at hc
    rw [List.all_eq_true] at hc
    have h1 := hc k (by simpa using hl)
    rw [getElem!_pos T k hl, e, List.all_eq_true] at h1
    rw [h1 r (List.mem_of_getElem? hj)] at hr
    cases hr
/-- What table.Sound says. -/
def sT (T : List (List Rl)) (K : List Int) : Int := if T.length = 0 ∨ 3 < T.length then 4 else if 96 < cntT T T.length then 12 else if okT T K T.length = true then 0 else 2
theorem all_takeR {L : List Rl} {f : Rl → Bool} {k : Nat} {r : Rl} (h : L[k]? = some r) (ha : (L.take k).all f = true) (hr : f r = true) : (L.take (k + 1)).all f = true := by
  rw [List.take_add_one, h, List.all_append, ha]
  simp [hr]
end Go.Proofs.Hd
namespace Go.Proofs
open Go.RowKit Go.Proofs.Hd Go.Sort Go.Lib
attribute [local go_sem] uv_nonneg
set_option maxHeartbeats 8000000 in
set_option maxRecDepth 100000 in
theorem tabs_c (v pv : Value) (T : List (List Rl)) (KK : List Int) (w : World) (hv : RuT w v T) (hp : Po w pv KK) : Calls Try.prog 41 #[v, pv] w fun e w' => e = .returned (.int .i64 (sT T KK)) ∧ Below w.heap.size w w' := by
  obtain ⟨A, cap, rfl, ht, hL, hA⟩ := hv
  have htz : (T.length : Int) ≤ 9223372036854775807 := by unfold maxLen at ht; omega
  by_cases h1 : T.length = 0 ∨ 3 < T.length
  · have hsT : sT T KK = 4 := by unfold sT; rw [if_pos h1]
    rw [hsT]
    clear hA hL hp hsT
    rcases h1 with h1 | h1
    · rw [h1]
      go_enter Try.func41, Try.ntmps41
      go_wp2
      go_ret
      exact ⟨rfl, Below.refl _ _⟩
    · have hz0 : ¬ (T.length : Int) = 0 := by omega
      have hz0' : ¬ T.length = 0 := by omega
      have hz3 : (3 : Int) < (T.length : Int) := by omega
      have hd0 : decide ((T.length : Int) = 0) = false := decide_eq_false hz0
      go_enter Try.func41, Try.ntmps41
      go_wp2
      go_ret
      exact ⟨rfl, Below.refl _ _⟩
  · have hz0 : ¬ (T.length : Int) = 0 := by omega
    have hz0' : ¬ T.length = 0 := by omega
    have hz3 : ¬ (3 : Int) < (T.length : Int) := by omega
    have hz3' : (T.length : Int) ≤ 3 := by omega
    have hsT : sT T KK = if 96 < cntT T T.length then 12 else if okT T KK T.length = true then 0 else 2 := by unfold sT; rw [if_neg h1]
    obtain ⟨b, o, rfl, hb0, hc⟩ := hA (by intro e; rw [e] at hz0'; exact hz0' rfl)
    have HC := Lib.hid hc
    have HP := Lib.hid hp
    have HL := Lib.hid hL
    have HS := Lib.hid hsT
    clear hc hp hA hL hsT
    go_enter Try.func41, Try.ntmps41
    go_wp2
    go_loopg [5, 7, 22] T.length (fun gk s5 _ s22 wr => ∃ (k : Nat) (cn : Int), k ≤ T.length ∧ gk = T.length - k ∧ s22 = .int .i64 k ∧ s5 = .int .i64 cn ∧ Hid (cn = cntT T k) ∧ Hid (Below w.heap.size w wr))
    case atStart => exact ⟨0, 0, Nat.zero_le _, rfl, rfl, rfl, rfl, Below.refl _ _⟩
    case round =>
      obtain ⟨k, cn, hk, rfl, rfl, rfl, HN, HW⟩ := hrel
      by_cases hlt : k < T.length
      · have hltz : (k : Int) < (T.length : Int) := by omega
        obtain ⟨L, hTL⟩ : ∃ L, T[k]? = some L := ⟨_, List.getElem?_eq_getElem hlt⟩
        obtain ⟨s, hcell0, hru⟩ := HC.out k L hTL
        obtain ⟨A1, c1, rfl, _⟩ := hru.form
        have hcell := on_some HW.out hcell0
        obtain ⟨cm, hcm⟩ : ∃ cm, IntKind.i64.wrap (cn + (L.length : Int)) = cm := ⟨_, rfl⟩
        have HN2 : Hid (cm = cntT T (k + 1)) := by show _ = _; rw [cntT_succ hTL, ← HN.out, hcm]
        clear hTL hru HN hcell0
        go_wp2
        go_roundg (T.length - (k + 1))
        case measure => omega
        case rel => exact ⟨k + 1, cm, by omega, rfl, by go_num, rfl, HN2, HW⟩
      · have hltz : ¬ (k : Int) < (T.length : Int) := by omega
        obtain rfl : k = T.length := by omega
        by_cases h96 : 96 < cn
        · have HE : Hid (sT T KK = 12) := by show _ = _; rw [HS.out, if_pos (by rw [← HN.out]; exact h96)]
          clear HS HC HN
          go_wp2
          go_ret
          exact ⟨by rw [HE.out]; rfl, HW.out⟩
        · have HS2 : Hid (sT T KK = if okT T KK T.length = true then 0 else 2) := by show _ = _; rw [HS.out, if_neg (by rw [← HN.out]; exact h96)]
          clear HS HN
          go_wp2
          go_loopg [8, 9, 11, 35, 42] T.length (fun gn s8 s9 s11 s35 s42 wn => ∃ (n : Nat), n ≤ T.length ∧ gn = T.length - n ∧ s35 = .int .i64 n ∧ Hid (okT T KK n = true) ∧ Hid (Below w.heap.size w wn))
          case atStart => exact ⟨0, Nat.zero_le _, rfl, rfl, rfl, HW⟩
          case round =>
            clear HW
            obtain ⟨n, hn, rfl, rfl, HO, HB⟩ := hrel
            by_cases hnt : n < T.length
            · have hntz : (n : Int) < (T.length : Int) := by omega
              obtain ⟨L, hTL⟩ : ∃ L, T[n]? = some L := ⟨_, List.getElem?_eq_getElem hnt⟩
              obtain ⟨s, hcell0, hru⟩ := HC.out n L hTL
              obtain ⟨A1, c1, rfl, hA1⟩ := hru.form
              have hcell := on_some HB.out hcell0
              have HA1 := Lib.hid hA1
              have HTL := Lib.hid hTL
              have hLz : (L.length : Int) ≤ 9223372036854775807 := by have := HL.out L (List.mem_of_getElem? hTL); unfold maxLen at this; omega
              clear hTL hru hcell0 hA1
              go_wp2
              go_loopg [11, 42] L.length (fun gi s11 s42 wi => ∃ (i : Nat), i ≤ L.length ∧ gi = L.length - i ∧ s42 = .int .i64 i ∧ Hid ((L.take i).all (okR T.length KK n) = true) ∧ Hid (Below w.heap.size w wi))
              case atStart => exact ⟨0, Nat.zero_le _, rfl, rfl, rfl, HB⟩
              case round =>
                clear HB hcell
                obtain ⟨i, hi, rfl, rfl, HI, HB⟩ := hrel
                by_cases hit : i < L.length
                · have hitz : (i : Int) < (L.length : Int) := by omega
                  obtain ⟨r, hr⟩ : ∃ r, L[i]? = some r := ⟨_, List.getElem?_eq_getElem hit⟩
                  obtain ⟨b1, o1, rfl, _, hpc⟩ := HA1.out (by intro h; rw [h] at hit; simp at hit)
                  obtain ⟨c0, c1', c2, c3, c4, c5, c6, c7, c8, c9, c10, c11⟩ := ((hpc i r hr).on HB.out).out
                  have hb1 := below1 wr (.cells #[.int .i64 r.pri, .int .u64 (uv r.m.vh), .int .u64 (uv r.m.vl), .int .u64 (uv r.m.ch), .int .u64 (uv r.m.cl), .int .i64 r.kind, .int .i64 r.port, .int .i64 r.tab, .int .u64 (uv r.s.vh), .int .u64 (uv r.s.vl), .int .u64 (uv r.s.ch), .int .u64 (uv r.s.cl)] 51)
                  have N1 : Hid (Blk (wr.alloc (.cells #[.int .i64 r.pri, .int .u64 (uv r.m.vh), .int .u64 (uv r.m.vl), .int .u64 (uv r.m.ch), .int .u64 (uv r.m.cl), .int .i64 r.kind, .int .i64 r.port, .int .i64 r.tab, .int .u64 (uv r.s.vh), .int .u64 (uv r.s.vl), .int .u64 (uv r.s.ch), .int .u64 (uv r.s.cl)] 51)) wr.heap.size 51 #[.int .i64 r.pri, .int .u64 (uv r.m.vh), .int .u64 (uv r.m.vl), .int .u64 (uv r.m.ch), .int .u64 (uv r.m.cl), .int .i64 r.kind, .int .i64 r.port, .int .i64 r.tab, .int .u64 (uv r.s.vh), .int .u64 (uv r.s.vl), .int .u64 (uv r.s.ch), .int .u64 (uv r.s.cl)]) := Blk.new wr _ _
                  have HB1 := Lib.hid (HB.out.trans (hb1.mono HB.out.size))
                  have HR := Lib.hid hr
                  clear hr hpc hb1 HB
                  cases hs : sndR r (n : Int) KK with
                  | false =>
                    have HE : Hid (sT T KK = 2) := by show _ = _; rw [HS2.out, okT_no HTL.out HR.out (by unfold okR; rw [hs]; rfl)]; rfl
                    go_wp2_with fail
                    (with_reducible refine (sound_r false r (n : Int) pv KK _ hs (HP.out.on HB1.out)).mono ?_)
                    rintro e w2 ⟨rfl, hb2⟩
                    have B2 := HB1.out.trans (hb2.mono HB1.out.size)
                    clear HB1 hb2 N1 c0 c1' c2 c3 c4 c5 c6 c7 c8 c9 c10 c11
                    go_wp2
                    go_ret
                    exact ⟨by rw [HE.out]; rfl, B2⟩
                  | true =>
                    by_cases htab : r.tab < (T.length : Int)
                    · have HI2 : Hid ((L.take (i + 1)).all (okR T.length KK n) = true) := all_takeR HR.out HI.out (by unfold okR; rw [hs, decide_eq_true htab]; rfl)
                      have hge : ¬ (T.length : Int) ≤ r.tab := by omega
                      go_wp2_with fail
                      (with_reducible refine (sound_r true r (n : Int) pv KK _ hs (HP.out.on HB1.out)).mono ?_)
                      rintro e w2 ⟨rfl, hb2⟩
                      have HB2 := Lib.hid (HB1.out.trans (hb2.mono HB1.out.size))
                      have d7 := (N1.out.on hb2).cell 7
                      simp at d7
                      clear HB1 hb2 N1 c0 c1' c2 c3 c4 c5 c6 c7 c8 c9 c10 c11
                      go_wp2
                      go_roundg (L.length - (i + 1))
                      case measure => omega
                      case rel => exact ⟨i + 1, by omega, rfl, by go_num, HI2, HB2⟩
                    · have HE : Hid (sT T KK = 2) := by show _ = _; rw [HS2.out, okT_no HTL.out HR.out (by unfold okR; rw [hs, decide_eq_false htab]; rfl)]; rfl
                      have hge : (T.length : Int) ≤ r.tab := by omega
                      go_wp2_with fail
                      (with_reducible refine (sound_r true r (n : Int) pv KK _ hs (HP.out.on HB1.out)).mono ?_)
                      rintro e w2 ⟨rfl, hb2⟩
                      have B2 := HB1.out.trans (hb2.mono HB1.out.size)
                      have d7 := (N1.out.on hb2).cell 7
                      simp at d7
                      clear HB1 hb2 N1 c0 c1' c2 c3 c4 c5 c6 c7 c8 c9 c10 c11
                      go_wp2
                      go_ret
                      exact ⟨by rw [HE.out]; rfl, B2⟩
                · have hitz : ¬ (i : Int) < (L.length : Int) := by omega
                  have HO2 : Hid (okT T KK (n + 1) = true) := by
                    have e := HI.out
                    rw [List.take_of_length_le (by omega)] at e
                    show _ = _
                    rw [okT_succ HTL.out, HO.out, e]
                    rfl
                  go_wp2
                  go_roundg (T.length - (n + 1))
                  case measure => omega
                  case rel => exact ⟨n + 1, by omega, rfl, by go_num, HO2, HB⟩
            · have hntz : ¬ (n : Int) < (T.length : Int) := by omega
              obtain rfl : n = T.length := by omega
              have HE : Hid (sT T KK = 0) := by show _ = _; rw [HS2.out, HO.out]; rfl
              clear HC HO
              go_wp2
              go_ret
              exact ⟨by rw [HE.out]; rfl, HB.out⟩
end Go.Proofs

namespace Go.Proofs.Ytanliiopdhjhjaa
open Go.ChangeShapes Go.WideShapes Go.ChangeAt Go.RowKit Go.Joins Go.Deep Go.Proofs.Hd
theorem cellsRules : Try.prog.cellsOf 45 = 1 := by kernel_rfl
end Go.Proofs.Ytanliiopdhjhjaa

namespace Go.Proofs.Hd
open Go.RowKit
/-- A port. -/
structure Pt where
  kind : Int
  ten : Int
  peer : Int
  spot : Int
  cost : Int
/-- A port's cells. -/
def Pt.cs (p : Pt) : List Value := [.int .i64 p.kind, .int .i64 p.ten, .int .i64 p.peer, .int .i64 p.spot, .int .i64 p.cost]
/-- Are two ports the same? -/
def eqP (a b : Pt) : Bool := (a.kind == b.kind) && ((a.ten == b.ten) && ((a.peer == b.peer) && ((a.spot == b.spot) && (a.cost == b.cost))))
/-- The five cells of a port. -/
def AtP (w : World) (b o : Nat) (p : Pt) : Prop := w.cell? ⟨b, o, none⟩ = some (.int .i64 p.kind) ∧ w.cell? ⟨b, o + 1, none⟩ = some (.int .i64 p.ten) ∧ w.cell? ⟨b, o + 2, none⟩ = some (.int .i64 p.peer) ∧ w.cell? ⟨b, o + 3, none⟩ = some (.int .i64 p.spot) ∧ w.cell? ⟨b, o + 4, none⟩ = some (.int .i64 p.cost)
theorem AtP.on {w w' : World} {b o : Nat} {p : Pt} (h : AtP w b o p) (hb : Below w.heap.size w w') : AtP w' b o p := ⟨on_some hb h.1, on_some hb h.2.1, on_some hb h.2.2.1, on_some hb h.2.2.2.1, on_some hb h.2.2.2.2⟩
/-- v is a slice that reads as the ports L. -/
def Ps (w : World) (v : Value) (L : List Pt) : Prop := ∃ A cap, v = .slice A L.length cap ∧ L.length ≤ maxLen ∧ (L ≠ [] → ∃ b o, A = some ⟨b, o, none⟩ ∧ b < w.heap.size ∧ ∀ k p, L[k]? = some p → AtP w b (o + k * 5) p)
theorem Ps.on {w w' : World} {v : Value} {L : List Pt} (h : Ps w v L) (hb : Below w.heap.size w w') : Ps w' v L := by
  obtain ⟨A, cap, e, hl, h⟩ := h
  refine ⟨A, cap, e, hl, fun hne => ?_⟩
  obtain ⟨b, o, e2, hlt, hc⟩ := h hne
  exact ⟨b, o, e2, Nat.lt_of_lt_of_le hlt hb.size, fun k p hk => (hc k p hk).on hb⟩
/-- v is a slice of slices that read as the switches T. -/
def PsT (w : World) (v : Value) (T : List (List Pt)) : Prop := ∃ A cap, v = .slice A T.length cap ∧ T.length ≤ maxLen ∧ (T ≠ [] → ∃ b o, A = some ⟨b, o, none⟩ ∧ b < w.heap.size ∧ ∀ k L, T[k]? = some L → ∃ s, w.cell? ⟨b, o + k, none⟩ = some s ∧ Ps w s L)
theorem PsT.on {w w' : World} {v : Value} {T : List (List Pt)} (h : PsT w v T) (hb : Below w.heap.size w w') : PsT w' v T := by
  obtain ⟨A, cap, e, h1, h⟩ := h
  refine ⟨A, cap, e, h1, fun hne => ?_⟩
  obtain ⟨b, o, e2, hl, hc⟩ := h hne
  refine ⟨b, o, e2, Nat.lt_of_lt_of_le hl hb.size, fun k L hk => ?_⟩
  obtain ⟨s, h3, h4⟩ := hc k L hk
  exact ⟨s, on_some hb h3, h4.on hb⟩
theorem PsT.form {w : World} {v : Value} {T : List (List Pt)} (h : PsT w v T) : ∃ A cap, v = .slice A T.length cap := by
  obtain ⟨A, cap, e, _⟩ := h; exact ⟨A, cap, e⟩
/-- Is n a place of a list of m? -/
def inB (n m : Int) : Bool := decide (0 ≤ n) && decide (n < m)
/-- The port at a spot. -/
def ptAt (T : List (List Pt)) (n i : Int) : Option Pt := if 0 ≤ n ∧ 0 ≤ i then (T[n.toNat]?).bind fun L => L[i.toNat]? else none
theorem ptAt_nat {T : List (List Pt)} {n i : Nat} {L : List Pt} {p : Pt} (h : T[n]? = some L) (hp : L[i]? = some p) : ptAt T (n : Int) (i : Int) = some p := by
  unfold ptAt
  rw [if_pos (by omega), Int.toNat_natCast, Int.toNat_natCast, h]
  exact hp
theorem ptAt_some {T : List (List Pt)} {n i : Int} {p : Pt} (h : ptAt T n i = some p) : ∃ (n' i' : Nat) (L : List Pt), n = n' ∧ i = i' ∧ T[n']? = some L ∧ L[i']? = some p := by
  unfold ptAt at h
  split at h
  · rename_i hn
    cases hL : T[n.toNat]? with
    | none => rw [hL] at h; cases h
    | some L => rw [hL] at h; exact ⟨n.toNat, i.toNat, L, by omega, by omega, hL, h⟩
  · cases h
theorem ptAt_far1 {T : List (List Pt)} {n i : Int} (h : inB n T.length = false) : ptAt T n i = none := by
  cases hp : ptAt T n i with
  | none => rfl
  | some p =>
    obtain ⟨n', i', L, rfl, rfl, h1, _⟩ := ptAt_some hp
    have := (List.getElem?_eq_some_iff.1 h1).1
    simp [inB] at h
    omega
theorem ptAt_far2 {T : List (List Pt)} {n : Nat} {i : Int} {L : List Pt} (hL : T[n]? = some L) (h : inB i L.length = false) : ptAt T n i = none := by
  cases hp : ptAt T n i with
  | none => rfl
  | some p =>
    obtain ⟨n', i', L', e, rfl, h1, h2⟩ := ptAt_some hp
    obtain rfl : n = n' := by omega
    rw [hL] at h1
    injection h1 with h1
    subst h1
    have := (List.getElem?_eq_some_iff.1 h2).1
    simp [inB] at h
    omega
theorem bldrewN {B : Nat} {w w' : World} (h : Below B w w') (n : Nat) : Below B w (w'.drewN n) := ⟨h.os, h.tape, h.output, h.size, h.block⟩
theorem Blk.drewN {w : World} {g : Nat} {t : TypeId} {cs : Array Value} (h : Blk w g t cs) (n : Nat) : Blk (w.drewN n) g t cs := h
theorem Blk.new2 (w : World) (o : Obj) (t : TypeId) (cs : Array Value) : Blk ((w.alloc o).alloc (.cells cs t)) (w.heap.size + 1) t cs := by
  have h := Blk.new (w.alloc o) t cs
  have e : (w.alloc o).heap.size = w.heap.size + 1 := by simp
  rw [e] at h
  exact h
theorem Blk.new3 (w : World) (o p : Obj) (t : TypeId) (cs : Array Value) : Blk (((w.alloc o).alloc p).alloc (.cells cs t)) (w.heap.size + 1 + 1) t cs := by
  have h := Blk.new ((w.alloc o).alloc p) t cs
  have e : ((w.alloc o).alloc p).heap.size = w.heap.size + 1 + 1 := by simp
  rw [e] at h
  exact h
theorem Blk.drew1 {w : World} {g : Nat} {t : TypeId} {cs : Array Value} (h : Blk w g t cs) : Blk w.drew g t cs := h
/-- Five cells of a block are written. -/
theorem Blk.put5 {w : World} {g : Nat} {t : TypeId} {x0 x1 x2 x3 x4 : Value} (h : Blk w g t #[x0, x1, x2, x3, x4]) (a0 a1 a2 a3 a4 : Value) :
    Blk (((((w.setCell ⟨g, 0, none⟩ a0).setCell ⟨g, 1, none⟩ a1).setCell ⟨g, 2, none⟩ a2).setCell ⟨g, 3, none⟩ a3).setCell ⟨g, 4, none⟩ a4) g t #[a0, a1, a2, a3, a4] := by
  have h1 := ((((h.set 0 a0).set 1 a1).set 2 a2).set 3 a3).set 4 a4
  simpa using h1
theorem below_put5 {w : World} {B g : Nat} (hB : B ≤ g) (a0 a1 a2 a3 a4 : Value) : Below B w (((((w.setCell ⟨g, 0, none⟩ a0).setCell ⟨g, 1, none⟩ a1).setCell ⟨g, 2, none⟩ a2).setCell ⟨g, 3, none⟩ a3).setCell ⟨g, 4, none⟩ a4) :=
  (((((Below.refl B w).setCell (p := ⟨g, 0, none⟩) hB a0).setCell (p := ⟨g, 1, none⟩) hB a1).setCell (p := ⟨g, 2, none⟩) hB a2).setCell (p := ⟨g, 3, none⟩) hB a3).setCell (p := ⟨g, 4, none⟩) hB a4
theorem Blk.five {w : World} {g : Nat} {t : TypeId} {x0 x1 x2 x3 x4 : Value} (h : Blk w g t #[x0, x1, x2, x3, x4]) : w.cell? ⟨g, 0, none⟩ = some x0 ∧ w.cell? ⟨g, 1, none⟩ = some x1 ∧ w.cell? ⟨g, 2, none⟩ = some x2 ∧ w.cell? ⟨g, 3, none⟩ = some x3 ∧ w.cell? ⟨g, 4, none⟩ = some x4 :=
  ⟨(h.cell 0).trans rfl, (h.cell 1).trans rfl, (h.cell 2).trans rfl, (h.cell 3).trans rfl, (h.cell 4).trans rfl⟩
end Go.Proofs.Hd
namespace Go.Proofs
open Go.RowKit Go.Proofs.Hd Go.Lib
set_option maxRecDepth 100000 in
theorem run_eqP (w : World) (a0 a1 a2 a3 a4 b0 b1 b2 b3 b4 : Int) : (Op.equalIn 10000 91 (.agg #[.int .i64 a0, .int .i64 a1, .int .i64 a2, .int .i64 a3, .int .i64 a4]) (.agg #[.int .i64 b0, .int .i64 b1, .int .i64 b2, .int .i64 b3, .int .i64 b4])).run Try.prog w = .ok (eqP ⟨a0, a1, a2, a3, a4⟩ ⟨b0, b1, b2, b3, b4⟩) w := by
  unfold eqP
  cases h1 : a0 == b0
  · go_simp
  cases h2 : a1 == b1
  · go_simp
  cases h3 : a2 == b2
  · go_simp
  cases h4 : a3 == b3
  · go_simp
  cases h5 : a4 == b4 <;> go_simp
theorem within_c (x : Bool) (n m : Int) (w : World) (hx : inB n m = x) : Calls Try.prog 73 #[.int .i64 n, .int .i64 m] w fun e w' => e = .returned (.bool x) ∧ w = w' := by
  unfold inB at hx
  by_cases h0 : 0 ≤ n
  · by_cases h1 : n < m
    · rw [decide_eq_true h0, decide_eq_true h1] at hx
      subst hx
      go_enter Try.func73, Try.ntmps73
      go_wp2
      go_ret
      exact ⟨rfl, rfl⟩
    · rw [decide_eq_true h0, decide_eq_false h1] at hx
      subst hx
      go_enter Try.func73, Try.ntmps73
      go_wp2
      go_ret
      exact ⟨rfl, rfl⟩
  · rw [decide_eq_false h0] at hx
    subst hx
    go_enter Try.func73, Try.ntmps73
    go_wp2
    go_ret
    exact ⟨rfl, rfl⟩
theorem within_q (x : Bool) (n m : Int) (w : World) (hx : inB n m = x) : Calls Try.prog 73 #[.int .i64 n, .int .i64 m] w fun e w' => e = .returned (.bool x) ∧ w' = w := (within_c x n m w hx).mono fun _ _ h => ⟨h.1, h.2.symm⟩
/-- What topo.port answers. -/
def PortR (w : World) (o : Option Pt) (e : Ending) (w' : World) : Prop := (match o with | some p => e = .returned (.tuple #[.agg #[.int .i64 p.kind, .int .i64 p.ten, .int .i64 p.peer, .int .i64 p.spot, .int .i64 p.cost], .bool true]) | none => e = .returned (.tuple #[.agg #[.int .i64 0, .int .i64 0, .int .i64 0, .int .i64 0, .int .i64 0], .bool false])) ∧ Below w.heap.size w w'
set_option maxRecDepth 100000 in
set_option maxHeartbeats 400000 in
theorem port_no1 (tv : Value) (T : List (List Pt)) (n i : Int) (w : World) (hT : PsT w tv T) (h1 : inB n T.length = false) : Calls Try.prog 81 #[.agg #[tv], .agg #[.int .i64 n, .int .i64 i]] w (PortR w none) := by
  obtain ⟨A, cap, rfl⟩ := hT.form
  have B : Below w.heap.size w (((w.alloc (.cells #[.slice A T.length cap] 24)).alloc (.cells #[.int .i64 n, .int .i64 i] 56)).alloc (.cells #[.int .i64 0, .int .i64 0, .int .i64 0, .int .i64 0, .int .i64 0] 91)) := below3 w _ _ _
  have N : Blk (((w.alloc (.cells #[.slice A T.length cap] 24)).alloc (.cells #[.int .i64 n, .int .i64 i] 56)).alloc (.cells #[.int .i64 0, .int .i64 0, .int .i64 0, .int .i64 0, .int .i64 0] 91)) (w.heap.size + 1 + 1) 91 #[.int .i64 0, .int .i64 0, .int .i64 0, .int .i64 0, .int .i64 0] := Blk.new3 _ _ _ _ _
  clear hT
  go_enter Try.func81, Try.ntmps81
  go_wp2_with fail
  go_quiet ((go_at_call 73; exact Calls.quiet_of_same (within_q false n T.length _ h1)))
  replace B := bldrewN B nq
  replace N := N.drewN nq
  generalize (((w.alloc (.cells #[.slice A T.length cap] 24)).alloc (.cells #[.int .i64 n, .int .i64 i] 56)).alloc (.cells #[.int .i64 0, .int .i64 0, .int .i64 0, .int .i64 0, .int .i64 0] 91)).drewN nq = w1 at B N ⊢
  clear nq
  have K := N.put5 (.int .i64 0) (.int .i64 0) (.int .i64 0) (.int .i64 0) (.int .i64 0)
  have B2 : Below w.heap.size w _ := B.trans (below_put5 (w := w1) (B := w.heap.size) (g := w.heap.size + 1 + 1) (by omega) (.int .i64 0) (.int .i64 0) (.int .i64 0) (.int .i64 0) (.int .i64 0))
  obtain ⟨y0, y1, y2, y3, y4⟩ := N.five
  have f0 := N.free 0
  have f1 := N.free 1
  have f2 := N.free 2
  have f3 := N.free 3
  have f4 := N.free 4
  have HB := Lib.hid B2
  obtain ⟨z0, z1, z2, z3, z4⟩ := K.five
  have HK := Lib.hid K
  clear N K B B2
  go_wp2
  exact bodyPost_ret (v := .tuple #[.agg #[.int .i64 0, .int .i64 0, .int .i64 0, .int .i64 0, .int .i64 0], .bool false]) (by simp [results, Try.results81, go_sem, z0, z1, z2, z3, z4]) rfl ⟨rfl, HB.out⟩
end Go.Proofs

namespace Go.Proofs
open Go.RowKit Go.Proofs.Hd Go.Lib
set_option maxRecDepth 100000 in
set_option maxHeartbeats 400000 in
theorem port_no2 (tv : Value) (T : List (List Pt)) (n : Nat) (i : Int) (L : List Pt) (w : World) (hT : PsT w tv T) (hL : T[n]? = some L) (h2 : inB i L.length = false) : Calls Try.prog 81 #[.agg #[tv], .agg #[.int .i64 n, .int .i64 i]] w (PortR w none) := by
  obtain ⟨A, cap, rfl, htm, hA⟩ := hT
  have hnT := (List.getElem?_eq_some_iff.1 hL).1
  obtain ⟨b, o, rfl, hb, hc⟩ := hA (by rintro rfl; simp at hL)
  obtain ⟨s, hs, hP⟩ := hc n L hL
  obtain ⟨A2, cap2, rfl, hLm, _⟩ := hP
  have h1 : inB (n : Int) T.length = true := by simp [inB]; omega
  have hnz : (n : Int) < (T.length : Int) := by omega
  have B : Below w.heap.size w (((w.alloc (.cells #[.slice (some ⟨b, o, none⟩) T.length cap] 24)).alloc (.cells #[.int .i64 n, .int .i64 i] 56)).alloc (.cells #[.int .i64 0, .int .i64 0, .int .i64 0, .int .i64 0, .int .i64 0] 91)) := below3 w _ _ _
  have N : Blk (((w.alloc (.cells #[.slice (some ⟨b, o, none⟩) T.length cap] 24)).alloc (.cells #[.int .i64 n, .int .i64 i] 56)).alloc (.cells #[.int .i64 0, .int .i64 0, .int .i64 0, .int .i64 0, .int .i64 0] 91)) (w.heap.size + 1 + 1) 91 #[.int .i64 0, .int .i64 0, .int .i64 0, .int .i64 0, .int .i64 0] := Blk.new3 _ _ _ _ _
  have c := on_some B hs
  clear hA hc hs hL
  go_enter Try.func81, Try.ntmps81
  go_wp2_with fail
  go_quiet ((go_at_call 73; first | (with_reducible exact Calls.quiet_of_same (within_q true n T.length _ h1)) | (with_reducible exact Calls.quiet_of_same (within_q false i L.length _ h2))))
  clear c
  replace B := bldrewN B nq
  replace N := N.drewN nq
  generalize (((w.alloc (.cells #[.slice (some ⟨b, o, none⟩) T.length cap] 24)).alloc (.cells #[.int .i64 n, .int .i64 i] 56)).alloc (.cells #[.int .i64 0, .int .i64 0, .int .i64 0, .int .i64 0, .int .i64 0] 91)).drewN nq = w1 at B N ⊢
  clear nq
  have K := N.put5 (.int .i64 0) (.int .i64 0) (.int .i64 0) (.int .i64 0) (.int .i64 0)
  have B2 : Below w.heap.size w _ := B.trans (below_put5 (w := w1) (B := w.heap.size) (g := w.heap.size + 1 + 1) (by omega) (.int .i64 0) (.int .i64 0) (.int .i64 0) (.int .i64 0) (.int .i64 0))
  obtain ⟨y0, y1, y2, y3, y4⟩ := N.five
  have f0 := N.free 0
  have f1 := N.free 1
  have f2 := N.free 2
  have f3 := N.free 3
  have f4 := N.free 4
  have HB := Lib.hid B2
  obtain ⟨z0, z1, z2, z3, z4⟩ := K.five
  have HK := Lib.hid K
  clear N K B B2
  go_wp2
  exact bodyPost_ret (v := .tuple #[.agg #[.int .i64 0, .int .i64 0, .int .i64 0, .int .i64 0, .int .i64 0], .bool false]) (by simp [results, Try.results81, go_sem, z0, z1, z2, z3, z4]) rfl ⟨rfl, HB.out⟩
set_option maxRecDepth 100000 in
set_option maxHeartbeats 400000 in
theorem port_yes (tv : Value) (T : List (List Pt)) (n i : Nat) (L : List Pt) (p : Pt) (w : World) (hT : PsT w tv T) (hL : T[n]? = some L) (hp : L[i]? = some p) : Calls Try.prog 81 #[.agg #[tv], .agg #[.int .i64 n, .int .i64 i]] w (PortR w (some p)) := by
  obtain ⟨A, cap, rfl, htm, hA⟩ := hT
  have hnT := (List.getElem?_eq_some_iff.1 hL).1
  have hiL := (List.getElem?_eq_some_iff.1 hp).1
  obtain ⟨b, o, rfl, hb, hc⟩ := hA (by rintro rfl; simp at hL)
  obtain ⟨s, hs, hP⟩ := hc n L hL
  obtain ⟨A2, cap2, rfl, hLm, hP2⟩ := hP
  obtain ⟨b2, o2, rfl, hb2, hc2⟩ := hP2 (by rintro rfl; simp at hp)
  have hpc := hc2 i p hp
  have h1 : inB (n : Int) T.length = true := by simp [inB]; omega
  have h2 : inB (i : Int) L.length = true := by simp [inB]; omega
  have hnz : (n : Int) < (T.length : Int) := by omega
  have hiz : (i : Int) < (L.length : Int) := by omega
  have B : Below w.heap.size w (((w.alloc (.cells #[.slice (some ⟨b, o, none⟩) T.length cap] 24)).alloc (.cells #[.int .i64 n, .int .i64 i] 56)).alloc (.cells #[.int .i64 0, .int .i64 0, .int .i64 0, .int .i64 0, .int .i64 0] 91)) := below3 w _ _ _
  have N : Blk (((w.alloc (.cells #[.slice (some ⟨b, o, none⟩) T.length cap] 24)).alloc (.cells #[.int .i64 n, .int .i64 i] 56)).alloc (.cells #[.int .i64 0, .int .i64 0, .int .i64 0, .int .i64 0, .int .i64 0] 91)) (w.heap.size + 1 + 1) 91 #[.int .i64 0, .int .i64 0, .int .i64 0, .int .i64 0, .int .i64 0] := Blk.new3 _ _ _ _ _
  have N0 : Blk (((w.alloc (.cells #[.slice (some ⟨b, o, none⟩) T.length cap] 24)).alloc (.cells #[.int .i64 n, .int .i64 i] 56)).alloc (.cells #[.int .i64 0, .int .i64 0, .int .i64 0, .int .i64 0, .int .i64 0] 91)) w.heap.size 24 #[.slice (some ⟨b, o, none⟩) T.length cap] := ((Blk.new w _ _).on (below1 _ _)).on (below1 _ _)
  have N1 : Blk (((w.alloc (.cells #[.slice (some ⟨b, o, none⟩) T.length cap] 24)).alloc (.cells #[.int .i64 n, .int .i64 i] 56)).alloc (.cells #[.int .i64 0, .int .i64 0, .int .i64 0, .int .i64 0, .int .i64 0] 91)) (w.heap.size + 1) 56 #[.int .i64 n, .int .i64 i] := (Blk.new2 w _ _ _).on (below1 _ _)
  have c := on_some B hs
  have hpc1 := hpc.on B
  clear hA hc hs hL hpc hP2 hc2 hp
  go_enter Try.func81, Try.ntmps81
  go_wp2_with fail
  go_quiet ((go_at_call 73; first | (with_reducible exact Calls.quiet_of_same (within_q true n T.length _ h1)) | (with_reducible exact Calls.quiet_of_same (within_q true i L.length _ h2))))
  have c' := on_some (bldrewN (Below.refl _ _) nq) c
  have p' := hpc1.on (bldrewN (Below.refl _ _) nq)
  replace B := bldrewN B nq
  replace N := N.drewN nq
  replace N0 := N0.drewN nq
  replace N1 := N1.drewN nq
  clear c hpc1
  generalize (((w.alloc (.cells #[.slice (some ⟨b, o, none⟩) T.length cap] 24)).alloc (.cells #[.int .i64 n, .int .i64 i] 56)).alloc (.cells #[.int .i64 0, .int .i64 0, .int .i64 0, .int .i64 0, .int .i64 0] 91)).drewN nq = w1 at B N N0 N1 c' p' ⊢
  clear nq
  have K := N.put5 (.int .i64 p.kind) (.int .i64 p.ten) (.int .i64 p.peer) (.int .i64 p.spot) (.int .i64 p.cost)
  have B2 : Below w.heap.size w _ := B.trans (below_put5 (w := w1) (B := w.heap.size) (g := w.heap.size + 1 + 1) (by omega) (.int .i64 p.kind) (.int .i64 p.ten) (.int .i64 p.peer) (.int .i64 p.spot) (.int .i64 p.cost))
  obtain ⟨y0, y1, y2, y3, y4⟩ := N.five
  obtain ⟨q0, q1, q2, q3, q4⟩ := p'
  have t0 := (N0.cell 0).trans rfl
  have s0 := (N1.cell 0).trans rfl
  have s1 := (N1.cell 1).trans rfl
  have f0 := N.free 0
  have f1 := N.free 1
  have f2 := N.free 2
  have f3 := N.free 3
  have f4 := N.free 4
  have HB := Lib.hid B2
  have HK := Lib.hid K
  clear N K B B2 N0 N1
  have mixed : Try.prog.follows Departure.mixedOrders = true := by kernel_rfl
  go_wp2_with fail
  go_big_region_o
  obtain ⟨z0, z1, z2, z3, z4⟩ := HK.out.five
  go_wp2
  exact bodyPost_ret (v := .tuple #[.agg #[.int .i64 p.kind, .int .i64 p.ten, .int .i64 p.peer, .int .i64 p.spot, .int .i64 p.cost], .bool true]) (by simp [results, Try.results81, go_sem, z0, z1, z2, z3, z4]) rfl ⟨rfl, HB.out.drew⟩
end Go.Proofs

namespace Go.Proofs.Hd
open Go.RowKit
/-- Does the port at p lead to one that leads back? -/
def ansP (T : List (List Pt)) (n i : Int) (p : Pt) : Bool := match ptAt T p.peer p.spot with
  | none => false
  | some q => !(p.peer == n) && eqP q ⟨2, 0, n, i, p.cost⟩
/-- May port i of switch n be? -/
def okP (T : List (List Pt)) (n i : Int) (p : Pt) : Bool :=
  if p.kind = 1 then inB p.ten 4 && eqP p ⟨1, p.ten, 0, 0, 0⟩ else if p.kind = 2 then decide (p.ten = 0) && decide (1 ≤ p.cost) && decide (p.cost ≤ 1000) && ansP T n i p else eqP p ⟨0, 0, 0, 0, 0⟩
/-- Are there as many switches and ports as there may be? -/
def szT (T : List (List Pt)) : Bool := decide (1 ≤ T.length) && decide (T.length ≤ 6) && T.all fun L => decide (L.length ≤ 6)
theorem szT_iff {T : List (List Pt)} : szT T = true ↔ 1 ≤ T.length ∧ T.length ≤ 6 ∧ ∀ L ∈ T, L.length ≤ 6 := by simp [szT, and_assoc]
theorem Blk.both {w : World} {g : Nat} {t : TypeId} {x0 x1 : Value} (h : Blk w g t #[x0, x1]) : w.cell? ⟨g, 0, none⟩ = some x0 ∧ w.cell? ⟨g, 1, none⟩ = some x1 := ⟨(h.cell 0).trans rfl, (h.cell 1).trans rfl⟩
theorem Blk.one {w : World} {g : Nat} {t : TypeId} {x0 : Value} (h : Blk w g t #[x0]) : w.cell? ⟨g, 0, none⟩ = some x0 := (h.cell 0).trans rfl
end Go.Proofs.Hd
namespace Go.Proofs
open Go.RowKit Go.Proofs.Hd Go.Lib
attribute [local go_sem high] run_eqP
theorem port_c (tv : Value) (T : List (List Pt)) (n i : Int) (w : World) (hT : PsT w tv T) : Calls Try.prog 81 #[.agg #[tv], .agg #[.int .i64 n, .int .i64 i]] w (PortR w (ptAt T n i)) := by
  cases h1 : inB n T.length with
  | false => rw [ptAt_far1 h1]; exact port_no1 tv T n i w hT h1
  | true =>
    obtain ⟨n', rfl⟩ : ∃ n' : Nat, n = (n' : Int) := ⟨n.toNat, by simp [inB] at h1; omega⟩
    have hn : n' < T.length := by simp [inB] at h1; omega
    have hL : T[n']? = some T[n'] := List.getElem?_eq_getElem hn
    generalize T[n'] = L at hL
    cases h2 : inB i L.length with
    | false => rw [ptAt_far2 hL h2]; exact port_no2 tv T n' i L w hT hL h2
    | true =>
      obtain ⟨i', rfl⟩ : ∃ i' : Nat, i = (i' : Int) := ⟨i.toNat, by simp [inB] at h2; omega⟩
      have hi : i' < L.length := by simp [inB] at h2; omega
      have hp : L[i']? = some L[i'] := List.getElem?_eq_getElem hi
      rw [ptAt_nat hL hp]
      exact port_yes tv T n' i' L L[i'] w hT hL hp
set_option maxRecDepth 100000 in
set_option maxHeartbeats 1000000 in
theorem ans_c (x : Bool) (tv : Value) (T : List (List Pt)) (n i : Int) (p : Pt) (w : World) (hT : PsT w tv T) (hx : ansP T n i p = x) : Calls Try.prog 74 #[.agg #[tv], .agg #[.int .i64 n, .int .i64 i], .agg #[.int .i64 p.kind, .int .i64 p.ten, .int .i64 p.peer, .int .i64 p.spot, .int .i64 p.cost]] w fun e w' => e = .returned (.bool x) ∧ Below w.heap.size w w' := by
  have B0 : Below w.heap.size w (((w.alloc (.cells #[tv] 24)).alloc (.cells #[.int .i64 n, .int .i64 i] 56)).alloc (.cells #[.int .i64 p.kind, .int .i64 p.ten, .int .i64 p.peer, .int .i64 p.spot, .int .i64 p.cost] 91)) := below3 w _ _ _
  have N0 : Hid (Blk (((w.alloc (.cells #[tv] 24)).alloc (.cells #[.int .i64 n, .int .i64 i] 56)).alloc (.cells #[.int .i64 p.kind, .int .i64 p.ten, .int .i64 p.peer, .int .i64 p.spot, .int .i64 p.cost] 91)) w.heap.size 24 #[tv]) := ((Blk.new w _ _).on (below1 _ _)).on (below1 _ _)
  have N1 : Hid (Blk (((w.alloc (.cells #[tv] 24)).alloc (.cells #[.int .i64 n, .int .i64 i] 56)).alloc (.cells #[.int .i64 p.kind, .int .i64 p.ten, .int .i64 p.peer, .int .i64 p.spot, .int .i64 p.cost] 91)) (w.heap.size + 1) 56 #[.int .i64 n, .int .i64 i]) := (Blk.new2 w _ _ _).on (below1 _ _)
  have N2 : Hid (Blk (((w.alloc (.cells #[tv] 24)).alloc (.cells #[.int .i64 n, .int .i64 i] 56)).alloc (.cells #[.int .i64 p.kind, .int .i64 p.ten, .int .i64 p.peer, .int .i64 p.spot, .int .i64 p.cost] 91)) (w.heap.size + 1 + 1) 91 #[.int .i64 p.kind, .int .i64 p.ten, .int .i64 p.peer, .int .i64 p.spot, .int .i64 p.cost]) := Blk.new3 _ _ _ _ _
  have hcon := port_c tv T p.peer p.spot _ (hT.on B0)
  obtain ⟨A, cap, rfl⟩ := hT.form
  obtain ⟨kd, tn, pr, sp, co⟩ := p
  dsimp only at hcon B0 N0 N1 N2 ⊢
  unfold ansP at hx
  dsimp only at hx
  cases hq : ptAt T pr sp with
  | none =>
    rw [hq] at hcon hx
    simp only at hx
    subst hx
    clear hq hT
    go_enter Try.func74, Try.ntmps74
    go_wp2_with fail
    (with_reducible refine hcon.mono ?_)
    rintro e w1 ⟨he, hb⟩
    simp only at he
    subst he
    obtain ⟨s0, s1⟩ := (N1.out.on hb).both
    obtain ⟨p0, p1, p2, p3, p4⟩ := (N2.out.on hb).five
    have HB := Lib.hid (B0.trans (hb.mono B0.size))
    have g1 := (N1.out.on hb).lt
    have g2 := (N2.out.on hb).lt
    have g3 := Nat.ne_of_lt g1
    have g4 := Nat.ne_of_lt g2
    have g5 : ¬ w.heap.size = w1.heap.size := by omega
    clear hcon N0 N1 N2 B0 hb
    go_wp2
    go_ret
    exact ⟨rfl, HB.out.trans ((below2 w1 _ _).mono HB.out.size)⟩
  | some q =>
    rw [hq] at hcon hx
    obtain ⟨qk, qt, qp, qs, qc⟩ := q
    simp only at hx
    clear hq hT
    go_enter Try.func74, Try.ntmps74
    go_wp2_with fail
    (with_reducible refine hcon.mono ?_)
    rintro e w1 ⟨he, hb⟩
    simp only at he
    subst he
    obtain ⟨s0, s1⟩ := (N1.out.on hb).both
    obtain ⟨p0, p1, p2, p3, p4⟩ := (N2.out.on hb).five
    have HB := Lib.hid (B0.trans (hb.mono B0.size))
    have g1 := (N1.out.on hb).lt
    have g2 := (N2.out.on hb).lt
    have g3 := Nat.ne_of_lt g1
    have g4 := Nat.ne_of_lt g2
    have g5 : ¬ w.heap.size = w1.heap.size := by omega
    clear hcon N0 N1 N2 B0 hb
    have s0' := on_some (below2 w1 (.cells #[.int .i64 qk, .int .i64 qt, .int .i64 qp, .int .i64 qs, .int .i64 qc] 91) (.cells #[.int .i64 2, .int .i64 0, .int .i64 n, .int .i64 i, .int .i64 co] 91)) s0
    have p2' := on_some (below2 w1 (.cells #[.int .i64 qk, .int .i64 qt, .int .i64 qp, .int .i64 qs, .int .i64 qc] 91) (.cells #[.int .i64 2, .int .i64 0, .int .i64 n, .int .i64 i, .int .i64 co] 91)) p2
    by_cases hpn : pr = n
    · have hx2 : x = false := by rw [← hx, beq_iff_eq.2 hpn]; rfl
      subst hx2
      subst hpn
      go_wp2
      go_ret
      exact ⟨rfl, HB.out.trans ((below2 w1 _ _).mono HB.out.size)⟩
    · have hx2 : eqP ⟨qk, qt, qp, qs, qc⟩ ⟨2, 0, n, i, co⟩ = x := by rw [← hx, beq_false_of_ne hpn]; rfl
      go_wp2
      go_ret
      have hbn : (pr != n) = true := by simp [hpn]
      exact ⟨by show Ending.returned (Value.bool (pr != n && x)) = _; rw [hbn]; rfl, HB.out.trans ((below2 w1 _ _).mono HB.out.size)⟩
set_option maxRecDepth 100000 in
set_option maxHeartbeats 1000000 in
theorem formed_c (x : Bool) (tv : Value) (T : List (List Pt)) (n i : Int) (p : Pt) (w : World) (hT : PsT w tv T) (hx : okP T n i p = x) : Calls Try.prog 56 #[.agg #[tv], .agg #[.int .i64 n, .int .i64 i], .agg #[.int .i64 p.kind, .int .i64 p.ten, .int .i64 p.peer, .int .i64 p.spot, .int .i64 p.cost]] w fun e w' => e = .returned (.bool x) ∧ Below w.heap.size w w' := by
  have B0 : Below w.heap.size w (((w.alloc (.cells #[tv] 24)).alloc (.cells #[.int .i64 n, .int .i64 i] 56)).alloc (.cells #[.int .i64 p.kind, .int .i64 p.ten, .int .i64 p.peer, .int .i64 p.spot, .int .i64 p.cost] 91)) := below3 w _ _ _
  have N0 : Hid (Blk (((w.alloc (.cells #[tv] 24)).alloc (.cells #[.int .i64 n, .int .i64 i] 56)).alloc (.cells #[.int .i64 p.kind, .int .i64 p.ten, .int .i64 p.peer, .int .i64 p.spot, .int .i64 p.cost] 91)) w.heap.size 24 #[tv]) := ((Blk.new w _ _).on (below1 _ _)).on (below1 _ _)
  have N1 : Hid (Blk (((w.alloc (.cells #[tv] 24)).alloc (.cells #[.int .i64 n, .int .i64 i] 56)).alloc (.cells #[.int .i64 p.kind, .int .i64 p.ten, .int .i64 p.peer, .int .i64 p.spot, .int .i64 p.cost] 91)) (w.heap.size + 1) 56 #[.int .i64 n, .int .i64 i]) := (Blk.new2 w _ _ _).on (below1 _ _)
  have N2 : Hid (Blk (((w.alloc (.cells #[tv] 24)).alloc (.cells #[.int .i64 n, .int .i64 i] 56)).alloc (.cells #[.int .i64 p.kind, .int .i64 p.ten, .int .i64 p.peer, .int .i64 p.spot, .int .i64 p.cost] 91)) (w.heap.size + 1 + 1) 91 #[.int .i64 p.kind, .int .i64 p.ten, .int .i64 p.peer, .int .i64 p.spot, .int .i64 p.cost]) := Blk.new3 _ _ _ _ _
  obtain ⟨A, cap, rfl⟩ := hT.form
  obtain ⟨kd, tn, pr, sp, co⟩ := p
  dsimp only at B0 N0 N1 N2 ⊢
  have HT := Lib.hid hT
  clear hT
  unfold okP at hx
  dsimp only at hx
  by_cases k1 : kd = 1
  · rw [if_pos k1] at hx
    subst k1
    cases hb : inB tn 4 with
    | false =>
      rw [hb] at hx
      simp at hx
      subst hx
      go_enter Try.func56, Try.ntmps56
      go_wp2_with fail
      (with_reducible refine (within_c false tn 4 _ hb).mono ?_)
      rintro e w1 ⟨rfl, rfl⟩
      go_wp2
      go_ret
      exact ⟨rfl, B0⟩
    | true =>
      rw [hb, Bool.true_and] at hx
      go_enter Try.func56, Try.ntmps56
      go_wp2_with fail
      (with_reducible refine (within_c true tn 4 _ hb).mono ?_)
      rintro e w1 ⟨rfl, rfl⟩
      go_wp2
      go_ret
      exact ⟨rfl, B0⟩
  · rw [if_neg k1] at hx
    by_cases k2 : kd = 2
    · rw [if_pos k2] at hx
      subst k2
      by_cases h0 : tn = 0
      · rw [decide_eq_true h0] at hx
        subst h0
        by_cases h1 : 1 ≤ co
        · by_cases h2 : co ≤ 1000
          · rw [decide_eq_true h1, decide_eq_true h2, Bool.true_and, Bool.true_and, Bool.true_and] at hx
            go_enter Try.func56, Try.ntmps56
            go_wp2_with fail
            (with_reducible refine (ans_c x _ T n i ⟨2, 0, pr, sp, co⟩ _ (HT.out.on B0) hx).mono ?_)
            rintro e w1 ⟨rfl, hb⟩
            have HB := Lib.hid (B0.trans (hb.mono B0.size))
            clear B0 hb N0 N1 N2
            go_wp2
            go_ret
            exact ⟨rfl, HB.out⟩
          · rw [decide_eq_false h2] at hx
            simp at hx
            subst hx
            go_enter Try.func56, Try.ntmps56
            go_wp2
            go_ret
            exact ⟨rfl, B0⟩
        · rw [decide_eq_false h1] at hx
          simp at hx
          subst hx
          go_enter Try.func56, Try.ntmps56
          go_wp2
          go_ret
          exact ⟨rfl, B0⟩
      · rw [decide_eq_false h0] at hx
        simp at hx
        subst hx
        go_enter Try.func56, Try.ntmps56
        go_wp2
        go_ret
        exact ⟨rfl, B0⟩
    · rw [if_neg k2] at hx
      go_enter Try.func56, Try.ntmps56
      go_wp2
      go_ret
      exact ⟨rfl, B0⟩
end Go.Proofs

namespace Go.Proofs.Hd
open Go.RowKit
/-- May the ports of the first k switches be? -/
def okTo (T : List (List Pt)) (k : Nat) : Prop := ∀ (n i : Nat) (L : List Pt) (p : Pt), n < k → T[n]? = some L → L[i]? = some p → okP T n i p = true
/-- May the first j ports of switch n be? -/
def okUp (T : List (List Pt)) (n : Nat) (L : List Pt) (j : Nat) : Prop := ∀ (i : Nat) (p : Pt), i < j → L[i]? = some p → okP T n i p = true
open Classical in
/-- What Sound says. -/
noncomputable def sTp (T : List (List Pt)) : Int := if szT T = false then 4 else if okTo T T.length then 0 else 2
theorem sTp_range {T : List (List Pt)} (h : szT T = false) : sTp T = 4 := by unfold sTp; rw [if_pos h]
theorem sTp_ok {T : List (List Pt)} (h : szT T = true) (h2 : okTo T T.length) : sTp T = 0 := by unfold sTp; rw [if_neg (by rw [h]; decide), if_pos h2]
theorem sTp_form {T : List (List Pt)} (h : szT T = true) {n i : Nat} {L : List Pt} {p : Pt} (hL : T[n]? = some L) (hp : L[i]? = some p) (hx : okP T n i p = false) : sTp T = 2 := by
  unfold sTp
  rw [if_neg (by rw [h]; decide), if_neg]
  intro hk
  rw [hk n i L p (List.getElem?_eq_some_iff.1 hL).1 hL hp] at hx
  cases hx
theorem sTp_zero {T : List (List Pt)} (h : sTp T = 0) : szT T = true ∧ okTo T T.length := by
  unfold sTp at h
  split at h
  · cases h
  · split at h
    · rename_i h1 h2
      exact ⟨by simpa using h1, h2⟩
    · cases h
theorem okTo_succ {T : List (List Pt)} {n : Nat} {L : List Pt} (h : okTo T n) (hL : T[n]? = some L) (hu : okUp T n L L.length) : okTo T (n + 1) := by
  intro n' i L' p hn hL' hp
  by_cases e : n' = n
  · subst e
    rw [hL] at hL'
    injection hL' with hL'
    subst hL'
    exact hu i p (List.getElem?_eq_some_iff.1 hp).1 hp
  · exact h n' i L' p (by omega) hL' hp
theorem okUp_succ {T : List (List Pt)} {n i : Nat} {L : List Pt} {p : Pt} (h : okUp T n L i) (hp : L[i]? = some p) (hx : okP T n i p = true) : okUp T n L (i + 1) := by
  intro i' p' hi hp'
  by_cases e : i' = i
  · subst e
    rw [hp] at hp'
    injection hp' with hp'
    subst hp'
    exact hx
  · exact h i' p' (by omega) hp'
end Go.Proofs.Hd
namespace Go.Proofs
open Go.RowKit Go.Proofs.Hd Go.Lib
set_option maxRecDepth 100000 in
set_option maxHeartbeats 1000000 in
theorem sized_c (x : Bool) (tv : Value) (T : List (List Pt)) (w : World) (hT : PsT w tv T) (hx : szT T = x) : Calls Try.prog 55 #[.agg #[tv]] w fun e w' => e = .returned (.bool x) ∧ Below w.heap.size w w' := by
  obtain ⟨A, cap, rfl, htm, hA⟩ := hT
  have HB := Lib.hid (below1 w (.cells #[.slice A T.length cap] 24))
  have htz : (T.length : Int) ≤ 9223372036854775807 := by unfold maxLen at htm; omega
  by_cases h1 : 1 ≤ T.length
  · by_cases h6 : T.length ≤ 6
    · have hz1 : ¬ (T.length : Int) < 1 := by omega
      have hz6 : ¬ (6 : Int) < (T.length : Int) := by omega
      obtain ⟨b, o, rfl, hb0, hc⟩ := hA (by rintro rfl; simp at h1)
      have hx2 : (T.all fun L => decide (L.length ≤ 6)) = x := by rw [← hx]; simp [szT, h1, h6]
      have HC := Lib.hid hc
      have HX := Lib.hid hx2
      clear hc hA hx hx2
      go_enter Try.func55, Try.ntmps55
      go_wp2
      go_loopg [4, 18] T.length (fun gk _ s18 wr => ∃ (k : Nat), k ≤ T.length ∧ gk = T.length - k ∧ s18 = .int .i64 k ∧ Hid (∀ j L, j < k → T[j]? = some L → L.length ≤ 6) ∧ Hid (Below w.heap.size w wr))
      case atStart => exact ⟨0, Nat.zero_le _, rfl, rfl, fun j L hj => absurd hj (Nat.not_lt_zero _), HB⟩
      case round =>
        clear HB
        obtain ⟨k, hk, rfl, rfl, HN, HW⟩ := hrel
        by_cases hlt : k < T.length
        · have hltz : (k : Int) < (T.length : Int) := by omega
          obtain ⟨L, hTL⟩ : ∃ L, T[k]? = some L := ⟨_, List.getElem?_eq_getElem hlt⟩
          obtain ⟨s, hcell0, A1, c1, rfl, _⟩ := HC.out k L hTL
          have hcell := on_some HW.out hcell0
          have HTL := Lib.hid hTL
          clear hTL hcell0
          by_cases hl6 : L.length ≤ 6
          · have hl6z : ¬ (6 : Int) < (L.length : Int) := by omega
            have HN2 : Hid (∀ j L, j < k + 1 → T[j]? = some L → L.length ≤ 6) := fun j L' hj hL' => by
              by_cases e : j = k
              · subst e
                rw [HTL.out] at hL'
                injection hL' with hL'
                subst hL'
                exact hl6
              · exact HN.out j L' (by omega) hL'
            clear HN
            go_wp2
            go_roundg (T.length - (k + 1))
            case measure => omega
            case rel => exact ⟨k + 1, by omega, rfl, by go_num, HN2, HW⟩
          · have hl6z : (6 : Int) < (L.length : Int) := by omega
            have HE : Hid (x = false) := by
              show _ = _
              rw [← HX.out, List.all_eq_false]
              exact ⟨L, List.mem_of_getElem? HTL.out, by simpa using hl6⟩
            clear HN HX
            go_wp2
            go_ret
            exact ⟨by rw [HE.out]; rfl, HW.out⟩
        · have hltz : ¬ (k : Int) < (T.length : Int) := by omega
          have HE : Hid (x = true) := by
            show _ = _
            rw [← HX.out, List.all_eq_true]
            intro L hL
            obtain ⟨j, hj⟩ := List.getElem?_of_mem hL
            have := (List.getElem?_eq_some_iff.1 hj).1
            exact decide_eq_true (HN.out j L (by omega) hj)
          clear HN HX
          go_wp2
          go_ret
          exact ⟨by rw [HE.out]; rfl, HW.out⟩
    · have hz1 : ¬ (T.length : Int) < 1 := by omega
      have hz6 : (6 : Int) < (T.length : Int) := by omega
      have hx2 : x = false := by rw [← hx]; simp [szT, h6]
      subst hx2
      clear hA hx
      go_enter Try.func55, Try.ntmps55
      go_wp2
      go_ret
      exact ⟨rfl, HB.out⟩
  · have hx2 : x = false := by rw [← hx]; simp [szT, h1]
    have h0 : T.length = 0 := by omega
    subst hx2
    clear hA hx
    rw [h0] at HB ⊢
    go_enter Try.func55, Try.ntmps55
    go_wp2
    go_ret
    exact ⟨rfl, HB.out⟩
set_option maxRecDepth 100000 in
set_option maxHeartbeats 2000000 in
theorem tpsound_c (tv : Value) (T : List (List Pt)) (w : World) (hT : PsT w tv T) : Calls Try.prog 38 #[.agg #[tv]] w fun e w' => e = .returned (.int .i64 (sTp T)) ∧ Below w.heap.size w w' := by
  have HT := Lib.hid hT
  obtain ⟨A, cap, rfl, htm, hA⟩ := hT
  have B0 := below1 w (.cells #[.slice A T.length cap] 24)
  have N0 : Hid (Blk (w.alloc (.cells #[.slice A T.length cap] 24)) w.heap.size 24 #[.slice A T.length cap]) := Blk.new w _ _
  have htz : (T.length : Int) ≤ 9223372036854775807 := by unfold maxLen at htm; omega
  cases hs : szT T with
  | false =>
    have HE := Lib.hid (sTp_range hs)
    clear hA
    go_enter Try.func38, Try.ntmps38
    go_wp2_with fail
    (with_reducible refine (sized_c false _ T _ (HT.out.on B0) hs).mono ?_)
    rintro e w1 ⟨rfl, hb⟩
    have HB := Lib.hid (B0.trans (hb.mono B0.size))
    clear hb B0 N0
    go_wp2
    go_ret
    exact ⟨by rw [HE.out]; rfl, HB.out⟩
  | true =>
    obtain ⟨h1, h6, hl6⟩ := szT_iff.1 hs
    obtain ⟨b, o, rfl, hb0, hc⟩ := hA (by rintro rfl; simp at h1)
    have HC := Lib.hid hc
    have HL6 := Lib.hid hl6
    clear hA hc hl6
    go_enter Try.func38, Try.ntmps38
    go_wp2_with fail
    (with_reducible refine (sized_c true _ T _ (HT.out.on B0) hs).mono ?_)
    rintro e w1 ⟨rfl, hb⟩
    have HB := Lib.hid (B0.trans (hb.mono B0.size))
    have hz := (N0.out.on hb).lt
    have d0 := (N0.out.on hb).one
    have N1 := Lib.hid (N0.out.on hb)
    clear hb B0 N0
    go_wp2
    clear d0
    go_loopg [3, 4, 5, 6, 13, 20] T.length (fun gn s3 s4 s5 s6 s13 s20 wn => ∃ (n : Nat), n ≤ T.length ∧ gn = T.length - n ∧ s13 = .int .i64 n ∧ Hid (okTo T n) ∧ Hid (Blk wn w.heap.size 24 #[.slice (some ⟨b, o, none⟩) T.length cap]) ∧ Hid (Below w.heap.size w wn))
    case atStart => exact ⟨0, Nat.zero_le _, rfl, rfl, fun n i L p hn => absurd hn (Nat.not_lt_zero _), N1, HB⟩
    case round =>
      clear HB N1 hz
      obtain ⟨n, hn, rfl, rfl, HO, NB, HB⟩ := hrel
      by_cases hnt : n < T.length
      · have hntz : (n : Int) < (T.length : Int) := by omega
        obtain ⟨L, hTL⟩ : ∃ L, T[n]? = some L := ⟨_, List.getElem?_eq_getElem hnt⟩
        obtain ⟨s, hcell0, A1, c1, rfl, hLm, hA1⟩ := HC.out n L hTL
        have hcell := on_some HB.out hcell0
        have HA1 := Lib.hid hA1
        have HTL := Lib.hid hTL
        have hLz : (L.length : Int) ≤ 6 := by have := HL6.out L (List.mem_of_getElem? hTL); omega
        clear hTL hcell0 hA1
        go_wp2
        go_loopg [5, 6, 20] L.length (fun gi s5 s6 s20 wi => ∃ (i : Nat), i ≤ L.length ∧ gi = L.length - i ∧ s20 = .int .i64 i ∧ Hid (okUp T n L i) ∧ Hid (Blk wi w.heap.size 24 #[.slice (some ⟨b, o, none⟩) T.length cap]) ∧ Hid (Below w.heap.size w wi))
        case atStart => exact ⟨0, Nat.zero_le _, rfl, rfl, fun i p hi => absurd hi (Nat.not_lt_zero _), NB, HB⟩
        case round =>
          clear HB NB hcell
          obtain ⟨i, hi, rfl, rfl, HI, NB, HB⟩ := hrel
          by_cases hit : i < L.length
          · have hitz : (i : Int) < (L.length : Int) := by omega
            obtain ⟨p, hp⟩ : ∃ p, L[i]? = some p := ⟨_, List.getElem?_eq_getElem hit⟩
            obtain ⟨b1, o1, rfl, _, hpc⟩ := HA1.out (by rintro rfl; simp at hit)
            obtain ⟨c0, c1', c2, c3, c4⟩ := (hpc i p hp).on HB.out
            have hb1 := below1 wr (.cells #[.int .i64 p.kind, .int .i64 p.ten, .int .i64 p.peer, .int .i64 p.spot, .int .i64 p.cost] 91)
            have HB1 := Lib.hid (HB.out.trans (hb1.mono HB.out.size))
            have NB1 := Lib.hid (NB.out.on hb1)
            have hz := NB.out.lt
            have hzn := Nat.ne_of_lt hz
            have d0 := NB.out.one
            have HR := Lib.hid hp
            clear hp hpc hb1 HB NB
            cases hx : okP T n i p with
            | false =>
              have HE := Lib.hid (sTp_form hs HTL.out HR.out hx)
              go_wp2_with fail
              (with_reducible refine (formed_c false _ T n i p _ (HT.out.on HB1.out) hx).mono ?_)
              rintro e w2 ⟨rfl, hb2⟩
              have B2 := Lib.hid (HB1.out.trans (hb2.mono HB1.out.size))
              clear HB1 hb2 NB1 c0 c1' c2 c3 c4 d0
              go_wp2
              go_ret
              exact ⟨by rw [HE.out]; rfl, B2.out⟩
            | true =>
              have HI2 := Lib.hid (okUp_succ HI.out HR.out hx)
              go_wp2_with fail
              (with_reducible refine (formed_c true _ T n i p _ (HT.out.on HB1.out) hx).mono ?_)
              rintro e w2 ⟨rfl, hb2⟩
              have HB2 := Lib.hid (HB1.out.trans (hb2.mono HB1.out.size))
              have NB2 := Lib.hid (NB1.out.on hb2)
              clear HB1 hb2 NB1 c0 c1' c2 c3 c4 d0
              go_wp2
              go_roundg (L.length - (i + 1))
              case measure => omega
              case rel => exact ⟨i + 1, by omega, rfl, by go_num, HI2, NB2, HB2⟩
          · have hitz : ¬ (i : Int) < (L.length : Int) := by omega
            obtain rfl : i = L.length := by omega
            have HO2 := Lib.hid (okTo_succ HO.out HTL.out HI.out)
            go_wp2
            go_roundg (T.length - (n + 1))
            case measure => omega
            case rel => exact ⟨n + 1, by omega, rfl, by go_num, HO2, NB, HB⟩
      · have hntz : ¬ (n : Int) < (T.length : Int) := by omega
        obtain rfl : n = T.length := by omega
        have HE := Lib.hid (sTp_ok hs HO.out)
        clear HC HO
        go_wp2
        go_ret
        exact ⟨by rw [HE.out]; rfl, HB.out⟩
end Go.Proofs

namespace Go.Proofs.Hd
/-- A switch, and the cost of a way to it. -/
abbrev Rc := Nat × Nat
/-- Two places change. -/
def sw (g : Nat → Rc) (i j : Nat) : Nat → Rc := fun k => if k = i then g j else if k = j then g i else g k
end Go.Proofs.Hd

namespace Go.Proofs.Hd
open Go.RowKit
/-- Spots as cells. -/
def flS : List Rc → List Value
  | [] => []
  | x :: E => .int .i64 x.1 :: .int .i64 x.2 :: flS E
theorem flS_append (A B : List Rc) : flS (A ++ B) = flS A ++ flS B := by
  induction A with
  | nil => rfl
  | cons x A ih => simp [flS, ih]
theorem flS_get : ∀ {E : List Rc} {k : Nat} {x : Rc}, E[k]? = some x → (flS E)[k * 2]? = some (.int .i64 x.1) ∧ (flS E)[k * 2 + 1]? = some (.int .i64 x.2)
  | [], k, x, h => by simp at h
  | y :: E, 0, x, h => by simp at h; subst h; exact ⟨rfl, rfl⟩
  | y :: E, k + 1, x, h => by
    have h' : E[k]? = some x := by simpa using h
    have := flS_get h'
    rw [show (k + 1) * 2 = k * 2 + 1 + 1 from by omega]
    exact this
/-- The edges among the first j ports of switch n. -/
def eUp (n : Nat) (L : List Pt) (j : Nat) : List Rc := (List.range j).filterMap fun i => match L[i]? with
  | some p => if p.kind = 1 then some (n, i) else none
  | none => none
/-- The edges of the first k switches. -/
def eTo (T : List (List Pt)) (k : Nat) : List Rc := (List.range k).flatMap fun n => match T[n]? with
  | some L => eUp n L L.length
  | none => []
theorem eUp_succ {n : Nat} {L : List Pt} {j : Nat} {p : Pt} (h : L[j]? = some p) : eUp n L (j + 1) = eUp n L j ++ (if p.kind = 1 then [(n, j)] else []) := by
  unfold eUp
  rw [List.range_succ, List.filterMap_append]
  congr 1
  by_cases hk : p.kind = 1 <;> simp [h, hk]
theorem eTo_succ {T : List (List Pt)} {k : Nat} {L : List Pt} (h : T[k]? = some L) : eTo T (k + 1) = eTo T k ++ eUp k L L.length := by
  unfold eTo
  rw [List.range_succ, List.flatMap_append]
  simp [h]
theorem eUp_len (n : Nat) (L : List Pt) (j : Nat) : (eUp n L j).length ≤ j := by
  unfold eUp
  exact Nat.le_trans (List.length_filterMap_le _ _) (by simp)
/-- How many ports there are. -/
def ports (T : List (List Pt)) : Nat := (T.map List.length).sum
theorem take_sum {T : List (List Pt)} {k : Nat} {L : List Pt} (h : T[k]? = some L) : ((T.take (k + 1)).map List.length).sum = ((T.take k).map List.length).sum + L.length := by
  rw [List.take_add_one, h, List.map_append, List.sum_append]
  simp
theorem eTo_len (T : List (List Pt)) : ∀ k, k ≤ T.length → (eTo T k).length ≤ ((T.take k).map List.length).sum
  | 0, _ => by simp [eTo]
  | k + 1, h => by
    have hL : T[k]? = some T[k] := List.getElem?_eq_getElem (by omega)
    rw [eTo_succ hL, List.length_append, take_sum hL]
    have h1 := eTo_len T k (by omega)
    have h2 := eUp_len k T[k] T[k].length
    omega
theorem take_le (T : List (List Pt)) (k : Nat) : ((T.take k).map List.length).sum ≤ ports T := by
  unfold ports
  conv => rhs; rw [← List.take_append_drop k T]
  rw [List.map_append, List.sum_append]
  omega
theorem edges_le {T : List (List Pt)} {n i : Nat} {L : List Pt} (hL : T[n]? = some L) (hi : i ≤ L.length) : (eTo T n ++ eUp n L i).length ≤ ports T := by
  have hn := (List.getElem?_eq_some_iff.1 hL).1
  rw [List.length_append]
  have h1 := eTo_len T n (by omega)
  have h2 := eUp_len n L i
  have h3 := take_le T (n + 1)
  rw [take_sum hL] at h3
  omega
theorem src_spot {w : World} {b : Nat} {x y : Int} (h : Blk w b 56 #[.int .i64 x, .int .i64 y]) : Src w 2 (.slice (some ⟨b, 0, none⟩) 1 1) 1 [.int .i64 x, .int .i64 y] := by
  refine ⟨rfl, by intro u hu; simp at hu; rcases hu with rfl | rfl <;> rfl, .inr ⟨_, 1, rfl, fun j u hu => ?_⟩⟩
  have e : (⟨b, 0, none⟩ : Addr).add j = ⟨b, j, none⟩ := by unfold Addr.add; by_cases h0 : j = 0 <;> simp [h0]
  rw [e, h.cell]
  simpa using hu
theorem infoSpot : (Try.prog.info? 56).map (fun i => (i.zero, i.size, i.bytes)) = some (some (.agg #[.int .i64 0, .int .i64 0]), 2, 16) := by kernel_rfl
/-- Spots were returned, in memory of the call's own. -/
def GotE (w : World) (E : List Rc) (e : Ending) (w' : World) : Prop := ∃ v, e = .returned v ∧ w'.ownsRow w.heap.size 56 2 v E.length (flS E) ∧ Below w.heap.size w w'
end Go.Proofs.Hd
namespace Go.Proofs
open Go.RowKit Go.Proofs.Hd Go.Lib
set_option maxRecDepth 100000 in
set_option maxHeartbeats 2000000 in
theorem edges_c (tv : Value) (T : List (List Pt)) (w : World) (hT : PsT w tv T) (hP : ports T ≤ 2000000) : Calls Try.prog 21 #[.agg #[tv]] w (GotE w (eTo T T.length)) := by
  obtain ⟨i2, hi2, hz0, hz1, hz2⟩ := info_parts infoSpot
  obtain ⟨A, cap, rfl, htm, hA⟩ := hT
  have htz : (T.length : Int) ≤ 9223372036854775807 := by unfold maxLen at htm; omega
  have HB := Lib.hid (below1 w (.cells #[.slice A T.length cap] 24))
  have HA := Lib.hid hA
  have O0 : Hid ((w.alloc (.cells #[.slice A T.length cap] 24)).ownsRow w.heap.size 56 2 (.slice none 0 0) (eTo T 0).length (flS (eTo T 0))) := World.ownsRow_nil _ _ _ _
  clear hA
  go_enter Try.func21, Try.ntmps21
  go_wp2
  go_loopg [3, 4, 5, 6, 7, 11, 18] T.length (fun gn s3 _ _ _ _ s11 _ wn => ∃ (n : Nat), n ≤ T.length ∧ gn = T.length - n ∧ s11 = .int .i64 n ∧ Hid (wn.ownsRow w.heap.size 56 2 s3 (eTo T n).length (flS (eTo T n))) ∧ Hid (Below w.heap.size w wn))
  case atStart => exact ⟨0, Nat.zero_le _, rfl, rfl, O0, HB⟩
  case round =>
    clear HB O0
    obtain ⟨n, hn, rfl, rfl, HO, HB⟩ := hrel
    by_cases hnt : n < T.length
    · have hntz : (n : Int) < (T.length : Int) := by omega
      obtain ⟨L, hTL⟩ : ∃ L, T[n]? = some L := ⟨_, List.getElem?_eq_getElem hnt⟩
      obtain ⟨b, o, rfl, _, hc⟩ := HA.out (by rintro rfl; simp at hnt)
      obtain ⟨s, hcell0, A1, c1, rfl, hLm, hA1⟩ := hc n L hTL
      have hcell := on_some HB.out hcell0
      have HA1 := Lib.hid hA1
      have HTL := Lib.hid hTL
      have hLz : (L.length : Int) ≤ 9223372036854775807 := by unfold maxLen at hLm; omega
      have HO1 := HO
      rw [show eTo T n = eTo T n ++ eUp n L 0 from (List.append_nil _).symm] at HO1
      clear hTL hcell0 hA1 hc HO
      go_wp2
      clear hcell
      go_loopg [3, 6, 7, 18] L.length (fun gi s3 _ _ s18 wi => ∃ (i : Nat), i ≤ L.length ∧ gi = L.length - i ∧ s18 = .int .i64 i ∧ Hid (wi.ownsRow w.heap.size 56 2 s3 (eTo T n ++ eUp n L i).length (flS (eTo T n ++ eUp n L i))) ∧ Hid (Below w.heap.size w wi))
      case atStart => exact ⟨0, Nat.zero_le _, rfl, rfl, HO1, HB⟩
      case round =>
        clear HB HO1
        obtain ⟨i, hi, rfl, rfl, HO, HB⟩ := hrel
        by_cases hit : i < L.length
        · have hitz : (i : Int) < (L.length : Int) := by omega
          obtain ⟨p, hp⟩ : ∃ p, L[i]? = some p := ⟨_, List.getElem?_eq_getElem hit⟩
          obtain ⟨b1, o1, rfl, _, hpc⟩ := HA1.out (by rintro rfl; simp at hit)
          have hap := (hpc i p hp).on HB.out
          have hes := eUp_succ (n := n) hp
          have hlen := edges_le HTL.out (Nat.le_of_lt hit)
          obtain ⟨E, hE⟩ : ∃ E, Hid (eTo T n ++ eUp n L i = E) := ⟨_, rfl⟩
          rw [hE.out] at HO hlen
          obtain ⟨kd, tn, pr, sp, co⟩ := p
          obtain ⟨d0, d1, d2, d3, d4⟩ := hap
          have hb1 := below1 wr (.cells #[.int .i64 kd, .int .i64 tn, .int .i64 pr, .int .i64 sp, .int .i64 co] 91)
          have HB1 := Lib.hid (HB.out.trans (hb1.mono HB.out.size))
          have HO1 := Lib.hid (own_on HO.out hb1)
          clear hp hpc HB HO hb1
          by_cases hk : kd = 1
          · simp only [hk, if_true] at hes
            subst hk
            have HE2 : Hid (eTo T n ++ eUp n L (i + 1) = E ++ [(n, i)]) := by show _ = _; rw [hes, ← List.append_assoc, hE.out]
            have hb2 := below1 (wr.alloc (.cells #[.int .i64 1, .int .i64 tn, .int .i64 pr, .int .i64 sp, .int .i64 co] 91)) (.cells #[.int .i64 n, .int .i64 i] 56)
            have HB2 := Lib.hid (HB1.out.trans (hb2.mono HB1.out.size))
            have O2 := own_on HO1.out hb2
            have SR := src_spot (Blk.new2 wr (.cells #[.int .i64 1, .int .i64 tn, .int .i64 pr, .int .i64 sp, .int .i64 co] 91) 56 #[.int .i64 n, .int .i64 i])
            have hz3 := HB2.out.size
            clear hes HO1 HB1 hb2
            go_wp2_with (at_builtin; refine wpList_app _ rfl (.tmp 26) (.tmp 30) 73 rfl w.heap.size 56 i2 _ 2 16 Try.underlying73 hi2 hz0 hz1 hz2 rfl (by decide) _ E.length (flS E) rfl O2 _ 1 [.int .i64 n, .int .i64 i] rfl SR (by unfold maxLen; omega) (by omega) hz3 ?_)
            intro v3 w3 O3 hg3
            have HB3 := Lib.hid (HB2.out.grown hg3 hz3 (fun j hj => (O2.lt j hj).1))
            have HO3 : Hid (w3.ownsRow w.heap.size 56 2 v3 (eTo T n ++ eUp n L (i + 1)).length (flS (eTo T n ++ eUp n L (i + 1)))) := by
              show World.ownsRow _ _ _ _ _ _ _
              rw [HE2.out, flS_append, List.length_append]; exact O3
            clear O2 SR O3 hg3 HB2 hz3 d0 d1 d2 d3 d4
            go_wp2
            go_roundg (L.length - (i + 1))
            case measure => omega
            case rel => exact ⟨i + 1, by omega, rfl, by go_num, HO3, HB3⟩
          · simp only [hk, if_false, List.append_nil] at hes
            have HO3 := HO1
            rw [show E = eTo T n ++ eUp n L (i + 1) from by rw [hes, hE.out]] at HO3
            clear hes HO1
            go_wp2
            go_roundg (L.length - (i + 1))
            case measure => omega
            case rel => exact ⟨i + 1, by omega, rfl, by go_num, HO3, HB1⟩
        · have hitz : ¬ (i : Int) < (L.length : Int) := by omega
          obtain rfl : i = L.length := by omega
          have HO2 := HO
          rw [← eTo_succ HTL.out] at HO2
          clear HO
          go_wp2
          go_roundg (T.length - (n + 1))
          case measure => omega
          case rel => exact ⟨n + 1, by omega, rfl, by go_num, HO2, HB⟩
    · have hntz : ¬ (n : Int) < (T.length : Int) := by omega
      obtain rfl : n = T.length := by omega
      go_wp2
      go_ret
      exact ⟨_, rfl, HO.out, HB.out⟩
end Go.Proofs

namespace Go.Proofs.Ytanliiopdhjhjaa
open Go.ChangeShapes Go.WideShapes Go.ChangeAt Go.RowKit Go.Joins Go.Deep Go.Proofs.Hd
theorem cellsPt : Try.prog.cellsOf 91 = 5 := by kernel_rfl
theorem cellsPts : Try.prog.cellsOf 89 = 1 := by kernel_rfl
theorem cellsPtt : Try.prog.cellsOf 22 = 1 := by kernel_rfl
theorem cellsTopo : Try.prog.cellsOf 24 = 1 := by kernel_rfl
theorem cellsSpot : Try.prog.cellsOf 56 = 2 := by kernel_rfl
theorem cellsI : Try.prog.cellsOf 3 = 1 := by kernel_rfl
theorem add_plainW (b o n : Nat) : (⟨b, o, none⟩ : Addr).add n = ⟨b, o + n, none⟩ := by unfold Addr.add; by_cases hn : n = 0 <;> simp [hn]
instance : Inhabited Pt := ⟨⟨0, 0, 0, 0, 0⟩⟩
section
variable {H : Type} {enc : TypeId × Value → H} {W : World} {base : Nat} {sp : Nat → Bool}
theorem int_of {n : Nat} {c : Value} {y : DataW H × List MemPlace} (h : DataW.trod enc Try.prog W base sp true n 3 [c] = some y) : ∃ k : Int, c = .int .i64 k := by
  obtain ⟨k, e0, _, _⟩ := DataW.trod_int Try.underlying3 h
  simp at e0
  exact ⟨k, e0⟩
set_option maxRecDepth 100000 in
theorem read_pt {n : Nat} {cs : List Value} {y : DataW H × List MemPlace} (hl : cs.length = 5) (h0 : DataW.trod enc Try.prog W base sp true n 91 cs = some y) : ∃ p : Pt, cs = p.cs := by
  obtain ⟨xs, m, _, _, _, hxs, hf⟩ := DataW.trod_struct Try.underlying91 h0
  have hx5 : xs.length = 5 := hxs
  match cs, hl with
  | [c0, c1, c2, c3, c4], _ =>
    match xs, hx5 with
    | [x0, x1, x2, x3, x4], _ =>
      have q0 := hf 0 _ rfl
      have q1 := hf 1 _ rfl
      have q2 := hf 2 _ rfl
      have q3 := hf 3 _ rfl
      have q4 := hf 4 _ rfl
      simp [cellsI] at q0 q1 q2 q3 q4
      obtain ⟨k0, rfl⟩ := int_of q0
      obtain ⟨k1, rfl⟩ := int_of q1
      obtain ⟨k2, rfl⟩ := int_of q2
      obtain ⟨k3, rfl⟩ := int_of q3
      obtain ⟨k4, rfl⟩ := int_of q4
      exact ⟨⟨k0, k1, k2, k3, k4⟩, rfl⟩
end
/-- How many values a datum of ports has. -/
def wide {H : Type} (d : DataW H) (n : Nat) : Prop := n = 0 ∨ ∃ el sp, d = .slice el sp ∧ el.length = n
set_option maxRecDepth 100000 in
/-- A spot by value. -/
theorem open_spot {H : Type} {enc : TypeId × Value → H} {W : World} {base : Nat} {v : Value} {d : DataW H} {p : List MemPlace} (hok : Value.okWide Try.prog W .any base 56 v)
    (h0 : DataW.Trod enc Try.prog W 0 (fun _ => true) true 56 v d p) : ∃ a b : Int, v = .agg #[.int .i64 a, .int .i64 b] := by
  obtain ⟨c0, c1, y0, y1, m, rfl, rfl, rfl, hy0, hy1⟩ := open_agg2 Try.underlying56 (by kernel_rfl) cellsSpot hok h0
  obtain ⟨a, rfl⟩ := int_of hy0
  obtain ⟨b, rfl⟩ := int_of hy1
  exact ⟨a, b, rfl⟩
end Go.Proofs.Ytanliiopdhjhjaa

namespace Go.Proofs.Hd
open Go.RowKit
/-- v is a slice that reads as the pairs P. -/
def Pe (w : World) (v : Value) (P : List (Int × Int)) : Prop := ∃ A cap, v = .slice A P.length cap ∧ P.length ≤ maxLen ∧ (P ≠ [] → ∃ b o, A = some ⟨b, o, none⟩ ∧ b < w.heap.size ∧ ∀ (k : Nat) (x : Int × Int), P[k]? = some x → w.cell? ⟨b, o + k * 2, none⟩ = some (.int .i64 x.1) ∧ w.cell? ⟨b, o + k * 2 + 1, none⟩ = some (.int .i64 x.2))
theorem Pe.on {w w' : World} {v : Value} {P : List (Int × Int)} (h : Pe w v P) (hb : Below w.heap.size w w') : Pe w' v P := by
  obtain ⟨A, cap, e, hl, h⟩ := h
  refine ⟨A, cap, e, hl, fun hne => ?_⟩
  obtain ⟨b, o, e2, hlt, hc⟩ := h hne
  exact ⟨b, o, e2, Nat.lt_of_lt_of_le hlt hb.size, fun k x hk => ⟨on_some hb (hc k x hk).1, on_some hb (hc k x hk).2⟩⟩
/-- A way that packets must take. -/
structure Wa where
  frm : Int
  too : Int
  via : Int
/-- v is a slice that reads as the ways Q. -/
def Wy (w : World) (v : Value) (Q : List Wa) : Prop := ∃ A cap, v = .slice A Q.length cap ∧ Q.length ≤ maxLen ∧ (Q ≠ [] → ∃ b o, A = some ⟨b, o, none⟩ ∧ b < w.heap.size ∧ ∀ (k : Nat) (x : Wa), Q[k]? = some x → w.cell? ⟨b, o + k * 3, none⟩ = some (.int .i64 x.frm) ∧ w.cell? ⟨b, o + k * 3 + 1, none⟩ = some (.int .i64 x.too) ∧ w.cell? ⟨b, o + k * 3 + 2, none⟩ = some (.int .i64 x.via))
theorem Wy.on {w w' : World} {v : Value} {Q : List Wa} (h : Wy w v Q) (hb : Below w.heap.size w w') : Wy w' v Q := by
  obtain ⟨A, cap, e, hl, h⟩ := h
  refine ⟨A, cap, e, hl, fun hne => ?_⟩
  obtain ⟨b, o, e2, hlt, hc⟩ := h hne
  exact ⟨b, o, e2, Nat.lt_of_lt_of_le hlt hb.size, fun k x hk => ⟨on_some hb (hc k x hk).1, on_some hb (hc k x hk).2.1, on_some hb (hc k x hk).2.2⟩⟩
theorem Blk.three {w : World} {g : Nat} {t : TypeId} {x0 x1 x2 : Value} (h : Blk w g t #[x0, x1, x2]) : w.cell? ⟨g, 0, none⟩ = some x0 ∧ w.cell? ⟨g, 1, none⟩ = some x1 ∧ w.cell? ⟨g, 2, none⟩ = some x2 := ⟨(h.cell 0).trans rfl, (h.cell 1).trans rfl, (h.cell 2).trans rfl⟩
end Go.Proofs.Hd
namespace Go.Proofs
open Go.RowKit Go.Proofs.Hd Go.Lib
end Go.Proofs

namespace Go.Proofs.Hd
open Go.RowKit
/-- The tenant at a spot; -1 where there is no edge. -/
def edgT (T : List (List Pt)) (n i : Int) : Int := match ptAt T n i with
  | some p => if p.kind = 1 then p.ten else -1
  | none => -1
theorem edgT_none {T : List (List Pt)} {n i : Int} (h : ptAt T n i = none) : edgT T n i = -1 := by unfold edgT; rw [h]
theorem Blk.duo {w : World} {g : Nat} {t : TypeId} {x0 x1 : Value} (h : Blk w g t #[x0, x1]) : w.cell? ⟨g, 0, none⟩ = some x0 ∧ w.cell? ⟨g, 1, none⟩ = some x1 := ⟨(h.cell 0).trans rfl, (h.cell 1).trans rfl⟩
theorem Blk.single {w : World} {g : Nat} {t : TypeId} {x0 : Value} (h : Blk w g t #[x0]) : w.cell? ⟨g, 0, none⟩ = some x0 := (h.cell 0).trans rfl
end Go.Proofs.Hd
namespace Go.Proofs
open Go.RowKit Go.Proofs.Hd Go.Lib
set_option maxRecDepth 100000 in
set_option maxHeartbeats 2000000 in
theorem redge_c (tv : Value) (T : List (List Pt)) (n i : Int) (w : World) (hT : PsT w tv T) : Calls Try.prog 16 #[.agg #[tv], .agg #[.int .i64 n, .int .i64 i]] w fun e w' => e = .returned (.int .i64 (edgT T n i)) ∧ Below w.heap.size w w' := by
  obtain ⟨A, cap, rfl, htm, hA⟩ := hT
  have B0 : Below w.heap.size w ((w.alloc (.cells #[.slice A T.length cap] 24)).alloc (.cells #[.int .i64 n, .int .i64 i] 56)) := below2 w _ _
  have N0 : Blk ((w.alloc (.cells #[.slice A T.length cap] 24)).alloc (.cells #[.int .i64 n, .int .i64 i] 56)) w.heap.size 24 #[.slice A T.length cap] := (Blk.new w _ _).on (below1 _ _)
  have M0 : Blk ((w.alloc (.cells #[.slice A T.length cap] 24)).alloc (.cells #[.int .i64 n, .int .i64 i] 56)) (w.heap.size + 1) 56 #[.int .i64 n, .int .i64 i] := Blk.new2 w _ _ _
  have t0 := N0.single
  obtain ⟨s0, s1⟩ := M0.duo
  by_cases a1 : n < 0
  · have a1b : decide (n < 0) = true := decide_eq_true a1
    have HE := Lib.hid (edgT_none (T := T) (n := n) (i := i) (ptAt_far1 (by simp [inB]; omega)))
    clear hA N0 M0
    go_enter Try.func16, Try.ntmps16
    go_wp2_with fail
    go_quiet (fail)
    go_wp2
    go_ret
    exact ⟨by rw [HE.out]; rfl, bldrewN B0 _⟩
  have a1b : decide (n < 0) = false := decide_eq_false a1
  by_cases a2 : (T.length : Int) ≤ n
  · have a2b : decide ((T.length : Int) ≤ n) = true := decide_eq_true a2
    have HE := Lib.hid (edgT_none (T := T) (n := n) (i := i) (ptAt_far1 (by simp [inB]; omega)))
    clear hA N0 M0
    go_enter Try.func16, Try.ntmps16
    go_wp2_with fail
    go_quiet (fail)
    go_wp2
    go_ret
    exact ⟨by rw [HE.out]; rfl, bldrewN B0 _⟩
  obtain ⟨n', rfl⟩ : ∃ n' : Nat, n = (n' : Int) := ⟨n.toNat, by omega⟩
  have hn : n' < T.length := by omega
  have hnz : (n' : Int) < (T.length : Int) := by omega
  have a2b : decide ((T.length : Int) ≤ (n' : Int)) = false := decide_eq_false a2
  have a2c : decide (T.length ≤ n') = false := decide_eq_false (by omega)
  obtain ⟨L, hL⟩ : ∃ L, T[n']? = some L := ⟨_, List.getElem?_eq_getElem hn⟩
  obtain ⟨tb, tof, rfl, _, hcc⟩ := hA (by rintro rfl; simp at hn)
  obtain ⟨s, hs, A3, c3, rfl, hLm, hA3⟩ := hcc n' L hL
  have cs := on_some B0 hs
  by_cases a3 : i < 0
  · have a3b : decide (i < 0) = true := decide_eq_true a3
    have HE := Lib.hid (edgT_none (T := T) (n := n') (i := i) (ptAt_far2 hL (by simp [inB]; omega)))
    clear hA N0 M0 hs hcc hA3 hL
    go_enter Try.func16, Try.ntmps16
    go_wp2_with fail
    go_quiet (fail)
    go_wp2
    go_ret
    exact ⟨by rw [HE.out]; rfl, bldrewN B0 _⟩
  have a3b : decide (i < 0) = false := decide_eq_false a3
  by_cases a4 : (L.length : Int) ≤ i
  · have a4b : decide ((L.length : Int) ≤ i) = true := decide_eq_true a4
    have HE := Lib.hid (edgT_none (T := T) (n := n') (i := i) (ptAt_far2 hL (by simp [inB]; omega)))
    clear hA N0 M0 hs hcc hA3 hL
    go_enter Try.func16, Try.ntmps16
    go_wp2_with fail
    go_quiet (fail)
    go_wp2
    go_ret
    exact ⟨by rw [HE.out]; rfl, bldrewN B0 _⟩
  obtain ⟨i', rfl⟩ : ∃ i' : Nat, i = (i' : Int) := ⟨i.toNat, by omega⟩
  have hi : i' < L.length := by omega
  have hiz : (i' : Int) < (L.length : Int) := by omega
  have a4b : decide ((L.length : Int) ≤ (i' : Int)) = false := decide_eq_false a4
  have a4c : decide (L.length ≤ i') = false := decide_eq_false (by omega)
  obtain ⟨p, hp⟩ : ∃ p, L[i']? = some p := ⟨_, List.getElem?_eq_getElem hi⟩
  obtain ⟨b3, o3, rfl, _, hpc⟩ := hA3 (by rintro rfl; simp at hp)
  have hpt := ptAt_nat hL hp
  have hap := hpc i' p hp
  obtain ⟨kd, tn, pr, sp, co⟩ := p
  obtain ⟨u0, u1, u2, u3, u4⟩ := hap.on B0
  by_cases a5 : kd = 1
  · subst a5
    have HE : Hid (edgT T n' i' = tn) := by show _ = _; unfold edgT; rw [hpt]; rfl
    have HN := Lib.hid N0
    have HM := Lib.hid M0
    have HCS := Lib.hid hs
    have HAP := Lib.hid hap
    clear hA N0 M0 hs hcc hA3 hL hp hpc hap hpt
    go_enter Try.func16, Try.ntmps16
    go_wp2_with fail
    go_quiet (fail)
    have HB1 := Lib.hid (bldrewN B0 nq)
    have N1 := HN.out.drewN nq
    have M1 := HM.out.drewN nq
    clear t0 s0 s1 cs u0 u1 u2 u3 u4 B0 HN HM
    generalize ((w.alloc (.cells #[.slice (some ⟨tb, tof, none⟩) T.length cap] 24)).alloc (.cells #[.int .i64 (n' : Int), .int .i64 (i' : Int)] 56)).drewN nq = w1 at HB1 N1 M1 ⊢
    have t0 := N1.single
    obtain ⟨s0, s1⟩ := M1.duo
    have cs := on_some HB1.out HCS.out
    obtain ⟨u0, u1, u2, u3, u4⟩ := HAP.out.on HB1.out
    clear N1 M1 nq
    go_wp2_with fail
    go_quiet (fail)
    go_wp2
    go_ret
    exact ⟨by rw [HE.out]; rfl, bldrewN HB1.out _⟩
  · have HE : Hid (edgT T n' i' = -1) := by show _ = _; unfold edgT; rw [hpt]; simp only; rw [if_neg a5]
    have a5b : (kd != 1) = true := by simp [a5]
    clear hA N0 M0 hs hcc hA3 hL hp hpc hap hpt
    go_enter Try.func16, Try.ntmps16
    go_wp2_with fail
    go_quiet (fail)
    go_wp2
    go_ret
    exact ⟨by rw [HE.out]; rfl, bldrewN B0 _⟩
end Go.Proofs

namespace Go.Proofs
open Go.RowKit Go.Proofs.Hd Go.Lib
end Go.Proofs

namespace Go.Proofs.Hd
open Go.RowKit
/-- v is a slice that reads as the spots E. -/
def Spt (w : World) (v : Value) (E : List Rc) : Prop := ∃ A cap, v = .slice A E.length cap ∧ (E ≠ [] → ∃ b, A = some ⟨b, 0, none⟩ ∧ ∀ (k : Nat) (x : Rc), E[k]? = some x → w.cell? ⟨b, k * 2, none⟩ = some (.int .i64 x.1) ∧ w.cell? ⟨b, k * 2 + 1, none⟩ = some (.int .i64 x.2))
theorem Spt.of {w : World} {base : Nat} {v : Value} {E : List Rc} (h : w.ownsRow base 56 2 v E.length (flS E)) : Spt w v E := by
  rcases h.2 with ⟨rfl, h0⟩ | ⟨g, cap, cur, rfl, _⟩
  · exact ⟨none, 0, by rw [h0], fun hne => absurd (List.eq_nil_of_length_eq_zero h0) hne⟩
  · refine ⟨_, cap, rfl, fun _ => ⟨g, rfl, fun k x hk => ?_⟩⟩
    have hkl := (List.getElem?_eq_some_iff.1 hk).1
    exact ⟨(h.cellAt (k * 2) (by omega)).trans (flS_get hk).1, (h.cellAt (k * 2 + 1) (by omega)).trans (flS_get hk).2⟩
/-- Are the edges' tenants there? -/
def okE (T : List (List Pt)) (ten : Int) (k : Nat) : Prop := ∀ (j : Nat) (x : Rc), j < k → (eTo T T.length)[j]? = some x → inB (edgT T x.1 x.2) ten = true
/-- Are the peers tenants? -/
def okPe (P : List (Int × Int)) (ten : Int) (k : Nat) : Prop := ∀ (j : Nat) (x : Int × Int), j < k → P[j]? = some x → inB x.1 ten = true ∧ inB x.2 ten = true
/-- May the ways be? -/
def okWy (Q : List Wa) (ten : Int) (N k : Nat) : Prop := ∀ (j : Nat) (x : Wa), j < k → Q[j]? = some x → inB x.frm ten = true ∧ inB x.too ten = true ∧ inB x.via N = true
open Classical in
/-- What is said of a policy. -/
noncomputable def polT (T : List (List Pt)) (ten : Int) (P : List (Int × Int)) (Q : List Wa) : Int :=
  if ten < 1 ∨ 4 < ten ∨ 16 < P.length ∨ 4 < Q.length ∨ ¬ okE T ten (eTo T T.length).length then 4 else if ¬ okPe P ten P.length ∨ ¬ okWy Q ten T.length Q.length then 2 else 0
end Go.Proofs.Hd
namespace Go.Proofs
open Go.RowKit Go.Proofs.Hd Go.Lib
end Go.Proofs

namespace Go.Proofs
open Go.RowKit Go.Proofs.Hd Go.Lib
end Go.Proofs

namespace Go.Proofs
open Go.RowKit Go.Proofs.Hd Go.Lib
end Go.Proofs

namespace Go.Proofs
open Go.RowKit Go.Proofs.Hd Go.Lib
end Go.Proofs

namespace Go.Proofs
open Go.RowKit Go.Proofs.Hd Go.Lib
end Go.Proofs

namespace Go.Proofs.Hd
open Go.RowKit
/-- v is a slice that reads as the tables of all switches. -/
def RuQ (w : World) (v : Value) (B : List (List (List Rl))) : Prop := ∃ A cap, v = .slice A B.length cap ∧ B.length ≤ maxLen ∧ (B ≠ [] → ∃ b o, A = some ⟨b, o, none⟩ ∧ b < w.heap.size ∧ ∀ (k : Nat) (T : List (List Rl)), B[k]? = some T → ∃ s, w.cell? ⟨b, o + k, none⟩ = some s ∧ RuT w s T)
theorem RuQ.on {w w' : World} {v : Value} {B : List (List (List Rl))} (h : RuQ w v B) (hb : Below w.heap.size w w') : RuQ w' v B := by
  obtain ⟨A, cap, e, h1, h⟩ := h
  refine ⟨A, cap, e, h1, fun hne => ?_⟩
  obtain ⟨b, o, e2, hl, hc⟩ := h hne
  refine ⟨b, o, e2, Nat.lt_of_lt_of_le hl hb.size, fun k T hk => ?_⟩
  obtain ⟨s, h3, h4⟩ := hc k T hk
  exact ⟨s, on_some hb h3, h4.on hb⟩
theorem Ps.po {w : World} {v : Value} {L : List Pt} (h : Ps w v L) : Po w v (L.map Pt.kind) := by
  obtain ⟨A, cap, rfl, hl, h⟩ := h
  cases L with
  | nil => exact .inl ⟨rfl, A, cap, rfl⟩
  | cons p L =>
    obtain ⟨b, o, rfl, hlt, hc⟩ := h (by simp)
    refine .inr ⟨b, o, cap, by simp, by simpa using hl, hlt, fun k x hk => ?_⟩
    rw [List.getElem?_map] at hk
    cases hq : (p :: L)[k]? with
    | none => rw [hq] at hk; cases hk
    | some q =>
      rw [hq] at hk
      injection hk with hk
      rw [← hk]
      exact (hc k q hq).1
/-- The first error of a switch's tables. -/
def firT : List (List (List Rl)) → List (List Pt) → Int
  | B :: BB, L :: T => if sT B (L.map Pt.kind) = 0 then firT BB T else sT B (L.map Pt.kind)
  | _, _ => 0
theorem firT_at {BB : List (List (List Rl))} {T : List (List Pt)} {k : Nat} {B : List (List Rl)} {L : List Pt} (hB : BB[k]? = some B) (hL : T[k]? = some L) : firT (BB.drop k) (T.drop k) = if sT B (L.map Pt.kind) = 0 then firT (BB.drop (k + 1)) (T.drop (k + 1)) else sT B (L.map Pt.kind) := by
  obtain ⟨h1, e1⟩ := List.getElem?_eq_some_iff.1 hB
  obtain ⟨h2, e2⟩ := List.getElem?_eq_some_iff.1 hL
  rw [List.drop_eq_getElem_cons h1, List.drop_eq_getElem_cons h2, e1, e2, firT]
theorem firT_end {BB : List (List (List Rl))} (T : List (List Pt)) {k : Nat} (h : BB.length ≤ k) : firT (BB.drop k) (T.drop k) = 0 := by
  rw [List.drop_eq_nil_of_le h]
  cases T.drop k <;> rfl
/-- What Sound says of a configuration. -/
noncomputable def cfgT (T : List (List Pt)) (ten : Int) (P : List (Int × Int)) (Q : List Wa) (BB : List (List (List Rl))) : Int :=
  if sTp T = 0 then (if polT T ten P Q = 0 then (if BB.length = T.length then firT BB T else 4) else polT T ten P Q) else sTp T
/-- A sound topology has few ports. -/
theorem sum_le6 : ∀ T : List (List Pt), (∀ L ∈ T, L.length ≤ 6) → ports T ≤ T.length * 6
  | [], _ => Nat.zero_le _
  | L :: T, h => by
    have h1 := sum_le6 T fun L hL => h L (List.mem_cons_of_mem _ hL)
    have h2 := h L (List.mem_cons_self ..)
    have h3 : ports (L :: T) = L.length + ports T := by simp [ports]
    rw [h3, List.length_cons]
    omega
theorem ports_sound {T : List (List Pt)} (h : sTp T = 0) : ports T ≤ 2000000 := by
  obtain ⟨_, h6, hl⟩ := szT_iff.1 (sTp_zero h).1
  have := sum_le6 T hl
  omega
end Go.Proofs.Hd
namespace Go.Proofs
open Go.RowKit Go.Proofs.Hd Go.Lib
end Go.Proofs

namespace Go.Proofs
open Go.RowKit Go.Proofs.Hd Go.Lib
theorem cwin_c (x : Bool) (n m : Int) (w : World) (hx : inB n m = x) : Calls Try.prog 57 #[.int .i64 n, .int .i64 m] w fun e w' => e = .returned (.bool x) ∧ w' = w := by
  unfold inB at hx
  by_cases h0 : 0 ≤ n
  · by_cases h1 : n < m
    · rw [decide_eq_true h0, decide_eq_true h1] at hx
      subst hx
      go_enter Try.func57, Try.ntmps57
      go_wp2
      go_ret
      exact ⟨rfl, rfl⟩
    · rw [decide_eq_true h0, decide_eq_false h1] at hx
      subst hx
      go_enter Try.func57, Try.ntmps57
      go_wp2
      go_ret
      exact ⟨rfl, rfl⟩
  · rw [decide_eq_false h0] at hx
    subst hx
    go_enter Try.func57, Try.ntmps57
    go_wp2
    go_ret
    exact ⟨rfl, rfl⟩
end Go.Proofs

namespace Go.Proofs.Hd
open Go.RowKit
section
variable {α : Type} {enc : α → List Value} {k : Nat}
theorem fm_get (hk : ∀ x, (enc x).length = k) {L : List α} {i j : Nat} {x : α} (h : L[i]? = some x) (hj : j < k) : (L.flatMap enc)[i * k + j]? = (enc x)[j]? := by
  induction L generalizing i with
  | nil => simp at h
  | cons c L ih =>
    rw [List.flatMap_cons]
    cases i with
    | zero =>
      simp only [List.getElem?_cons_zero, Option.some.injEq] at h
      subst h
      rw [List.getElem?_append_left (by rw [hk]; omega)]
      simp
    | succ i =>
      rw [List.getElem?_cons_succ] at h
      rw [List.getElem?_append_right (by rw [hk, Nat.add_mul]; omega), hk]
      rw [show (i + 1) * k + j - k = i * k + j by rw [Nat.add_mul]; omega]
      exact ih h
/-- v is a slice that reads as the elements L, of k cells each. -/
def RdE (w : World) (k : Nat) (enc : α → List Value) (v : Value) (L : List α) : Prop := ∃ A cap, v = .slice A L.length cap ∧ (L ≠ [] → ∃ b o, A = some ⟨b, o, none⟩ ∧ b < w.heap.size ∧ ∀ i x, L[i]? = some x → ∀ j u, (enc x)[j]? = some u → w.cell? ⟨b, o + i * k + j, none⟩ = some u)
theorem own_rde {w : World} {base : Nat} {t : TypeId} {v : Value} {L : List α} (h : w.ownsRow base t k v L.length (L.flatMap enc)) (hk : ∀ x, (enc x).length = k) : RdE w k enc v L := by
  rcases h.2 with ⟨rfl, hn⟩ | ⟨g, cap, cur, rfl, hb, hg, _⟩
  · obtain rfl : L = [] := List.eq_nil_of_length_eq_zero hn
    exact ⟨none, 0, rfl, fun h => absurd rfl h⟩
  · refine ⟨_, cap, rfl, fun _ => ⟨g, 0, rfl, (Array.getElem?_eq_some_iff.1 hg).1, fun i x hx j u hu => ?_⟩⟩
    have hil := (List.getElem?_eq_some_iff.1 hx).1
    have hjk : j < k := by have := (List.getElem?_eq_some_iff.1 hu).1; rwa [hk] at this
    have hlt : i * k + j < L.length * k := by
      have : (i + 1) * k ≤ L.length * k := Nat.mul_le_mul_right k hil
      rw [Nat.add_mul] at this
      omega
    rw [Nat.zero_add, h.cellAt (i * k + j) hlt, fm_get hk hx hjk]
    exact hu
theorem own_len {w : World} {base : Nat} {t : TypeId} {v : Value} {n : Nat} {xs : List Value} (h : w.ownsRow base t k v n xs) : n ≤ maxLen := by
  rcases h.2 with ⟨_, rfl⟩ | ⟨g, cap, cur, _, _, _, h1, h2, _⟩
  · exact Nat.zero_le _
  · exact Nat.le_trans h1 h2
end
theorem own_sl {w : World} {base : Nat} {t : TypeId} {size n : Nat} {v : Value} {xs : List Value} (h : w.ownsRow base t size v n xs) : ∃ A cap, v = .slice A n cap ∧ (0 < n → ∃ g, A = some ⟨g, 0, none⟩) := by
  rcases h.2 with ⟨rfl, rfl⟩ | ⟨g, cap, cur, rfl, _⟩
  · exact ⟨none, 0, rfl, fun h => by omega⟩
  · exact ⟨_, cap, rfl, fun _ => ⟨g, rfl⟩⟩
theorem own_tb {w : World} {base g : Nat} {t : TypeId} {size n cap : Nat} {xs : List Value} (h : w.ownsRow base t size (.slice (some ⟨g, 0, none⟩) n cap) n xs) : TB w g t ∧ base ≤ g ∧ g < w.heap.size := by
  rcases h.2 with ⟨h', _⟩ | ⟨g', cap', cur, h', hb, hg, _⟩
  · simp at h'
  · simp only [Value.slice.injEq, Option.some.injEq, Addr.mk.injEq, and_true, true_and] at h'
    obtain ⟨rfl, rfl⟩ := h'
    exact ⟨⟨cur, (0, 0), hg⟩, hb, (Array.getElem?_eq_some_iff.1 hg).1⟩
theorem Src.on {w w' : World} {k n : Nat} {v : Value} {news : List Value} (h : Src w k v n news) (hb : Below w.heap.size w w') : Src w' k v n news := by
  obtain ⟨h1, h2, h3 | ⟨ad, c, e, hc⟩⟩ := h
  · exact ⟨h1, h2, .inl h3⟩
  · exact ⟨h1, h2, .inr ⟨ad, c, e, fun j u hj => on_some hb (hc j u hj)⟩⟩
/-- Pairs and ways as cells. -/
def encA (x : Int × Int) : List Value := [.int .i64 x.1, .int .i64 x.2]
def Wa.cs (x : Wa) : List Value := [.int .i64 x.frm, .int .i64 x.too, .int .i64 x.via]
theorem len_pt (x : Pt) : x.cs.length = 5 := rfl
theorem len_rl (x : Rl) : x.cs.length = 12 := rfl
theorem len_a (x : Int × Int) : (encA x).length = 2 := rfl
theorem len_w (x : Wa) : x.cs.length = 3 := rfl
theorem RdE.ps {w : World} {v : Value} {L : List Pt} (h : RdE w 5 Pt.cs v L) (hl : L.length ≤ maxLen) : Ps w v L := by
  obtain ⟨A, cap, rfl, h⟩ := h
  refine ⟨A, cap, rfl, hl, fun hne => ?_⟩
  obtain ⟨b, o, e, hb, hc⟩ := h hne
  exact ⟨b, o, e, hb, fun i x hx => ⟨hc i x hx 0 _ rfl, hc i x hx 1 _ rfl, hc i x hx 2 _ rfl, hc i x hx 3 _ rfl, hc i x hx 4 _ rfl⟩⟩
theorem RdE.pe {w : World} {v : Value} {L : List (Int × Int)} (h : RdE w 2 encA v L) (hl : L.length ≤ maxLen) : Pe w v L := by
  obtain ⟨A, cap, rfl, h⟩ := h
  refine ⟨A, cap, rfl, hl, fun hne => ?_⟩
  obtain ⟨b, o, e, hb, hc⟩ := h hne
  exact ⟨b, o, e, hb, fun i x hx => ⟨hc i x hx 0 _ rfl, hc i x hx 1 _ rfl⟩⟩
theorem RdE.wy {w : World} {v : Value} {L : List Wa} (h : RdE w 3 Wa.cs v L) (hl : L.length ≤ maxLen) : Wy w v L := by
  obtain ⟨A, cap, rfl, h⟩ := h
  refine ⟨A, cap, rfl, hl, fun hne => ?_⟩
  obtain ⟨b, o, e, hb, hc⟩ := h hne
  exact ⟨b, o, e, hb, fun i x hx => ⟨hc i x hx 0 _ rfl, hc i x hx 1 _ rfl, hc i x hx 2 _ rfl⟩⟩
theorem RdE.ru {w : World} {v : Value} {L : List Rl} (h : RdE w 12 Rl.cs v L) : Ru w v L := by
  obtain ⟨A, cap, rfl, h⟩ := h
  by_cases hne : L = []
  · subst hne; exact .inl ⟨rfl, A, cap, rfl⟩
  · obtain ⟨b, o, rfl, hb, hc⟩ := h hne
    exact .inr ⟨b, o, cap, rfl, hb, fun i x hx j u hu => hc i x hx j u hu⟩
section
variable {β : Type}
/-- A list of headers of the call's own; each reads as R says. -/
def OwG (te : TypeId) (R : World → Value → β → Prop) (w : World) (B : Nat) (v : Value) (T : List β) : Prop := ∃ hs, w.ownsRow B te 1 v T.length hs ∧ ∀ (i : Nat) (x : β), T[i]? = some x → ∃ s, hs[i]? = some s ∧ R w s x
theorem OwG.on {te : TypeId} {R : World → Value → β → Prop} (hR : ∀ w w' s x, Below w.heap.size w w' → R w s x → R w' s x) {w w' : World} {B : Nat} {v : Value} {T : List β} (h : OwG te R w B v T) (hb : Below w.heap.size w w') : OwG te R w' B v T := by
  obtain ⟨hs, h1, h2⟩ := h
  refine ⟨hs, own_on h1 hb, fun i x hx => ?_⟩
  obtain ⟨s, e, hr⟩ := h2 i x hx
  exact ⟨s, e, hR _ _ _ _ hb hr⟩
theorem OwG.far {te t3 : TypeId} (hne : te ≠ t3) {R : World → Value → β → Prop} (hR : ∀ (w : World) (g i : Nat) (u s : Value) (x : β), TB w g t3 → R w s x → R (w.setCell ⟨g, i, none⟩ u) s x) {w : World} {g i B : Nat} {u v : Value} {T : List β} (hg : TB w g t3) (h : OwG te R w B v T) : OwG te R (w.setCell ⟨g, i, none⟩ u) B v T := by
  obtain ⟨hs, h1, h2⟩ := h
  refine ⟨hs, ownsRow_setCell_other h1 (fun e => own_apartT h1 hg hne e.symm) u, fun j x hx => ?_⟩
  obtain ⟨s, e, hr⟩ := h2 j x hx
  exact ⟨s, e, hR _ _ _ _ _ _ hg hr⟩
end
/-- Ports, rules of the call's own. -/
def O1P (B : Nat) (w : World) (s : Value) (L : List Pt) : Prop := w.ownsRow B 91 5 s L.length (L.flatMap Pt.cs)
def O1R (B : Nat) (w : World) (s : Value) (L : List Rl) : Prop := w.ownsRow B 51 12 s L.length (L.flatMap Rl.cs)
def O2P (B : Nat) (w : World) (v : Value) (T : List (List Pt)) : Prop := OwG 89 (O1P B) w B v T
def O2R (B : Nat) (w : World) (v : Value) (T : List (List Rl)) : Prop := OwG 45 (O1R B) w B v T
def O3R (B : Nat) (w : World) (v : Value) (T : List (List (List Rl))) : Prop := OwG 84 (O2R B) w B v T
theorem O1P.on (B : Nat) : ∀ w w' s x, Below w.heap.size w w' → O1P B w s x → O1P B w' s x := fun _ _ _ _ hb h => own_on h hb
theorem O1R.on (B : Nat) : ∀ w w' s x, Below w.heap.size w w' → O1R B w s x → O1R B w' s x := fun _ _ _ _ hb h => own_on h hb
theorem O2P.on (B : Nat) : ∀ w w' s x, Below w.heap.size w w' → O2P B w s x → O2P B w' s x := fun _ _ _ _ hb h => OwG.on (O1P.on B) h hb
theorem O2R.on (B : Nat) : ∀ w w' s x, Below w.heap.size w w' → O2R B w s x → O2R B w' s x := fun _ _ _ _ hb h => OwG.on (O1R.on B) h hb
theorem O3R.on (B : Nat) : ∀ w w' s x, Below w.heap.size w w' → O3R B w s x → O3R B w' s x := fun _ _ _ _ hb h => OwG.on (O2R.on B) h hb
theorem O1P.far {B : Nat} {t3 : TypeId} (hne : 91 ≠ t3) : ∀ (w : World) (g i : Nat) (u s : Value) (x : List Pt), TB w g t3 → O1P B w s x → O1P B (w.setCell ⟨g, i, none⟩ u) s x := fun _ _ _ u _ _ hg h => ownsRow_setCell_other h (fun e => own_apartT h hg hne e.symm) u
theorem O1R.far {B : Nat} {t3 : TypeId} (hne : 51 ≠ t3) : ∀ (w : World) (g i : Nat) (u s : Value) (x : List Rl), TB w g t3 → O1R B w s x → O1R B (w.setCell ⟨g, i, none⟩ u) s x := fun _ _ _ u _ _ hg h => ownsRow_setCell_other h (fun e => own_apartT h hg hne e.symm) u
theorem O2R.far {B : Nat} {t3 : TypeId} (hne : 51 ≠ t3) (hne2 : 45 ≠ t3) : ∀ (w : World) (g i : Nat) (u s : Value) (x : List (List Rl)), TB w g t3 → O2R B w s x → O2R B (w.setCell ⟨g, i, none⟩ u) s x := fun _ _ _ _ _ _ hg h => OwG.far hne2 (O1R.far hne) hg h
theorem O1P.mono {B B' : Nat} (hB : B' ≤ B) {w : World} {s : Value} {L : List Pt} (h : O1P B w s L) : O1P B' w s L := World.ownsRow.mono h hB
theorem O1R.mono {B B' : Nat} (hB : B' ≤ B) {w : World} {s : Value} {L : List Rl} (h : O1R B w s L) : O1R B' w s L := World.ownsRow.mono h hB
theorem O2P.mono {B B' : Nat} (hB : B' ≤ B) {w : World} {s : Value} {T : List (List Pt)} (h : O2P B w s T) : O2P B' w s T := by
  obtain ⟨hs, h1, h2⟩ := h
  refine ⟨hs, World.ownsRow.mono h1 hB, fun i x hx => ?_⟩
  obtain ⟨s, e, hr⟩ := h2 i x hx
  exact ⟨s, e, O1P.mono hB hr⟩
theorem O2R.mono {B B' : Nat} (hB : B' ≤ B) {w : World} {s : Value} {T : List (List Rl)} (h : O2R B w s T) : O2R B' w s T := by
  obtain ⟨hs, h1, h2⟩ := h
  refine ⟨hs, World.ownsRow.mono h1 hB, fun i x hx => ?_⟩
  obtain ⟨s, e, hr⟩ := h2 i x hx
  exact ⟨s, e, O1R.mono hB hr⟩
theorem O3R.mono {B B' : Nat} (hB : B' ≤ B) {w : World} {s : Value} {T : List (List (List Rl))} (h : O3R B w s T) : O3R B' w s T := by
  obtain ⟨hs, h1, h2⟩ := h
  refine ⟨hs, World.ownsRow.mono h1 hB, fun i x hx => ?_⟩
  obtain ⟨s, e, hr⟩ := h2 i x hx
  exact ⟨s, e, O2R.mono hB hr⟩
theorem OwG.rd {β : Type} {te : TypeId} {R : World → Value → β → Prop} {w : World} {B : Nat} {v : Value} {T : List β} (h : OwG te R w B v T) : ∃ A cap, v = .slice A T.length cap ∧ T.length ≤ maxLen ∧ (T ≠ [] → ∃ b o, A = some ⟨b, o, none⟩ ∧ b < w.heap.size ∧ ∀ (k : Nat) (x : β), T[k]? = some x → ∃ s, w.cell? ⟨b, o + k, none⟩ = some s ∧ R w s x) := by
  obtain ⟨hs, h1, h2⟩ := h
  have hm := own_len h1
  obtain ⟨A, cap, rfl, hA⟩ := own_sl h1
  refine ⟨A, cap, rfl, hm, fun hne => ?_⟩
  obtain ⟨g, rfl⟩ := hA (List.length_pos_iff.2 hne)
  refine ⟨g, 0, rfl, (own_tb h1).2.2, fun k x hx => ?_⟩
  obtain ⟨s, e, hr⟩ := h2 k x hx
  have hkl := (List.getElem?_eq_some_iff.1 hx).1
  exact ⟨s, by rw [Nat.zero_add, h1.cellAt k (by omega)]; exact e, hr⟩
theorem O1P.ps {B : Nat} {w : World} {s : Value} {L : List Pt} (h : O1P B w s L) : Ps w s L := (own_rde h len_pt).ps (own_len h)
theorem O1R.ru {B : Nat} {w : World} {s : Value} {L : List Rl} (h : O1R B w s L) : Ru w s L := (own_rde h len_rl).ru
theorem O2P.rd {B : Nat} {w : World} {v : Value} {T : List (List Pt)} (h : O2P B w v T) : PsT w v T := by
  obtain ⟨A, cap, e, hm, hc⟩ := OwG.rd h
  refine ⟨A, cap, e, hm, fun hne => ?_⟩
  obtain ⟨b, o, e2, hb, hk⟩ := hc hne
  refine ⟨b, o, e2, hb, fun k L hL => ?_⟩
  obtain ⟨s, h1, h2⟩ := hk k L hL
  exact ⟨s, h1, h2.ps⟩
theorem O2R.rd {B : Nat} {w : World} {v : Value} {T : List (List Rl)} (h : O2R B w v T) : RuT w v T := by
  obtain ⟨A, cap, e, hm, hc⟩ := OwG.rd h
  refine ⟨A, cap, e, hm, fun L hL => ?_, fun hne => ?_⟩
  · obtain ⟨i, hi⟩ := List.getElem?_of_mem hL
    obtain ⟨b, o, e2, hb, hk⟩ := hc (by rintro rfl; simp at hi)
    obtain ⟨s, h1, h2⟩ := hk i L hi
    exact own_len h2
  · obtain ⟨b, o, e2, hb, hk⟩ := hc hne
    refine ⟨b, o, e2, hb, fun k L hL => ?_⟩
    obtain ⟨s, h1, h2⟩ := hk k L hL
    exact ⟨s, h1, h2.ru⟩
theorem O3R.rd {B : Nat} {w : World} {v : Value} {T : List (List (List Rl))} (h : O3R B w v T) : RuQ w v T := by
  obtain ⟨A, cap, e, hm, hc⟩ := OwG.rd h
  refine ⟨A, cap, e, hm, fun hne => ?_⟩
  obtain ⟨b, o, e2, hb, hk⟩ := hc hne
  refine ⟨b, o, e2, hb, fun k L hL => ?_⟩
  obtain ⟨s, h1, h2⟩ := hk k L hL
  exact ⟨s, h1, O2R.rd h2⟩
theorem Ps.one {w : World} {s : Value} {L : List Pt} (h : Ps w s L) : s.oneCell' = true := by obtain ⟨A, cap, rfl, _⟩ := h; rfl
theorem Ru.one {w : World} {s : Value} {L : List Rl} (h : Ru w s L) : s.oneCell' = true := by obtain ⟨A, cap, rfl, _⟩ := h.form; rfl
theorem RuT.one {w : World} {s : Value} {L : List (List Rl)} (h : RuT w s L) : s.oneCell' = true := by obtain ⟨A, cap, rfl, _⟩ := h; rfl
end Go.Proofs.Hd

namespace Go.Proofs
open Go.RowKit Go.Proofs.Hd Go.Lib
end Go.Proofs

namespace Go.Proofs.Hd
open Go.RowKit
/-- Block b, at or behind block B, holds the cells cs. -/
def Nb (B : Nat) (w : World) (b : Nat) (T : TypeId) (cs : Array Value) : Prop := Blk w b T cs ∧ B ≤ b
theorem Nb.on {B b : Nat} {W w' : World} {T : TypeId} {cs : Array Value} (h : Nb B W b T cs) (hb : Below W.heap.size W w') : Nb B w' b T cs := ⟨h.1.on hb, h.2⟩
theorem Nb.top {B : Nat} {T : TypeId} {cs : Array Value} (X : World) (h : B ≤ X.heap.size) : Nb B (X.alloc (.cells cs T)) X.heap.size T cs := ⟨Blk.new X T cs, h⟩
theorem Nb.ne {B b : Nat} {W : World} {T : TypeId} {cs : Array Value} (h : Nb B W b T cs) : b ≠ W.heap.size := Nat.ne_of_lt h.1.lt
theorem Nb.there {B b : Nat} {W : World} {T : TypeId} {cs : Array Value} (h : Nb B W b T cs) : W.there b 0 cs.size := fun j hj => by
  rw [Nat.zero_add, h.1.cell j, h.1.free j]
  simp [hj]
theorem Blk.farC {g b : Nat} {t : TypeId} {cs : Array Value} (hne : b ≠ g) : ∀ (vs : List Value) (o : Nat) (w : World), Blk w g t cs → Blk (w.setCells b o vs) g t cs
  | [], _, _, h => h
  | v :: vs, o, _, h => Blk.farC hne vs (o + 1) _ (h.far (p := ⟨b, o, none⟩) (fun e => hne e.symm) v)
theorem Nb.far {B b c : Nat} {W : World} {T : TypeId} {cs : Array Value} (h : Nb B W b T cs) (hne : c ≠ b) (vs : List Value) : Nb B (W.setCells c 0 vs) b T cs := ⟨Blk.farC hne vs 0 W h.1, h.2⟩
/-- Cells from place o on are set, one by one. -/
def setL (cs : Array Value) : Nat → List Value → Array Value
  | _, [] => cs
  | o, v :: vs => setL (cs.setIfInBounds o v) (o + 1) vs
theorem Blk.putC {b : Nat} {t : TypeId} : ∀ (vs : List Value) (o : Nat) (w : World) (cs : Array Value), Blk w b t cs → Blk (w.setCells b o vs) b t (setL cs o vs)
  | [], _, _, _, h => h
  | v :: vs, o, _, _, h => Blk.putC vs (o + 1) _ _ (h.set o v)
theorem setL_get : ∀ (vs : List Value) (o : Nat) (cs : Array Value) (j : Nat), (setL cs o vs)[j]? = if o ≤ j ∧ j < o + vs.length ∧ j < cs.size then vs[j - o]? else cs[j]?
  | [], o, cs, j => by rw [setL, if_neg (by simp; omega)]
  | v :: vs, o, cs, j => by
    rw [setL, setL_get vs]
    simp only [Array.size_setIfInBounds, List.length_cons]
    by_cases h1 : j = o
    · subst h1
      rw [if_neg (by omega)]
      by_cases h2 : j < cs.size
      · rw [if_pos (by omega)]
        simp [h2]
      · rw [if_neg (by omega)]
        simp [h2]
    · by_cases h2 : o + 1 ≤ j ∧ j < o + 1 + vs.length ∧ j < cs.size
      · rw [if_pos h2, if_pos (by omega), show j - o = (j - (o + 1)) + 1 by omega, List.getElem?_cons_succ]
      · rw [if_neg h2, if_neg (by omega), Array.getElem?_setIfInBounds, if_neg (fun e => h1 e.symm)]
theorem setL_all (vs : List Value) (cs : Array Value) (h : vs.length = cs.size) : setL cs 0 vs = vs.toArray := by
  apply Array.ext_getElem?
  intro j
  rw [setL_get]
  by_cases hj : j < cs.size
  · rw [if_pos (by omega)]; simp
  · rw [if_neg (by omega), Array.getElem?_eq_none (by omega), Array.getElem?_eq_none (by simp; omega)]
theorem Nb.put {B b : Nat} {W : World} {T : TypeId} {cs : Array Value} (h : Nb B W b T cs) (vs : List Value) (hl : vs.length = cs.size) : Nb B (W.setCells b 0 vs) b T vs.toArray := by
  refine ⟨?_, h.2⟩
  rw [← setL_all vs cs hl]
  exact Blk.putC vs 0 W cs h.1
end Go.Proofs.Hd

namespace Go.Proofs.Hd
open Go.RowKit
theorem O2P.far {B : Nat} {t3 : TypeId} (hne : 91 ≠ t3) (hne2 : 89 ≠ t3) : ∀ (w : World) (g i : Nat) (u s : Value) (x : List (List Pt)), TB w g t3 → O2P B w s x → O2P B (w.setCell ⟨g, i, none⟩ u) s x := fun _ _ _ _ _ _ hg h => OwG.far hne2 (O1P.far hne) hg h
/-- A configuration of the call's own. -/
structure Cfo (B : Nat) (w : World) (tv pv wv bv : Value) (T : List (List Pt)) (P : List (Int × Int)) (Q : List Wa) (BB : List (List (List Rl))) : Prop where
  ports : O2P B w tv T
  peers : w.ownsRow B 121 2 pv P.length (P.flatMap encA)
  ways : w.ownsRow B 123 3 wv Q.length (Q.flatMap Wa.cs)
  tabs : O3R B w bv BB
theorem Cfo.on {B : Nat} {w w' : World} {tv pv wv bv : Value} {T : List (List Pt)} {P : List (Int × Int)} {Q : List Wa} {BB : List (List (List Rl))} (h : Cfo B w tv pv wv bv T P Q BB) (hb : Below w.heap.size w w') : Cfo B w' tv pv wv bv T P Q BB :=
  ⟨O2P.on _ _ _ _ _ hb h.ports, own_on h.peers hb, own_on h.ways hb, O3R.on _ _ _ _ _ hb h.tabs⟩
theorem Cfo.mono {B B' : Nat} (hB : B' ≤ B) {w : World} {tv pv wv bv : Value} {T : List (List Pt)} {P : List (Int × Int)} {Q : List Wa} {BB : List (List (List Rl))} (h : Cfo B w tv pv wv bv T P Q BB) : Cfo B' w tv pv wv bv T P Q BB :=
  ⟨O2P.mono hB h.ports, World.ownsRow.mono h.peers hB, World.ownsRow.mono h.ways hB, O3R.mono hB h.tabs⟩
theorem Cfo.rd {B : Nat} {w : World} {tv pv wv bv : Value} {T : List (List Pt)} {P : List (Int × Int)} {Q : List Wa} {BB : List (List (List Rl))} (h : Cfo B w tv pv wv bv T P Q BB) : PsT w tv T ∧ Pe w pv P ∧ Wy w wv Q ∧ RuQ w bv BB :=
  ⟨O2P.rd h.ports, (own_rde h.peers len_a).pe (own_len h.peers), (own_rde h.ways len_w).wy (own_len h.ways), O3R.rd h.tabs⟩
theorem ownsRow_low {w : World} {base : Nat} {e : TypeId} {size : Nat} {v : Value} {n : Nat} {xs : List Value} (h : w.ownsRow base e size v n xs) {g i : Nat} (hg : g < base) (u : Value) : (w.setCell ⟨g, i, none⟩ u).ownsRow base e size v n xs := ownsRow_setCell_below h hg u
theorem OwG.low {β : Type} {te : TypeId} {B g : Nat} (hg : g < B) {R : World → Value → β → Prop} (hR : ∀ (w : World) (i : Nat) (u s : Value) (x : β), R w s x → R (w.setCell ⟨g, i, none⟩ u) s x) {w : World} {i : Nat} {u v : Value} {T : List β} (h : OwG te R w B v T) : OwG te R (w.setCell ⟨g, i, none⟩ u) B v T := by
  obtain ⟨hs, h1, h2⟩ := h
  refine ⟨hs, ownsRow_low h1 hg u, fun j x hx => ?_⟩
  obtain ⟨s, e, hr⟩ := h2 j x hx
  exact ⟨s, e, hR _ _ _ _ _ hr⟩
theorem O1P.low {B g : Nat} (hg : g < B) : ∀ (w : World) (i : Nat) (u s : Value) (x : List Pt), O1P B w s x → O1P B (w.setCell ⟨g, i, none⟩ u) s x := fun _ _ u _ _ h => ownsRow_low h hg u
theorem O1R.low {B g : Nat} (hg : g < B) : ∀ (w : World) (i : Nat) (u s : Value) (x : List Rl), O1R B w s x → O1R B (w.setCell ⟨g, i, none⟩ u) s x := fun _ _ u _ _ h => ownsRow_low h hg u
theorem O2P.low {B g : Nat} (hg : g < B) : ∀ (w : World) (i : Nat) (u s : Value) (x : List (List Pt)), O2P B w s x → O2P B (w.setCell ⟨g, i, none⟩ u) s x := fun _ _ _ _ _ h => OwG.low hg (O1P.low hg) h
theorem O2R.low {B g : Nat} (hg : g < B) : ∀ (w : World) (i : Nat) (u s : Value) (x : List (List Rl)), O2R B w s x → O2R B (w.setCell ⟨g, i, none⟩ u) s x := fun _ _ _ _ _ h => OwG.low hg (O1R.low hg) h
theorem O3R.low {B g : Nat} (hg : g < B) : ∀ (w : World) (i : Nat) (u s : Value) (x : List (List (List Rl))), O3R B w s x → O3R B (w.setCell ⟨g, i, none⟩ u) s x := fun _ _ _ _ _ h => OwG.low hg (O2R.low hg) h
theorem Cfo.low {B g i : Nat} (hg : g < B) {w : World} {tv pv wv bv u : Value} {T : List (List Pt)} {P : List (Int × Int)} {Q : List Wa} {BB : List (List (List Rl))} (h : Cfo B w tv pv wv bv T P Q BB) : Cfo B (w.setCell ⟨g, i, none⟩ u) tv pv wv bv T P Q BB :=
  ⟨O2P.low hg _ _ _ _ _ h.ports, ownsRow_low h.peers hg u, ownsRow_low h.ways hg u, O3R.low hg _ _ _ _ _ h.tabs⟩
theorem Cfo.put5 {B g : Nat} (hg : g < B) {w : World} {tv pv wv bv : Value} {T : List (List Pt)} {P : List (Int × Int)} {Q : List Wa} {BB : List (List (List Rl))} (h : Cfo B w tv pv wv bv T P Q BB) (a0 a1 a2 a3 a4 : Value) : Cfo B (((((w.setCell ⟨g, 0, none⟩ a0).setCell ⟨g, 1, none⟩ a1).setCell ⟨g, 2, none⟩ a2).setCell ⟨g, 3, none⟩ a3).setCell ⟨g, 4, none⟩ a4) tv pv wv bv T P Q BB :=
  ((((h.low hg).low hg).low hg).low hg).low hg
/-- No list of a configuration is longer than memory reaches. -/
structure Szd (T : List (List Pt)) (P : List (Int × Int)) (Q : List Wa) (BB : List (List (List Rl))) : Prop where
  t : T.length ≤ 5864062014634
  l : ∀ L ∈ T, L.length ≤ 3518437208780
  p : P.length ≤ 8796093021952
  q : Q.length ≤ 5864062014634
  b : BB.length ≤ 5864062014634
  x : ∀ X ∈ BB, X.length ≤ 5864062014634
  r : ∀ X ∈ BB, ∀ L ∈ X, L.length ≤ 1466015503658
end Go.Proofs.Hd
namespace Go.Proofs
open Go.RowKit Go.Proofs.Hd Go.Lib
end Go.Proofs
