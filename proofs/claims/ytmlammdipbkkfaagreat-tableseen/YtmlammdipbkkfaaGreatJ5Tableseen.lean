/-
  Contracts of rule.Sound and of the reference's Sound. No conditions.
  Contract of the reference's Sound of layer 5. No conditions.
  Tables in memory; contracts of table.Sound and of the reference's Sound of layer 6. Conditions as each theorem lists them.
  How a slice of slices of rules reads; a slice of rules is no longer than its capacity. No conditions.
  Numbers in memory: rows of ints. No conditions.
  Contracts of rule.Before and of the comparison of two places of a table, with what they add to memory. Conditions as each theorem lists them.
  Contract of math/bits.LeadingZeros64, out of the library's own contract, which is proved over any program: the function's bodies are compared by the kernel. No conditions.
  Contract of cube.highest: the header with the highest bit alone. No conditions.
  What memory holds at the head of the loop of cube.Less, and how it is carried on: plain facts on worlds. No conditions.
  Contract of cube.Less: the difference of two cubes as a list. Conditions as each theorem lists them.
  Contracts of cube.Field: the field's cube, or an error. Conditions as each theorem lists them.
  The function awake of the laws of layer 2 returns true. No conditions.
  The law CubeParts returns true for all cubes and headers, and changes nothing that was there. No conditions.
-/
import Derived.Test.YtmlammdipbkkfaaGreatJ4Tableseen
import Derived.BigQuiet
import Derived.Deep.LoopGhost
import Derived.Lib.Hide
import Derived.OrdersHeld
import Derived.Deep.DeepCutAuto
import Derived.Shelf.Small.Bits
import Derived.Shelf.Strconv.Itoa0
import Derived.Test.YtmlammdipbkkfaaGreatProg
import Derived.Deep.AppendLies
import Derived.Laws.OwnMore
import Derived.OneCell
import Derived.Deep.Onto
import Derived.Deep.RegionHeld3
import Derived.Deep.Light
import Derived.OwnWalk
namespace Go.Proofs
open Go.RowKit Go.Proofs.Hd Go.Sort
attribute [local go_sem] uv_nonneg
theorem csnd_c (x : Bool) (c : Cb) (w : World) (h : c.snd = x) : Calls Tryz.prog 24 #[.agg #[.int .u64 (uv c.vh), .int .u64 (uv c.vl), .int .u64 (uv c.ch), .int .u64 (uv c.cl)]] w fun e w' => e = .returned (.bool x) ∧ Below w.heap.size w w' := by
  subst h; exact sound_c _ _ _ _ _
theorem rule_stays {w w1 : World} {r : Rl} (hb : Below (w.alloc (.cells #[.int .i64 r.pri, .int .u64 (uv r.m.vh), .int .u64 (uv r.m.vl), .int .u64 (uv r.m.ch), .int .u64 (uv r.m.cl), .int .i64 r.kind, .int .i64 r.port, .int .i64 r.tab, .int .u64 (uv r.s.vh), .int .u64 (uv r.s.vl), .int .u64 (uv r.s.ch), .int .u64 (uv r.s.cl)] 51)).heap.size (w.alloc (.cells #[.int .i64 r.pri, .int .u64 (uv r.m.vh), .int .u64 (uv r.m.vl), .int .u64 (uv r.m.ch), .int .u64 (uv r.m.cl), .int .i64 r.kind, .int .i64 r.port, .int .i64 r.tab, .int .u64 (uv r.s.vh), .int .u64 (uv r.s.vl), .int .u64 (uv r.s.ch), .int .u64 (uv r.s.cl)] 51)) w1) : Blk w1 w.heap.size 51 #[.int .i64 r.pri, .int .u64 (uv r.m.vh), .int .u64 (uv r.m.vl), .int .u64 (uv r.m.ch), .int .u64 (uv r.m.cl), .int .i64 r.kind, .int .i64 r.port, .int .i64 r.tab, .int .u64 (uv r.s.vh), .int .u64 (uv r.s.vl), .int .u64 (uv r.s.ch), .int .u64 (uv r.s.cl)] := (Blk.new w _ _).on hb
set_option maxRecDepth 100000 in
set_option maxHeartbeats 4000000 in
theorem sound_r (x : Bool) (r : Rl) (table : Int) (v : Value) (K : List Int) (w : World) (hx : sndR r table K = x) (hv : Po w v K) : Calls Tryz.prog 33 #[.agg #[.int .i64 r.pri, .int .u64 (uv r.m.vh), .int .u64 (uv r.m.vl), .int .u64 (uv r.m.ch), .int .u64 (uv r.m.cl), .int .i64 r.kind, .int .i64 r.port, .int .i64 r.tab, .int .u64 (uv r.s.vh), .int .u64 (uv r.s.vl), .int .u64 (uv r.s.ch), .int .u64 (uv r.s.cl)], .int .i64 table, v] w fun e w' => e = .returned (.bool x) ∧ Below w.heap.size w w' := by
  have B0 := below1 w (.cells #[.int .i64 r.pri, .int .u64 (uv r.m.vh), .int .u64 (uv r.m.vl), .int .u64 (uv r.m.ch), .int .u64 (uv r.m.cl), .int .i64 r.kind, .int .i64 r.port, .int .i64 r.tab, .int .u64 (uv r.s.vh), .int .u64 (uv r.s.vl), .int .u64 (uv r.s.ch), .int .u64 (uv r.s.cl)] 51)
  have N0 : Blk (w.alloc (.cells #[.int .i64 r.pri, .int .u64 (uv r.m.vh), .int .u64 (uv r.m.vl), .int .u64 (uv r.m.ch), .int .u64 (uv r.m.cl), .int .i64 r.kind, .int .i64 r.port, .int .i64 r.tab, .int .u64 (uv r.s.vh), .int .u64 (uv r.s.vl), .int .u64 (uv r.s.ch), .int .u64 (uv r.s.cl)] 51)) w.heap.size 51 #[.int .i64 r.pri, .int .u64 (uv r.m.vh), .int .u64 (uv r.m.vl), .int .u64 (uv r.m.ch), .int .u64 (uv r.m.cl), .int .i64 r.kind, .int .i64 r.port, .int .i64 r.tab, .int .u64 (uv r.s.vh), .int .u64 (uv r.s.vl), .int .u64 (uv r.s.ch), .int .u64 (uv r.s.cl)] := Blk.new w _ _
  have HV := Lib.hid hv
  clear hv
  unfold sndR at hx
  by_cases h1 : 0 ≤ r.pri
  · by_cases h2 : r.pri ≤ 1048576
    · cases h3 : r.m.snd with
      | false =>
        simp [h3] at hx
        subst hx
        go_enter Tryz.func33, Tryz.ntmps33
        go_wp2_with fail
        (with_reducible refine (csnd_c _ r.m _ h3).mono ?_)
        rintro e w1 ⟨rfl, hb⟩
        have B := B0.trans (hb.mono B0.size)
        clear B0 hb N0
        go_wp2
        go_ret
        exact ⟨by simp, B⟩
      | true =>
        cases h4 : r.s.snd with
        | false =>
          simp [h4] at hx
          subst hx
          go_enter Tryz.func33, Tryz.ntmps33
          go_wp2_with fail
          (with_reducible refine (csnd_c _ r.m _ h3).mono ?_)
          rintro e w1 ⟨rfl, hb⟩
          have B := B0.trans (hb.mono B0.size)
          have N1 := N0.on hb
          have c8 := N1.cell 8
          have c9 := N1.cell 9
          have c10 := N1.cell 10
          have c11 := N1.cell 11
          simp at c8 c9 c10 c11
          clear B0 hb N0
          go_wp2_with fail
          (with_reducible refine (csnd_c _ r.s _ h4).mono ?_)
          rintro e w2 ⟨rfl, hb2⟩
          have B2 := B.trans (hb2.mono B.size)
          clear B hb2 N1 c8 c9 c10 c11
          go_wp2
          go_ret
          exact ⟨by simp, B2⟩
        | true =>
          have h5 : leads r.kind r.port r.tab table K = x := by simpa [h1, h2, h3, h4] using hx
          have H5 := Lib.hid h5
          clear hx h5
          go_enter Tryz.func33, Tryz.ntmps33
          go_wp2_with fail
          (with_reducible refine (csnd_c _ r.m _ h3).mono ?_)
          rintro e w1 ⟨rfl, hb⟩
          have B := B0.trans (hb.mono B0.size)
          have N1 := N0.on hb
          have c8 := N1.cell 8
          have c9 := N1.cell 9
          have c10 := N1.cell 10
          have c11 := N1.cell 11
          simp at c8 c9 c10 c11
          clear B0 hb N0
          go_wp2_with fail
          (with_reducible refine (csnd_c _ r.s _ h4).mono ?_)
          rintro e w2 ⟨rfl, hb2⟩
          have B2 := B.trans (hb2.mono B.size)
          have N2 := N1.on hb2
          clear B hb2 N1 c8 c9 c10 c11
          have c0 := N2.cell 0
          have c1 := N2.cell 1
          have c2 := N2.cell 2
          have c3 := N2.cell 3
          have c4 := N2.cell 4
          have c5 := N2.cell 5
          have c6 := N2.cell 6
          have c7 := N2.cell 7
          have c8 := N2.cell 8
          have c9 := N2.cell 9
          have c10 := N2.cell 10
          have c11 := N2.cell 11
          simp at c0 c1 c2 c3 c4 c5 c6 c7 c8 c9 c10 c11
          go_wp2_with fail
          (with_reducible refine (leads_c x r table v K _ H5.out (HV.out.on B2)).mono ?_)
          rintro e w3 ⟨rfl, hb3⟩
          have B3 := B2.trans (hb3.mono B2.size)
          clear B2 hb3 N2 c0 c1 c2 c3 c4 c5 c6 c7 c8 c9 c10 c11
          go_wp2
          go_ret
          exact ⟨rfl, B3⟩
    · simp [h2] at hx
      subst hx
      go_enter Tryz.func33, Tryz.ntmps33
      go_wp2
      go_ret
      exact ⟨by simp, B0⟩
  · simp [h1] at hx
    subst hx
    go_enter Tryz.func33, Tryz.ntmps33
    go_wp2
    go_ret
    exact ⟨by simp, B0⟩
end Go.Proofs

namespace Go.Proofs
open Go.RowKit Go.Proofs.Hd Go.Sort
attribute [local go_sem] uv_nonneg
theorem text_any (x : Bool) (c : Cb) (w : World) (hs : c.snd = x) : Calls Tryz.prog 18 #[.agg #[.int .u64 (uv c.vh), .int .u64 (uv c.vl), .int .u64 (uv c.ch), .int .u64 (uv c.cl)]] w fun e w' => ∃ s, e = .returned (.tuple #[.string s, .bool x]) ∧ Below w.heap.size w w' := by
  cases x with
  | true => exact (text_yes c w hs).mono fun e w' h => ⟨_, h.1, h.2⟩
  | false => exact (text_no c w hs).mono fun e w' h => ⟨_, h.1, h.2⟩
end Go.Proofs

namespace Go.Proofs.Hd
open Go.RowKit
/-- v is a slice of slices that read as the tables T. -/
def RuT (w : World) (v : Value) (T : List (List Rl)) : Prop := ∃ A cap, v = .slice A T.length cap ∧ T.length ≤ maxLen ∧ (∀ L ∈ T, L.length ≤ maxLen) ∧ (T ≠ [] → ∃ b o, A = some ⟨b, o, none⟩ ∧ b < w.heap.size ∧ ∀ k L, T[k]? = some L → ∃ s, w.cell? ⟨b, o + k, none⟩ = some s ∧ Ru w s L)
theorem RuT.on {w w' : World} {v : Value} {T : List (List Rl)} (h : RuT w v T) (hb : Below w.heap.size w w') : RuT w' v T := by
  obtain ⟨A, cap, e, h1, h2, h⟩ := h
  refine ⟨A, cap, e, h1, h2, fun hne => ?_⟩
  obtain ⟨b, o, e2, hl, hc⟩ := h hne
  refine ⟨b, o, e2, Nat.lt_of_lt_of_le hl hb.size, fun k L hk => ?_⟩
  obtain ⟨s, h3, h4⟩ := hc k L hk
  exact ⟨s, on_some hb h3, h4.on hb⟩
/-- How many rules the first k tables have, as an int counts. -/
def cntT (T : List (List Rl)) (k : Nat) : Int := (T.take k).foldl (fun c L => IntKind.i64.wrap (c + (L.length : Int))) 0
theorem cntT_succ {T : List (List Rl)} {k : Nat} {L : List Rl} (h : T[k]? = some L) : cntT T (k + 1) = IntKind.i64.wrap (cntT T k + (L.length : Int)) := by
  unfold cntT
  rw [List.take_add_one, h]
  simp
/-- Is a rule sound in table n of m? -/
def okR (m : Nat) (K : List Int) (n : Nat) (r : Rl) : Bool := sndR r (n : Int) K && decide (r.tab < (m : Int))
/-- Are the rules of the first k tables sound? -/
def okT (T : List (List Rl)) (K : List Int) (k : Nat) : Bool := (List.range k).all fun n => (T[n]!).all (okR T.length K n)
theorem okT_succ {T : List (List Rl)} {K : List Int} {k : Nat} {L : List Rl} (h : T[k]? = some L) : okT T K (k + 1) = (okT T K k && L.all (okR T.length K k)) := by
  obtain ⟨hl, e⟩ := List.getElem?_eq_some_iff.1 h
  unfold okT
  rw [List.range_succ, List.all_append]
  simp [hl, e]
theorem okT_no {T : List (List Rl)} {K : List Int} {k j : Nat} {L : List Rl} {r : Rl} (h : T[k]? = some L) (hj : L[j]? = some r) (hr : okR T.length K k r = false) : okT T K T.length = false := by
  cases hc : okT T K T.length with
  | false => rfl
  | true =>
    obtain ⟨hl, e⟩ := List.getElem?_eq_some_iff.1 h
    unfold okT at hc
    rw [List.all_eq_true] at hc
    have h1 := hc k (by simpa using hl)
    rw [getElem!_pos T k hl, e, List.all_eq_true] at h1
    rw [h1 r (List.mem_of_getElem? hj)] at hr
    cases hr
/-- What table.Sound says. -/
def sT (T : List (List Rl)) (K : List Int) : Int := if T.length = 0 ∨ 3 < T.length then 4 else if 96 < cntT T T.length then 12 else if okT T K T.length = true then 0 else 2
theorem all_takeR {L : List Rl} {f : Rl → Bool} {k : Nat} {r : Rl} (h : L[k]? = some r) (ha : (L.take k).all f = true) (hr : f r = true) : (L.take (k + 1)).all f = true := by
  rw [List.take_add_one, h, List.all_append, ha]
  simp [hr]
end Go.Proofs.Hd
namespace Go.Proofs
open Go.RowKit Go.Proofs.Hd Go.Sort Go.Lib
attribute [local go_sem] uv_nonneg
set_option maxHeartbeats 8000000 in
set_option maxRecDepth 100000 in
theorem tabs_c (v pv : Value) (T : List (List Rl)) (KK : List Int) (w : World) (hv : RuT w v T) (hp : Po w pv KK) : Calls Tryz.prog 22 #[v, pv] w fun e w' => e = .returned (.int .i64 (sT T KK)) ∧ Below w.heap.size w w' := by
  obtain ⟨A, cap, rfl, ht, hL, hA⟩ := hv
  have htz : (T.length : Int) ≤ 9223372036854775807 := by unfold maxLen at ht; omega
  by_cases h1 : T.length = 0 ∨ 3 < T.length
  · have hsT : sT T KK = 4 := by unfold sT; rw [if_pos h1]
    rw [hsT]
    clear hA hL hp hsT
    rcases h1 with h1 | h1
    · rw [h1]
      go_enter Tryz.func22, Tryz.ntmps22
      go_wp2
      go_ret
      exact ⟨rfl, Below.refl _ _⟩
    · have hz0 : ¬ (T.length : Int) = 0 := by omega
      have hz0' : ¬ T.length = 0 := by omega
      have hz3 : (3 : Int) < (T.length : Int) := by omega
      have hd0 : decide ((T.length : Int) = 0) = false := decide_eq_false hz0
      go_enter Tryz.func22, Tryz.ntmps22
      go_wp2
      go_ret
      exact ⟨rfl, Below.refl _ _⟩
  · have hz0 : ¬ (T.length : Int) = 0 := by omega
    have hz0' : ¬ T.length = 0 := by omega
    have hz3 : ¬ (3 : Int) < (T.length : Int) := by omega
    have hz3' : (T.length : Int) ≤ 3 := by omega
    have hsT : sT T KK = if 96 < cntT T T.length then 12 else if okT T KK T.length = true then 0 else 2 := by unfold sT; rw [if_neg h1]
    obtain ⟨b, o, rfl, hb0, hc⟩ := hA (by intro e; rw [e] at hz0'; exact hz0' rfl)
    have HC := Lib.hid hc
    have HP := Lib.hid hp
    have HL := Lib.hid hL
    have HS := Lib.hid hsT
    clear hc hp hA hL hsT
    go_enter Tryz.func22, Tryz.ntmps22
    go_wp2
    go_loopg [5, 7, 22] T.length (fun gk s5 _ s22 wr => ∃ (k : Nat) (cn : Int), k ≤ T.length ∧ gk = T.length - k ∧ s22 = .int .i64 k ∧ s5 = .int .i64 cn ∧ Hid (cn = cntT T k) ∧ Hid (Below w.heap.size w wr))
    case atStart => exact ⟨0, 0, Nat.zero_le _, rfl, rfl, rfl, rfl, Below.refl _ _⟩
    case round =>
      obtain ⟨k, cn, hk, rfl, rfl, rfl, HN, HW⟩ := hrel
      by_cases hlt : k < T.length
      · have hltz : (k : Int) < (T.length : Int) := by omega
        obtain ⟨L, hTL⟩ : ∃ L, T[k]? = some L := ⟨_, List.getElem?_eq_getElem hlt⟩
        obtain ⟨s, hcell0, hru⟩ := HC.out k L hTL
        obtain ⟨A1, c1, rfl, _⟩ := hru.form
        have hcell := on_some HW.out hcell0
        obtain ⟨cm, hcm⟩ : ∃ cm, IntKind.i64.wrap (cn + (L.length : Int)) = cm := ⟨_, rfl⟩
        have HN2 : Hid (cm = cntT T (k + 1)) := by show _ = _; rw [cntT_succ hTL, ← HN.out, hcm]
        clear hTL hru HN hcell0
        go_wp2
        go_roundg (T.length - (k + 1))
        case measure => omega
        case rel => exact ⟨k + 1, cm, by omega, rfl, by go_num, rfl, HN2, HW⟩
      · have hltz : ¬ (k : Int) < (T.length : Int) := by omega
        obtain rfl : k = T.length := by omega
        by_cases h96 : 96 < cn
        · have HE : Hid (sT T KK = 12) := by show _ = _; rw [HS.out, if_pos (by rw [← HN.out]; exact h96)]
          clear HS HC HN
          go_wp2
          go_ret
          exact ⟨by rw [HE.out]; rfl, HW.out⟩
        · have HS2 : Hid (sT T KK = if okT T KK T.length = true then 0 else 2) := by show _ = _; rw [HS.out, if_neg (by rw [← HN.out]; exact h96)]
          clear HS HN
          go_wp2
          go_loopg [8, 9, 11, 35, 42] T.length (fun gn s8 s9 s11 s35 s42 wn => ∃ (n : Nat), n ≤ T.length ∧ gn = T.length - n ∧ s35 = .int .i64 n ∧ Hid (okT T KK n = true) ∧ Hid (Below w.heap.size w wn))
          case atStart => exact ⟨0, Nat.zero_le _, rfl, rfl, rfl, HW⟩
          case round =>
            clear HW
            obtain ⟨n, hn, rfl, rfl, HO, HB⟩ := hrel
            by_cases hnt : n < T.length
            · have hntz : (n : Int) < (T.length : Int) := by omega
              obtain ⟨L, hTL⟩ : ∃ L, T[n]? = some L := ⟨_, List.getElem?_eq_getElem hnt⟩
              obtain ⟨s, hcell0, hru⟩ := HC.out n L hTL
              obtain ⟨A1, c1, rfl, hA1⟩ := hru.form
              have hcell := on_some HB.out hcell0
              have HA1 := Lib.hid hA1
              have HTL := Lib.hid hTL
              have hLz : (L.length : Int) ≤ 9223372036854775807 := by have := HL.out L (List.mem_of_getElem? hTL); unfold maxLen at this; omega
              clear hTL hru hcell0 hA1
              go_wp2
              go_loopg [11, 42] L.length (fun gi s11 s42 wi => ∃ (i : Nat), i ≤ L.length ∧ gi = L.length - i ∧ s42 = .int .i64 i ∧ Hid ((L.take i).all (okR T.length KK n) = true) ∧ Hid (Below w.heap.size w wi))
              case atStart => exact ⟨0, Nat.zero_le _, rfl, rfl, rfl, HB⟩
              case round =>
                clear HB hcell
                obtain ⟨i, hi, rfl, rfl, HI, HB⟩ := hrel
                by_cases hit : i < L.length
                · have hitz : (i : Int) < (L.length : Int) := by omega
                  obtain ⟨r, hr⟩ : ∃ r, L[i]? = some r := ⟨_, List.getElem?_eq_getElem hit⟩
                  obtain ⟨b1, o1, rfl, _, hpc⟩ := HA1.out (by intro h; rw [h] at hit; simp at hit)
                  obtain ⟨c0, c1', c2, c3, c4, c5, c6, c7, c8, c9, c10, c11⟩ := ((hpc i r hr).on HB.out).out
                  have hb1 := below1 wr (.cells #[.int .i64 r.pri, .int .u64 (uv r.m.vh), .int .u64 (uv r.m.vl), .int .u64 (uv r.m.ch), .int .u64 (uv r.m.cl), .int .i64 r.kind, .int .i64 r.port, .int .i64 r.tab, .int .u64 (uv r.s.vh), .int .u64 (uv r.s.vl), .int .u64 (uv r.s.ch), .int .u64 (uv r.s.cl)] 51)
                  have N1 : Hid (Blk (wr.alloc (.cells #[.int .i64 r.pri, .int .u64 (uv r.m.vh), .int .u64 (uv r.m.vl), .int .u64 (uv r.m.ch), .int .u64 (uv r.m.cl), .int .i64 r.kind, .int .i64 r.port, .int .i64 r.tab, .int .u64 (uv r.s.vh), .int .u64 (uv r.s.vl), .int .u64 (uv r.s.ch), .int .u64 (uv r.s.cl)] 51)) wr.heap.size 51 #[.int .i64 r.pri, .int .u64 (uv r.m.vh), .int .u64 (uv r.m.vl), .int .u64 (uv r.m.ch), .int .u64 (uv r.m.cl), .int .i64 r.kind, .int .i64 r.port, .int .i64 r.tab, .int .u64 (uv r.s.vh), .int .u64 (uv r.s.vl), .int .u64 (uv r.s.ch), .int .u64 (uv r.s.cl)]) := Blk.new wr _ _
                  have HB1 := Lib.hid (HB.out.trans (hb1.mono HB.out.size))
                  have HR := Lib.hid hr
                  clear hr hpc hb1 HB
                  cases hs : sndR r (n : Int) KK with
                  | false =>
                    have HE : Hid (sT T KK = 2) := by show _ = _; rw [HS2.out, okT_no HTL.out HR.out (by unfold okR; rw [hs]; rfl)]; rfl
                    go_wp2_with fail
                    (with_reducible refine (sound_r false r (n : Int) pv KK _ hs (HP.out.on HB1.out)).mono ?_)
                    rintro e w2 ⟨rfl, hb2⟩
                    have B2 := HB1.out.trans (hb2.mono HB1.out.size)
                    clear HB1 hb2 N1 c0 c1' c2 c3 c4 c5 c6 c7 c8 c9 c10 c11
                    go_wp2
                    go_ret
                    exact ⟨by rw [HE.out]; rfl, B2⟩
                  | true =>
                    by_cases htab : r.tab < (T.length : Int)
                    · have HI2 : Hid ((L.take (i + 1)).all (okR T.length KK n) = true) := all_takeR HR.out HI.out (by unfold okR; rw [hs, decide_eq_true htab]; rfl)
                      have hge : ¬ (T.length : Int) ≤ r.tab := by omega
                      go_wp2_with fail
                      (with_reducible refine (sound_r true r (n : Int) pv KK _ hs (HP.out.on HB1.out)).mono ?_)
                      rintro e w2 ⟨rfl, hb2⟩
                      have HB2 := Lib.hid (HB1.out.trans (hb2.mono HB1.out.size))
                      have d7 := (N1.out.on hb2).cell 7
                      simp at d7
                      clear HB1 hb2 N1 c0 c1' c2 c3 c4 c5 c6 c7 c8 c9 c10 c11
                      go_wp2
                      go_roundg (L.length - (i + 1))
                      case measure => omega
                      case rel => exact ⟨i + 1, by omega, rfl, by go_num, HI2, HB2⟩
                    · have HE : Hid (sT T KK = 2) := by show _ = _; rw [HS2.out, okT_no HTL.out HR.out (by unfold okR; rw [hs, decide_eq_false htab]; rfl)]; rfl
                      have hge : (T.length : Int) ≤ r.tab := by omega
                      go_wp2_with fail
                      (with_reducible refine (sound_r true r (n : Int) pv KK _ hs (HP.out.on HB1.out)).mono ?_)
                      rintro e w2 ⟨rfl, hb2⟩
                      have B2 := HB1.out.trans (hb2.mono HB1.out.size)
                      have d7 := (N1.out.on hb2).cell 7
                      simp at d7
                      clear HB1 hb2 N1 c0 c1' c2 c3 c4 c5 c6 c7 c8 c9 c10 c11
                      go_wp2
                      go_ret
                      exact ⟨by rw [HE.out]; rfl, B2⟩
                · have hitz : ¬ (i : Int) < (L.length : Int) := by omega
                  have HO2 : Hid (okT T KK (n + 1) = true) := by
                    have e := HI.out
                    rw [List.take_of_length_le (by omega)] at e
                    show _ = _
                    rw [okT_succ HTL.out, HO.out, e]
                    rfl
                  go_wp2
                  go_roundg (T.length - (n + 1))
                  case measure => omega
                  case rel => exact ⟨n + 1, by omega, rfl, by go_num, HO2, HB⟩
            · have hntz : ¬ (n : Int) < (T.length : Int) := by omega
              obtain rfl : n = T.length := by omega
              have HE : Hid (sT T KK = 0) := by show _ = _; rw [HS2.out, HO.out]; rfl
              clear HC HO
              go_wp2
              go_ret
              exact ⟨by rw [HE.out]; rfl, HB.out⟩
end Go.Proofs

namespace Go.Proofs.YtmlammdipbkkfaaGreat
open Go.ChangeShapes Go.WideShapes Go.ChangeAt Go.RowKit Go.Joins Go.Deep Go.Proofs.Hd
theorem cellsRules : Tryz.prog.cellsOf 22 = 1 := by kernel_rfl
set_option maxRecDepth 100000 in
/-- A slice of rules that lies in memory. -/
theorem read_rules {H : Type} {enc : TypeId × Value → H} {W : World} {n : Nat} {cs : List Value} {y : DataW H × List MemPlace} (hf : DataW.trod enc Tryz.prog W 0 (fun _ => true) true n 22 cs = some y) :
    ∃ (A : Option Addr) (cap : Nat) (L : List Rl), cs = [.slice A L.length cap] ∧ Ru W (.slice A L.length cap) L ∧ L.length ≤ cap ∧ L.length ≤ maxLen := by
  rcases open_slice Tryz.underlying22 hf with ⟨h1, _⟩ | ⟨a, len, cap, m, n, D, Pl, hcs, _, hlc, hcm, hm, hx, hel⟩
  · exact ⟨none, 0, [], h1, .inl ⟨rfl, none, 0, rfl⟩, Nat.le_refl _, Nat.zero_le _⟩
  · rw [cellsRule] at hel
    have hm' : m = cap := by simpa using hm
    subst hm'
    obtain ⟨f, hfr⟩ := choose_lt (α := Rl) (p := fun i r => ∀ (j : Nat) (u : Value), r.cs[j]? = some u → W.cell? ((a.add (i * 12)).add j) = some u) (fun i (hi : i < m) => by
      obtain ⟨cs', hc, ht⟩ := hel i hi
      obtain ⟨_, hl, hat⟩ := World.cells?_some hc
      obtain ⟨r, rfl⟩ := read_rule hl ht
      refine ⟨r, fun j u hj => ?_⟩
      have hj' : j < 12 := by have := (List.getElem?_eq_some_iff.1 hj).1; rwa [Rl.cs_len] at this
      exact (hat j hj').trans hj)
    have hlen : ((List.range len).map f).length = len := by simp
    refine ⟨some a, m, (List.range len).map f, by rw [hlen]; exact hcs, ?_, by rw [hlen]; exact hlc, by rw [hlen]; exact Nat.le_trans hlc hcm⟩
    by_cases h0 : len = 0
    · subst h0
      exact .inl ⟨by simp, _, _, rfl⟩
    · have h1 := hfr 0 (by omega) 0 _ rfl
      obtain ⟨b, off, spot⟩ := a
      have hs : spot = none := by
        have := World.cell?_spot h1
        simpa [Addr.add] using this
      subst hs
      have hlt := World.block_lt_of_cell? W _ h1
      rw [add_plainR, add_plainR] at hlt
      refine .inr ⟨b, off, m, rfl, hlt, fun k r hk j u hj => ?_⟩
      obtain ⟨hkl, rfl⟩ := List.getElem?_eq_some_iff.1 hk
      simp only [List.length_map, List.length_range] at hkl
      simp only [List.getElem_map, List.getElem_range] at hj
      have := hfr k (by omega) j u hj
      rw [add_plainR, add_plainR] at this
      exact this
set_option maxRecDepth 100000 in
/-- A slice of rules is no longer than its capacity. -/
theorem open_rcap {H : Type} {enc : TypeId × Value → H} {W : World} {base : Nat} {v : Value} {d : DataW H} {p : List MemPlace} (hok : Value.okWide Tryz.prog W .any base 22 v)
    (h0 : DataW.Trod enc Tryz.prog W 0 (fun _ => true) true 22 v d p) : ∀ A n c, v = .slice A n c → n ≤ c := by
  obtain ⟨fuel, hf⟩ := h0
  obtain ⟨va, vl, vc, rfl⟩ := okWide_slice Tryz.underlying22 hok
  obtain ⟨A, cap, L, e, _, h, _⟩ := read_rules hf
  have e2 : va = A ∧ vl = L.length ∧ vc = cap := by simpa [Value.cells] using e
  intro A' n c e'
  injection e' with e1 e3 e4
  omega
set_option maxRecDepth 100000 in
/-- A slice of slices of rules. -/
theorem open_tables {H : Type} {enc : TypeId × Value → H} {W : World} {base : Nat} {v : Value} {d : DataW H} {p : List MemPlace} (hok : Value.okWide Tryz.prog W .any base 64 v)
    (h0 : DataW.Trod enc Tryz.prog W 0 (fun _ => true) true 64 v d p) : ∃ T : List (List Rl), RuT W v T := by
  obtain ⟨fuel, hf⟩ := h0
  obtain ⟨va, vl, vc, rfl⟩ := okWide_slice Tryz.underlying64 hok
  rcases open_slice Tryz.underlying64 hf with ⟨h1, _⟩ | ⟨a, len, cap, m, n, D, Pl, hcs, _, hlc, hcm, hm, hx, hel⟩
  · have : va = none ∧ vl = 0 ∧ vc = 0 := by simpa [Value.cells] using h1
    obtain ⟨rfl, rfl, rfl⟩ := this
    exact ⟨[], none, 0, rfl, Nat.zero_le _, fun L hL => absurd hL (List.not_mem_nil), fun h => absurd rfl h⟩
  · have hv : va = some a ∧ vl = len ∧ vc = cap := by simpa [Value.cells] using hcs
    obtain ⟨rfl, rfl, rfl⟩ := hv
    rw [cellsRules] at hel
    have hm' : m = vc := by simpa using hm
    subst hm'
    obtain ⟨f, hfr⟩ := choose_lt (α := List Rl) (p := fun i L => L.length ≤ maxLen ∧ ∃ s, W.cell? ((a.add (i * 1)).add 0) = some s ∧ Ru W s L) (fun i (hi : i < m) => by
      obtain ⟨cs', hc, ht⟩ := hel i hi
      obtain ⟨_, hl, hat⟩ := World.cells?_some hc
      obtain ⟨A, cap, L, rfl, hr, _, hmx⟩ := read_rules ht
      exact ⟨L, hmx, _, hat 0 (by omega), hr⟩)
    have hlen : ((List.range vl).map f).length = vl := by simp
    refine ⟨(List.range vl).map f, some a, m, by rw [hlen], by rw [hlen]; exact Nat.le_trans hlc hcm, fun L hL => ?_, fun hne => ?_⟩
    · obtain ⟨i, hi, rfl⟩ := List.mem_map.1 hL
      exact (hfr i (by have := List.mem_range.1 hi; omega)).1
    · have h0 : 0 < vl := by
        rcases Nat.eq_zero_or_pos vl with h | h
        · subst h; exact absurd (by simp) hne
        · exact h
      obtain ⟨_, s, h1, _⟩ := hfr 0 (by omega)
      obtain ⟨b, off, spot⟩ := a
      have hs : spot = none := by
        have := World.cell?_spot h1
        simpa [Addr.add] using this
      subst hs
      have hlt := World.block_lt_of_cell? W _ h1
      rw [add_plainR, add_plainR] at hlt
      refine ⟨b, off, rfl, hlt, fun k L hk => ?_⟩
      obtain ⟨hkl, rfl⟩ := List.getElem?_eq_some_iff.1 hk
      simp only [List.length_map, List.length_range] at hkl
      simp only [List.getElem_map, List.getElem_range]
      obtain ⟨_, s, h2, h3⟩ := hfr k (by omega)
      rw [add_plainR, add_plainR, Nat.add_zero, Nat.mul_one] at h2
      exact ⟨s, h2, h3⟩
end Go.Proofs.YtmlammdipbkkfaaGreat

namespace Go.Proofs.Hd
open Go.RowKit
/-- Numbers as cells. -/
def ints (ks : List Nat) : List Value := ks.map fun (k : Nat) => Value.int .i64 (k : Int)
theorem ints_len (ks : List Nat) : (ints ks).length = ks.length := by simp [ints]
theorem ints_snoc (ks : List Nat) (k : Nat) : ints (ks ++ [k]) = ints ks ++ [.int .i64 (k : Int)] := by simp [ints]
/-- v is a slice that reads as the numbers ks. -/
def PlI (w : World) (v : Value) (ks : List Nat) : Prop := (ks = [] ∧ ∃ A cap, v = .slice A 0 cap) ∨ ∃ g cap, v = .slice (some ⟨g, 0, none⟩) ks.length cap ∧ g < w.heap.size ∧ ∀ (j k : Nat), ks[j]? = some k → w.cell? ⟨g, j, none⟩ = some (.int .i64 (k : Int))
theorem PlI.on {w w' : World} {v : Value} {ks : List Nat} (h : PlI w v ks) (hb : Below w.heap.size w w') : PlI w' v ks := by
  rcases h with h | ⟨g, cap, e, hg, h⟩
  · exact .inl h
  · exact .inr ⟨g, cap, e, Nat.lt_of_lt_of_le hg hb.size, fun j k hk => on_some hb (h j k hk)⟩
end Go.Proofs.Hd

namespace Go.Proofs.Hd
open Go.RowKit Go.Sort
/-- How the places i and j of rules p and q are compared. -/
def cfP (p q : Rl) (i j : Nat) : Int := if q.pri < p.pri then -1 else if p.pri < q.pri then 1 else icmp (i : Int) (j : Int)
/-- How two places of a table are compared. -/
def cfB (L : List Rl) (i j : Nat) : Int := cfP L[i]! L[j]! i j
theorem cfP_lt (p q : Rl) (i j : Nat) : decide (cfP p q i j < 0) = decide (q.pri < p.pri ∨ (p.pri = q.pri ∧ i < j)) := by
  unfold cfP icmp
  by_cases h1 : q.pri < p.pri
  · simp [h1]
  · by_cases h2 : p.pri < q.pri
    · have : ¬ p.pri = q.pri := by omega
      simp [h1, h2, this]
    · have : p.pri = q.pri := by omega
      by_cases h3 : i < j
      · simp [this, h3]
      · by_cases h4 : j < i <;> simp [this, h3, h4]
theorem cfB_lt (L : List Rl) (i j : Nat) : decide (cfB L i j < 0) = decide (L[j]!.pri < L[i]!.pri ∨ (L[i]!.pri = L[j]!.pri ∧ i < j)) := cfP_lt _ _ _ _
end Go.Proofs.Hd
namespace Go.Proofs
open Go.RowKit Go.Proofs.Hd Go.Sort Go.Lib
attribute [local go_sem] uv_nonneg
set_option maxRecDepth 100000 in
theorem before_g (a b : Rl) (x : Bool) (w : World) (hx : decide (b.pri < a.pri) = x) : Calls Tryz.prog 38 #[.agg #[.int .i64 a.pri, .int .u64 (uv a.m.vh), .int .u64 (uv a.m.vl), .int .u64 (uv a.m.ch), .int .u64 (uv a.m.cl), .int .i64 a.kind, .int .i64 a.port, .int .i64 a.tab, .int .u64 (uv a.s.vh), .int .u64 (uv a.s.vl), .int .u64 (uv a.s.ch), .int .u64 (uv a.s.cl)], .agg #[.int .i64 b.pri, .int .u64 (uv b.m.vh), .int .u64 (uv b.m.vl), .int .u64 (uv b.m.ch), .int .u64 (uv b.m.cl), .int .i64 b.kind, .int .i64 b.port, .int .i64 b.tab, .int .u64 (uv b.s.vh), .int .u64 (uv b.s.vl), .int .u64 (uv b.s.ch), .int .u64 (uv b.s.cl)]] w fun e w' => e = .returned (.bool x) ∧ Grew w w' := by
  have B0 : Grew w ((w.alloc (.cells #[.int .i64 a.pri, .int .u64 (uv a.m.vh), .int .u64 (uv a.m.vl), .int .u64 (uv a.m.ch), .int .u64 (uv a.m.cl), .int .i64 a.kind, .int .i64 a.port, .int .i64 a.tab, .int .u64 (uv a.s.vh), .int .u64 (uv a.s.vl), .int .u64 (uv a.s.ch), .int .u64 (uv a.s.cl)] 51)).alloc (.cells #[.int .i64 b.pri, .int .u64 (uv b.m.vh), .int .u64 (uv b.m.vl), .int .u64 (uv b.m.ch), .int .u64 (uv b.m.cl), .int .i64 b.kind, .int .i64 b.port, .int .i64 b.tab, .int .u64 (uv b.s.vh), .int .u64 (uv b.s.vl), .int .u64 (uv b.s.ch), .int .u64 (uv b.s.cl)] 51)) := (Grew.alloc1 _ _).trans (Grew.alloc1 _ _)
  obtain ⟨r, hr⟩ : ∃ r, icmp b.pri a.pri = r := ⟨_, rfl⟩
  have hrx : decide (r < 0) = x := by
    rw [← hx, ← hr]
    unfold icmp
    by_cases h1 : b.pri < a.pri
    · rw [if_pos h1]; simp [h1]
    · rw [if_neg h1]; by_cases h2 : a.pri < b.pri <;> simp [h1, h2]
  clear hx
  go_enter Tryz.func38, Tryz.ntmps38
  go_wp2_with fail
  refine (comp_g a b r _ hr).mono ?_
  rintro e w' ⟨rfl, hb⟩
  have B := B0.trans hb
  clear B0 hb
  go_wp2
  go_ret
  exact ⟨by subst hrx; rfl, B⟩
set_option maxHeartbeats 4000000 in
set_option maxRecDepth 100000 in
theorem tcmp_lt (p q : Rl) (i j n b o cap : Nat) (w : World) (hi : i < n) (hj : j < n) (hn : n ≤ 4611686018427387904) (hp : AtR w b (o + i * 12) p) (hq : AtR w b (o + j * 12) q) (h1 : decide (q.pri < p.pri) = true) : Calls Tryz.prog 27 #[.slice (some ⟨b, o, none⟩) n cap, .int .i64 i, .int .i64 j] w fun e w' => e = .returned (.int .i64 (-1)) ∧ Grew w w' := by
  have H1 := h1
  clear h1
  have hiz : (i : Int) < (n : Int) := by omega
  have hjz : (j : Int) < (n : Int) := by omega
  have hnz : (n : Int) ≤ 4611686018427387904 := by omega
  have KP : ∀ W, Grew w W → (Grew w W ∧ W.cell? ⟨b, o + i * 12, none⟩ = some (.int .i64 p.pri) ∧ W.cell? ⟨b, o + i * 12 + 1, none⟩ = some (.int .u64 (uv p.m.vh)) ∧ W.cell? ⟨b, o + i * 12 + 2, none⟩ = some (.int .u64 (uv p.m.vl)) ∧ W.cell? ⟨b, o + i * 12 + 3, none⟩ = some (.int .u64 (uv p.m.ch)) ∧ W.cell? ⟨b, o + i * 12 + 4, none⟩ = some (.int .u64 (uv p.m.cl)) ∧ W.cell? ⟨b, o + i * 12 + 5, none⟩ = some (.int .i64 p.kind) ∧ W.cell? ⟨b, o + i * 12 + 6, none⟩ = some (.int .i64 p.port) ∧ W.cell? ⟨b, o + i * 12 + 7, none⟩ = some (.int .i64 p.tab) ∧ W.cell? ⟨b, o + i * 12 + 8, none⟩ = some (.int .u64 (uv p.s.vh)) ∧ W.cell? ⟨b, o + i * 12 + 9, none⟩ = some (.int .u64 (uv p.s.vl)) ∧ W.cell? ⟨b, o + i * 12 + 10, none⟩ = some (.int .u64 (uv p.s.ch)) ∧ W.cell? ⟨b, o + i * 12 + 11, none⟩ = some (.int .u64 (uv p.s.cl)) ∧ W.cell? ⟨b, o + j * 12, none⟩ = some (.int .i64 q.pri) ∧ W.cell? ⟨b, o + j * 12 + 1, none⟩ = some (.int .u64 (uv q.m.vh)) ∧ W.cell? ⟨b, o + j * 12 + 2, none⟩ = some (.int .u64 (uv q.m.vl)) ∧ W.cell? ⟨b, o + j * 12 + 3, none⟩ = some (.int .u64 (uv q.m.ch)) ∧ W.cell? ⟨b, o + j * 12 + 4, none⟩ = some (.int .u64 (uv q.m.cl)) ∧ W.cell? ⟨b, o + j * 12 + 5, none⟩ = some (.int .i64 q.kind) ∧ W.cell? ⟨b, o + j * 12 + 6, none⟩ = some (.int .i64 q.port) ∧ W.cell? ⟨b, o + j * 12 + 7, none⟩ = some (.int .i64 q.tab) ∧ W.cell? ⟨b, o + j * 12 + 8, none⟩ = some (.int .u64 (uv q.s.vh)) ∧ W.cell? ⟨b, o + j * 12 + 9, none⟩ = some (.int .u64 (uv q.s.vl)) ∧ W.cell? ⟨b, o + j * 12 + 10, none⟩ = some (.int .u64 (uv q.s.ch)) ∧ W.cell? ⟨b, o + j * 12 + 11, none⟩ = some (.int .u64 (uv q.s.cl))) := fun W hb => by
    obtain ⟨x0, x1, x2, x3, x4, x5, x6, x7, x8, x9, x10, x11⟩ := (hp.on hb.below).out
    obtain ⟨y0, y1, y2, y3, y4, y5, y6, y7, y8, y9, y10, y11⟩ := (hq.on hb.below).out
    exact ⟨hb, x0, x1, x2, x3, x4, x5, x6, x7, x8, x9, x10, x11, y0, y1, y2, y3, y4, y5, y6, y7, y8, y9, y10, y11⟩
  have HKP := Lib.hid KP
  clear KP hp hq
  go_enter Tryz.func27, Tryz.ntmps27
  go_upto_region 1 with (fail)
  refine wp_region_held_drew (S := fun w' => Grew w w' ∧ w'.cell? ⟨b, o + i * 12, none⟩ = some (.int .i64 p.pri) ∧ w'.cell? ⟨b, o + i * 12 + 1, none⟩ = some (.int .u64 (uv p.m.vh)) ∧ w'.cell? ⟨b, o + i * 12 + 2, none⟩ = some (.int .u64 (uv p.m.vl)) ∧ w'.cell? ⟨b, o + i * 12 + 3, none⟩ = some (.int .u64 (uv p.m.ch)) ∧ w'.cell? ⟨b, o + i * 12 + 4, none⟩ = some (.int .u64 (uv p.m.cl)) ∧ w'.cell? ⟨b, o + i * 12 + 5, none⟩ = some (.int .i64 p.kind) ∧ w'.cell? ⟨b, o + i * 12 + 6, none⟩ = some (.int .i64 p.port) ∧ w'.cell? ⟨b, o + i * 12 + 7, none⟩ = some (.int .i64 p.tab) ∧ w'.cell? ⟨b, o + i * 12 + 8, none⟩ = some (.int .u64 (uv p.s.vh)) ∧ w'.cell? ⟨b, o + i * 12 + 9, none⟩ = some (.int .u64 (uv p.s.vl)) ∧ w'.cell? ⟨b, o + i * 12 + 10, none⟩ = some (.int .u64 (uv p.s.ch)) ∧ w'.cell? ⟨b, o + i * 12 + 11, none⟩ = some (.int .u64 (uv p.s.cl)) ∧ w'.cell? ⟨b, o + j * 12, none⟩ = some (.int .i64 q.pri) ∧ w'.cell? ⟨b, o + j * 12 + 1, none⟩ = some (.int .u64 (uv q.m.vh)) ∧ w'.cell? ⟨b, o + j * 12 + 2, none⟩ = some (.int .u64 (uv q.m.vl)) ∧ w'.cell? ⟨b, o + j * 12 + 3, none⟩ = some (.int .u64 (uv q.m.ch)) ∧ w'.cell? ⟨b, o + j * 12 + 4, none⟩ = some (.int .u64 (uv q.m.cl)) ∧ w'.cell? ⟨b, o + j * 12 + 5, none⟩ = some (.int .i64 q.kind) ∧ w'.cell? ⟨b, o + j * 12 + 6, none⟩ = some (.int .i64 q.port) ∧ w'.cell? ⟨b, o + j * 12 + 7, none⟩ = some (.int .i64 q.tab) ∧ w'.cell? ⟨b, o + j * 12 + 8, none⟩ = some (.int .u64 (uv q.s.vh)) ∧ w'.cell? ⟨b, o + j * 12 + 9, none⟩ = some (.int .u64 (uv q.s.vl)) ∧ w'.cell? ⟨b, o + j * 12 + 10, none⟩ = some (.int .u64 (uv q.s.ch)) ∧ w'.cell? ⟨b, o + j * 12 + 11, none⟩ = some (.int .u64 (uv q.s.cl))) (by kernel_rfl) (HKP.out _ (Grew.drew1 w)) (fun hHeld => ?_)
  refine wpAnyH_take (i := 0) (oi := ⟨some 8, _, _, _, _, _⟩) (v := ?vf0) rfl (by kernel_rfl) (by kernel_rfl) (by kernel_rfl) (fun _ _ _ h => h) (Or.inl ⟨by rfl, ?yf0⟩) hHeld ?rf0
  case yf0 => (intro w' hSw; (try dsimp only at hSw); go_simp; try (with_reducible rfl))
  simp only [Act.put, List.setIfInBounds_toArray, List.set_cons_zero, List.set_cons_succ]
  refine wpAnyH_take (i := 1) (oi := ⟨some 9, _, _, _, _, _⟩) (v := ?vf1) rfl (by kernel_rfl) (by kernel_rfl) (by kernel_rfl) (fun _ _ _ h => h) (Or.inl ⟨by rfl, ?yf1⟩) hHeld ?rf1
  case yf1 => (intro w' hSw; (try dsimp only at hSw); go_simp; try (with_reducible rfl))
  simp only [Act.put, List.setIfInBounds_toArray, List.set_cons_zero, List.set_cons_succ]
  refine wpAnyH_take (i := 2) (oi := ⟨some 10, _, _, _, _, _⟩) (v := ?vf2) rfl (by kernel_rfl) (by kernel_rfl) (by kernel_rfl) (fun _ _ _ h => h) (Or.inl ⟨by rfl, ?yf2⟩) hHeld ?rf2
  case yf2 => (intro w' hSw; (try dsimp only at hSw); go_simp; try (with_reducible rfl))
  simp only [Act.put, List.setIfInBounds_toArray, List.set_cons_zero, List.set_cons_succ]
  refine wpAnyH_take (i := 3) (oi := ⟨some 11, _, _, _, _, _⟩) (v := ?vf3) rfl (by kernel_rfl) (by kernel_rfl) (by kernel_rfl) (fun _ _ _ h => h) (Or.inl ⟨by rfl, ?yf3⟩) hHeld ?rf3
  case yf3 => (intro w' hSw; (try dsimp only at hSw); go_simp; try (with_reducible rfl))
  simp only [Act.put, List.setIfInBounds_toArray, List.set_cons_zero, List.set_cons_succ]
  refine wpAnyH_take (i := 4) (oi := ⟨some 12, _, _, _, _, _⟩) (v := ?vf4) rfl (by kernel_rfl) (by kernel_rfl) (by kernel_rfl) (fun _ _ _ h => h) (Or.inl ⟨by rfl, ?yf4⟩) hHeld ?rf4
  case yf4 => (intro w' hSw; (try dsimp only at hSw); go_simp; try (with_reducible rfl))
  simp only [Act.put, List.setIfInBounds_toArray, List.set_cons_zero, List.set_cons_succ]
  refine wpAnyH_take (i := 5) (oi := ⟨some 13, _, _, _, _, _⟩) (v := ?vf5) rfl (by kernel_rfl) (by kernel_rfl) (by kernel_rfl) (fun _ _ _ h => h) (Or.inl ⟨by rfl, ?yf5⟩) hHeld ?rf5
  case yf5 => (intro w' hSw; (try dsimp only at hSw); go_simp; try (with_reducible rfl))
  simp only [Act.put, List.setIfInBounds_toArray, List.set_cons_zero, List.set_cons_succ]
  refine wpAnyH_take (i := 6) (oi := ⟨some 14, _, _, _, _, _⟩) (v := ?vf6) rfl (by kernel_rfl) (by kernel_rfl) (by kernel_rfl) (fun _ _ _ h => h) (Or.inl ⟨by rfl, ?yf6⟩) hHeld ?rf6
  case yf6 => (intro w' hSw; (try dsimp only at hSw); go_simp; try (with_reducible rfl))
  simp only [Act.put, List.setIfInBounds_toArray, List.set_cons_zero, List.set_cons_succ]
  refine wpAnyH_take (i := 7) (oi := ⟨some 15, _, _, _, _, _⟩) (v := ?vf7) rfl (by kernel_rfl) (by kernel_rfl) (by kernel_rfl) (fun _ _ _ h => h) (Or.inl ⟨by rfl, ?yf7⟩) hHeld ?rf7
  case yf7 => (intro w' hSw; (try dsimp only at hSw); go_simp; try (with_reducible rfl))
  simp only [Act.put, List.setIfInBounds_toArray, List.set_cons_zero, List.set_cons_succ]
  refine wpAnyH_ready (rs := [8]) (by kernel_rfl) (by simp) ?_
  refine AllReadyH.cons (o := ⟨some 16, _, _, _, _, _⟩) rfl (fun K hK => ?_) AllReadyH.nil
  go_simp
  (with_reducible refine (before_g p q true _ H1).mono ?_)
  rintro e w5 ⟨rfl, hb⟩
  (try dsimp only)
  refine hK.out _ _ (HKP.out _ (hHeld.1.trans hb)) (fun hNext => ?_)
  clear hK K hHeld
  have hHeld := hNext
  clear hNext
  try simp only [Act.put, List.setIfInBounds_toArray, List.set_cons_zero, List.set_cons_succ]
  refine wpAnyH_take (i := 9) (oi := ⟨some 7, _, _, _, _, _⟩) (v := ?vf9) rfl (by kernel_rfl) (by kernel_rfl) (by kernel_rfl) (fun _ _ _ h => h) (Or.inl ⟨by rfl, ?yf9⟩) hHeld ?rf9
  case yf9 => (intro w' hSw; (try dsimp only at hSw); go_simp; try (with_reducible rfl))
  simp only [Act.put, List.setIfInBounds_toArray, List.set_cons_zero, List.set_cons_succ]
  refine wpAnyH_done (by kernel_rfl) ?_ _
  have hL := hHeld.1
  clear hHeld HKP
  go_wp2
  go_ret
  exact ⟨rfl, hL⟩
set_option maxHeartbeats 4000000 in
set_option maxRecDepth 100000 in
theorem tcmp_gt (p q : Rl) (i j n b o cap : Nat) (w : World) (hi : i < n) (hj : j < n) (hn : n ≤ 4611686018427387904) (hp : AtR w b (o + i * 12) p) (hq : AtR w b (o + j * 12) q) (h1 : decide (q.pri < p.pri) = false) (h2 : decide (p.pri < q.pri) = true) : Calls Tryz.prog 27 #[.slice (some ⟨b, o, none⟩) n cap, .int .i64 i, .int .i64 j] w fun e w' => e = .returned (.int .i64 1) ∧ Grew w w' := by
  have H1 := h1
  have H2 := h2
  clear h1 h2
  have hiz : (i : Int) < (n : Int) := by omega
  have hjz : (j : Int) < (n : Int) := by omega
  have hnz : (n : Int) ≤ 4611686018427387904 := by omega
  have KP : ∀ W, Grew w W → (Grew w W ∧ W.cell? ⟨b, o + i * 12, none⟩ = some (.int .i64 p.pri) ∧ W.cell? ⟨b, o + i * 12 + 1, none⟩ = some (.int .u64 (uv p.m.vh)) ∧ W.cell? ⟨b, o + i * 12 + 2, none⟩ = some (.int .u64 (uv p.m.vl)) ∧ W.cell? ⟨b, o + i * 12 + 3, none⟩ = some (.int .u64 (uv p.m.ch)) ∧ W.cell? ⟨b, o + i * 12 + 4, none⟩ = some (.int .u64 (uv p.m.cl)) ∧ W.cell? ⟨b, o + i * 12 + 5, none⟩ = some (.int .i64 p.kind) ∧ W.cell? ⟨b, o + i * 12 + 6, none⟩ = some (.int .i64 p.port) ∧ W.cell? ⟨b, o + i * 12 + 7, none⟩ = some (.int .i64 p.tab) ∧ W.cell? ⟨b, o + i * 12 + 8, none⟩ = some (.int .u64 (uv p.s.vh)) ∧ W.cell? ⟨b, o + i * 12 + 9, none⟩ = some (.int .u64 (uv p.s.vl)) ∧ W.cell? ⟨b, o + i * 12 + 10, none⟩ = some (.int .u64 (uv p.s.ch)) ∧ W.cell? ⟨b, o + i * 12 + 11, none⟩ = some (.int .u64 (uv p.s.cl)) ∧ W.cell? ⟨b, o + j * 12, none⟩ = some (.int .i64 q.pri) ∧ W.cell? ⟨b, o + j * 12 + 1, none⟩ = some (.int .u64 (uv q.m.vh)) ∧ W.cell? ⟨b, o + j * 12 + 2, none⟩ = some (.int .u64 (uv q.m.vl)) ∧ W.cell? ⟨b, o + j * 12 + 3, none⟩ = some (.int .u64 (uv q.m.ch)) ∧ W.cell? ⟨b, o + j * 12 + 4, none⟩ = some (.int .u64 (uv q.m.cl)) ∧ W.cell? ⟨b, o + j * 12 + 5, none⟩ = some (.int .i64 q.kind) ∧ W.cell? ⟨b, o + j * 12 + 6, none⟩ = some (.int .i64 q.port) ∧ W.cell? ⟨b, o + j * 12 + 7, none⟩ = some (.int .i64 q.tab) ∧ W.cell? ⟨b, o + j * 12 + 8, none⟩ = some (.int .u64 (uv q.s.vh)) ∧ W.cell? ⟨b, o + j * 12 + 9, none⟩ = some (.int .u64 (uv q.s.vl)) ∧ W.cell? ⟨b, o + j * 12 + 10, none⟩ = some (.int .u64 (uv q.s.ch)) ∧ W.cell? ⟨b, o + j * 12 + 11, none⟩ = some (.int .u64 (uv q.s.cl))) := fun W hb => by
    obtain ⟨x0, x1, x2, x3, x4, x5, x6, x7, x8, x9, x10, x11⟩ := (hp.on hb.below).out
    obtain ⟨y0, y1, y2, y3, y4, y5, y6, y7, y8, y9, y10, y11⟩ := (hq.on hb.below).out
    exact ⟨hb, x0, x1, x2, x3, x4, x5, x6, x7, x8, x9, x10, x11, y0, y1, y2, y3, y4, y5, y6, y7, y8, y9, y10, y11⟩
  have HKP := Lib.hid KP
  clear KP hp hq
  go_enter Tryz.func27, Tryz.ntmps27
  go_upto_region 1 with (fail)
  refine wp_region_held_drew (S := fun w' => Grew w w' ∧ w'.cell? ⟨b, o + i * 12, none⟩ = some (.int .i64 p.pri) ∧ w'.cell? ⟨b, o + i * 12 + 1, none⟩ = some (.int .u64 (uv p.m.vh)) ∧ w'.cell? ⟨b, o + i * 12 + 2, none⟩ = some (.int .u64 (uv p.m.vl)) ∧ w'.cell? ⟨b, o + i * 12 + 3, none⟩ = some (.int .u64 (uv p.m.ch)) ∧ w'.cell? ⟨b, o + i * 12 + 4, none⟩ = some (.int .u64 (uv p.m.cl)) ∧ w'.cell? ⟨b, o + i * 12 + 5, none⟩ = some (.int .i64 p.kind) ∧ w'.cell? ⟨b, o + i * 12 + 6, none⟩ = some (.int .i64 p.port) ∧ w'.cell? ⟨b, o + i * 12 + 7, none⟩ = some (.int .i64 p.tab) ∧ w'.cell? ⟨b, o + i * 12 + 8, none⟩ = some (.int .u64 (uv p.s.vh)) ∧ w'.cell? ⟨b, o + i * 12 + 9, none⟩ = some (.int .u64 (uv p.s.vl)) ∧ w'.cell? ⟨b, o + i * 12 + 10, none⟩ = some (.int .u64 (uv p.s.ch)) ∧ w'.cell? ⟨b, o + i * 12 + 11, none⟩ = some (.int .u64 (uv p.s.cl)) ∧ w'.cell? ⟨b, o + j * 12, none⟩ = some (.int .i64 q.pri) ∧ w'.cell? ⟨b, o + j * 12 + 1, none⟩ = some (.int .u64 (uv q.m.vh)) ∧ w'.cell? ⟨b, o + j * 12 + 2, none⟩ = some (.int .u64 (uv q.m.vl)) ∧ w'.cell? ⟨b, o + j * 12 + 3, none⟩ = some (.int .u64 (uv q.m.ch)) ∧ w'.cell? ⟨b, o + j * 12 + 4, none⟩ = some (.int .u64 (uv q.m.cl)) ∧ w'.cell? ⟨b, o + j * 12 + 5, none⟩ = some (.int .i64 q.kind) ∧ w'.cell? ⟨b, o + j * 12 + 6, none⟩ = some (.int .i64 q.port) ∧ w'.cell? ⟨b, o + j * 12 + 7, none⟩ = some (.int .i64 q.tab) ∧ w'.cell? ⟨b, o + j * 12 + 8, none⟩ = some (.int .u64 (uv q.s.vh)) ∧ w'.cell? ⟨b, o + j * 12 + 9, none⟩ = some (.int .u64 (uv q.s.vl)) ∧ w'.cell? ⟨b, o + j * 12 + 10, none⟩ = some (.int .u64 (uv q.s.ch)) ∧ w'.cell? ⟨b, o + j * 12 + 11, none⟩ = some (.int .u64 (uv q.s.cl))) (by kernel_rfl) (HKP.out _ (Grew.drew1 w)) (fun hHeld => ?_)
  refine wpAnyH_take (i := 0) (oi := ⟨some 8, _, _, _, _, _⟩) (v := ?vf0) rfl (by kernel_rfl) (by kernel_rfl) (by kernel_rfl) (fun _ _ _ h => h) (Or.inl ⟨by rfl, ?yf0⟩) hHeld ?rf0
  case yf0 => (intro w' hSw; (try dsimp only at hSw); go_simp; try (with_reducible rfl))
  simp only [Act.put, List.setIfInBounds_toArray, List.set_cons_zero, List.set_cons_succ]
  refine wpAnyH_take (i := 1) (oi := ⟨some 9, _, _, _, _, _⟩) (v := ?vf1) rfl (by kernel_rfl) (by kernel_rfl) (by kernel_rfl) (fun _ _ _ h => h) (Or.inl ⟨by rfl, ?yf1⟩) hHeld ?rf1
  case yf1 => (intro w' hSw; (try dsimp only at hSw); go_simp; try (with_reducible rfl))
  simp only [Act.put, List.setIfInBounds_toArray, List.set_cons_zero, List.set_cons_succ]
  refine wpAnyH_take (i := 2) (oi := ⟨some 10, _, _, _, _, _⟩) (v := ?vf2) rfl (by kernel_rfl) (by kernel_rfl) (by kernel_rfl) (fun _ _ _ h => h) (Or.inl ⟨by rfl, ?yf2⟩) hHeld ?rf2
  case yf2 => (intro w' hSw; (try dsimp only at hSw); go_simp; try (with_reducible rfl))
  simp only [Act.put, List.setIfInBounds_toArray, List.set_cons_zero, List.set_cons_succ]
  refine wpAnyH_take (i := 3) (oi := ⟨some 11, _, _, _, _, _⟩) (v := ?vf3) rfl (by kernel_rfl) (by kernel_rfl) (by kernel_rfl) (fun _ _ _ h => h) (Or.inl ⟨by rfl, ?yf3⟩) hHeld ?rf3
  case yf3 => (intro w' hSw; (try dsimp only at hSw); go_simp; try (with_reducible rfl))
  simp only [Act.put, List.setIfInBounds_toArray, List.set_cons_zero, List.set_cons_succ]
  refine wpAnyH_take (i := 4) (oi := ⟨some 12, _, _, _, _, _⟩) (v := ?vf4) rfl (by kernel_rfl) (by kernel_rfl) (by kernel_rfl) (fun _ _ _ h => h) (Or.inl ⟨by rfl, ?yf4⟩) hHeld ?rf4
  case yf4 => (intro w' hSw; (try dsimp only at hSw); go_simp; try (with_reducible rfl))
  simp only [Act.put, List.setIfInBounds_toArray, List.set_cons_zero, List.set_cons_succ]
  refine wpAnyH_take (i := 5) (oi := ⟨some 13, _, _, _, _, _⟩) (v := ?vf5) rfl (by kernel_rfl) (by kernel_rfl) (by kernel_rfl) (fun _ _ _ h => h) (Or.inl ⟨by rfl, ?yf5⟩) hHeld ?rf5
  case yf5 => (intro w' hSw; (try dsimp only at hSw); go_simp; try (with_reducible rfl))
  simp only [Act.put, List.setIfInBounds_toArray, List.set_cons_zero, List.set_cons_succ]
  refine wpAnyH_take (i := 6) (oi := ⟨some 14, _, _, _, _, _⟩) (v := ?vf6) rfl (by kernel_rfl) (by kernel_rfl) (by kernel_rfl) (fun _ _ _ h => h) (Or.inl ⟨by rfl, ?yf6⟩) hHeld ?rf6
  case yf6 => (intro w' hSw; (try dsimp only at hSw); go_simp; try (with_reducible rfl))
  simp only [Act.put, List.setIfInBounds_toArray, List.set_cons_zero, List.set_cons_succ]
  refine wpAnyH_take (i := 7) (oi := ⟨some 15, _, _, _, _, _⟩) (v := ?vf7) rfl (by kernel_rfl) (by kernel_rfl) (by kernel_rfl) (fun _ _ _ h => h) (Or.inl ⟨by rfl, ?yf7⟩) hHeld ?rf7
  case yf7 => (intro w' hSw; (try dsimp only at hSw); go_simp; try (with_reducible rfl))
  simp only [Act.put, List.setIfInBounds_toArray, List.set_cons_zero, List.set_cons_succ]
  refine wpAnyH_ready (rs := [8]) (by kernel_rfl) (by simp) ?_
  refine AllReadyH.cons (o := ⟨some 16, _, _, _, _, _⟩) rfl (fun K hK => ?_) AllReadyH.nil
  go_simp
  (with_reducible refine (before_g p q false _ H1).mono ?_)
  rintro e w5 ⟨rfl, hb⟩
  (try dsimp only)
  refine hK.out _ _ (HKP.out _ (hHeld.1.trans hb)) (fun hNext => ?_)
  clear hK K hHeld
  have hHeld := hNext
  clear hNext
  try simp only [Act.put, List.setIfInBounds_toArray, List.set_cons_zero, List.set_cons_succ]
  refine wpAnyH_take (i := 9) (oi := ⟨some 7, _, _, _, _, _⟩) (v := ?vf9) rfl (by kernel_rfl) (by kernel_rfl) (by kernel_rfl) (fun _ _ _ h => h) (Or.inl ⟨by rfl, ?yf9⟩) hHeld ?rf9
  case yf9 => (intro w' hSw; (try dsimp only at hSw); go_simp; try (with_reducible rfl))
  simp only [Act.put, List.setIfInBounds_toArray, List.set_cons_zero, List.set_cons_succ]
  refine wpAnyH_done (by kernel_rfl) ?_ _
  go_upto_region 3 with (fail)
  refine wp_region_held_drew (S := fun w' => Grew w w' ∧ w'.cell? ⟨b, o + i * 12, none⟩ = some (.int .i64 p.pri) ∧ w'.cell? ⟨b, o + i * 12 + 1, none⟩ = some (.int .u64 (uv p.m.vh)) ∧ w'.cell? ⟨b, o + i * 12 + 2, none⟩ = some (.int .u64 (uv p.m.vl)) ∧ w'.cell? ⟨b, o + i * 12 + 3, none⟩ = some (.int .u64 (uv p.m.ch)) ∧ w'.cell? ⟨b, o + i * 12 + 4, none⟩ = some (.int .u64 (uv p.m.cl)) ∧ w'.cell? ⟨b, o + i * 12 + 5, none⟩ = some (.int .i64 p.kind) ∧ w'.cell? ⟨b, o + i * 12 + 6, none⟩ = some (.int .i64 p.port) ∧ w'.cell? ⟨b, o + i * 12 + 7, none⟩ = some (.int .i64 p.tab) ∧ w'.cell? ⟨b, o + i * 12 + 8, none⟩ = some (.int .u64 (uv p.s.vh)) ∧ w'.cell? ⟨b, o + i * 12 + 9, none⟩ = some (.int .u64 (uv p.s.vl)) ∧ w'.cell? ⟨b, o + i * 12 + 10, none⟩ = some (.int .u64 (uv p.s.ch)) ∧ w'.cell? ⟨b, o + i * 12 + 11, none⟩ = some (.int .u64 (uv p.s.cl)) ∧ w'.cell? ⟨b, o + j * 12, none⟩ = some (.int .i64 q.pri) ∧ w'.cell? ⟨b, o + j * 12 + 1, none⟩ = some (.int .u64 (uv q.m.vh)) ∧ w'.cell? ⟨b, o + j * 12 + 2, none⟩ = some (.int .u64 (uv q.m.vl)) ∧ w'.cell? ⟨b, o + j * 12 + 3, none⟩ = some (.int .u64 (uv q.m.ch)) ∧ w'.cell? ⟨b, o + j * 12 + 4, none⟩ = some (.int .u64 (uv q.m.cl)) ∧ w'.cell? ⟨b, o + j * 12 + 5, none⟩ = some (.int .i64 q.kind) ∧ w'.cell? ⟨b, o + j * 12 + 6, none⟩ = some (.int .i64 q.port) ∧ w'.cell? ⟨b, o + j * 12 + 7, none⟩ = some (.int .i64 q.tab) ∧ w'.cell? ⟨b, o + j * 12 + 8, none⟩ = some (.int .u64 (uv q.s.vh)) ∧ w'.cell? ⟨b, o + j * 12 + 9, none⟩ = some (.int .u64 (uv q.s.vl)) ∧ w'.cell? ⟨b, o + j * 12 + 10, none⟩ = some (.int .u64 (uv q.s.ch)) ∧ w'.cell? ⟨b, o + j * 12 + 11, none⟩ = some (.int .u64 (uv q.s.cl))) (by kernel_rfl) (HKP.out _ (hHeld.1.trans (Grew.drew1 _))) (fun hHeld => ?_)
  refine wpAnyH_take (i := 0) (oi := ⟨some 18, _, _, _, _, _⟩) (v := ?vg0) rfl (by kernel_rfl) (by kernel_rfl) (by kernel_rfl) (fun _ _ _ h => h) (Or.inl ⟨by rfl, ?yg0⟩) hHeld ?rg0
  case yg0 => (intro w' hSw; (try dsimp only at hSw); go_simp; try (with_reducible rfl))
  simp only [Act.put, List.setIfInBounds_toArray, List.set_cons_zero, List.set_cons_succ]
  refine wpAnyH_take (i := 1) (oi := ⟨some 19, _, _, _, _, _⟩) (v := ?vg1) rfl (by kernel_rfl) (by kernel_rfl) (by kernel_rfl) (fun _ _ _ h => h) (Or.inl ⟨by rfl, ?yg1⟩) hHeld ?rg1
  case yg1 => (intro w' hSw; (try dsimp only at hSw); go_simp; try (with_reducible rfl))
  simp only [Act.put, List.setIfInBounds_toArray, List.set_cons_zero, List.set_cons_succ]
  refine wpAnyH_take (i := 2) (oi := ⟨some 20, _, _, _, _, _⟩) (v := ?vg2) rfl (by kernel_rfl) (by kernel_rfl) (by kernel_rfl) (fun _ _ _ h => h) (Or.inl ⟨by rfl, ?yg2⟩) hHeld ?rg2
  case yg2 => (intro w' hSw; (try dsimp only at hSw); go_simp; try (with_reducible rfl))
  simp only [Act.put, List.setIfInBounds_toArray, List.set_cons_zero, List.set_cons_succ]
  refine wpAnyH_take (i := 3) (oi := ⟨some 21, _, _, _, _, _⟩) (v := ?vg3) rfl (by kernel_rfl) (by kernel_rfl) (by kernel_rfl) (fun _ _ _ h => h) (Or.inl ⟨by rfl, ?yg3⟩) hHeld ?rg3
  case yg3 => (intro w' hSw; (try dsimp only at hSw); go_simp; try (with_reducible rfl))
  simp only [Act.put, List.setIfInBounds_toArray, List.set_cons_zero, List.set_cons_succ]
  refine wpAnyH_take (i := 4) (oi := ⟨some 22, _, _, _, _, _⟩) (v := ?vg4) rfl (by kernel_rfl) (by kernel_rfl) (by kernel_rfl) (fun _ _ _ h => h) (Or.inl ⟨by rfl, ?yg4⟩) hHeld ?rg4
  case yg4 => (intro w' hSw; (try dsimp only at hSw); go_simp; try (with_reducible rfl))
  simp only [Act.put, List.setIfInBounds_toArray, List.set_cons_zero, List.set_cons_succ]
  refine wpAnyH_take (i := 5) (oi := ⟨some 23, _, _, _, _, _⟩) (v := ?vg5) rfl (by kernel_rfl) (by kernel_rfl) (by kernel_rfl) (fun _ _ _ h => h) (Or.inl ⟨by rfl, ?yg5⟩) hHeld ?rg5
  case yg5 => (intro w' hSw; (try dsimp only at hSw); go_simp; try (with_reducible rfl))
  simp only [Act.put, List.setIfInBounds_toArray, List.set_cons_zero, List.set_cons_succ]
  refine wpAnyH_take (i := 6) (oi := ⟨some 24, _, _, _, _, _⟩) (v := ?vg6) rfl (by kernel_rfl) (by kernel_rfl) (by kernel_rfl) (fun _ _ _ h => h) (Or.inl ⟨by rfl, ?yg6⟩) hHeld ?rg6
  case yg6 => (intro w' hSw; (try dsimp only at hSw); go_simp; try (with_reducible rfl))
  simp only [Act.put, List.setIfInBounds_toArray, List.set_cons_zero, List.set_cons_succ]
  refine wpAnyH_take (i := 7) (oi := ⟨some 25, _, _, _, _, _⟩) (v := ?vg7) rfl (by kernel_rfl) (by kernel_rfl) (by kernel_rfl) (fun _ _ _ h => h) (Or.inl ⟨by rfl, ?yg7⟩) hHeld ?rg7
  case yg7 => (intro w' hSw; (try dsimp only at hSw); go_simp; try (with_reducible rfl))
  simp only [Act.put, List.setIfInBounds_toArray, List.set_cons_zero, List.set_cons_succ]
  refine wpAnyH_ready (rs := [8]) (by kernel_rfl) (by simp) ?_
  refine AllReadyH.cons (o := ⟨some 26, _, _, _, _, _⟩) rfl (fun K hK => ?_) AllReadyH.nil
  go_simp
  (with_reducible refine (before_g q p true _ H2).mono ?_)
  rintro e w6 ⟨rfl, hb⟩
  (try dsimp only)
  refine hK.out _ _ (HKP.out _ (hHeld.1.trans hb)) (fun hNext => ?_)
  clear hK K hHeld
  have hHeld := hNext
  clear hNext
  try simp only [Act.put, List.setIfInBounds_toArray, List.set_cons_zero, List.set_cons_succ]
  refine wpAnyH_take (i := 9) (oi := ⟨some 17, _, _, _, _, _⟩) (v := ?vg9) rfl (by kernel_rfl) (by kernel_rfl) (by kernel_rfl) (fun _ _ _ h => h) (Or.inl ⟨by rfl, ?yg9⟩) hHeld ?rg9
  case yg9 => (intro w' hSw; (try dsimp only at hSw); go_simp; try (with_reducible rfl))
  simp only [Act.put, List.setIfInBounds_toArray, List.set_cons_zero, List.set_cons_succ]
  refine wpAnyH_done (by kernel_rfl) ?_ _
  have hL := hHeld.1
  clear hHeld HKP
  go_wp2
  go_ret
  exact ⟨rfl, hL⟩
set_option maxHeartbeats 4000000 in
set_option maxRecDepth 100000 in
theorem tcmp_eq (p q : Rl) (i j n b o cap : Nat) (w : World) (hi : i < n) (hj : j < n) (hn : n ≤ 4611686018427387904) (hp : AtR w b (o + i * 12) p) (hq : AtR w b (o + j * 12) q) (r : Int) (h1 : decide (q.pri < p.pri) = false) (h2 : decide (p.pri < q.pri) = false) (h3 : icmp (i : Int) (j : Int) = r) : Calls Tryz.prog 27 #[.slice (some ⟨b, o, none⟩) n cap, .int .i64 i, .int .i64 j] w fun e w' => e = .returned (.int .i64 r) ∧ Grew w w' := by
  have H1 := h1
  have H2 := h2
  clear h1 h2
  have hiz : (i : Int) < (n : Int) := by omega
  have hjz : (j : Int) < (n : Int) := by omega
  have hnz : (n : Int) ≤ 4611686018427387904 := by omega
  have KP : ∀ W, Grew w W → (Grew w W ∧ W.cell? ⟨b, o + i * 12, none⟩ = some (.int .i64 p.pri) ∧ W.cell? ⟨b, o + i * 12 + 1, none⟩ = some (.int .u64 (uv p.m.vh)) ∧ W.cell? ⟨b, o + i * 12 + 2, none⟩ = some (.int .u64 (uv p.m.vl)) ∧ W.cell? ⟨b, o + i * 12 + 3, none⟩ = some (.int .u64 (uv p.m.ch)) ∧ W.cell? ⟨b, o + i * 12 + 4, none⟩ = some (.int .u64 (uv p.m.cl)) ∧ W.cell? ⟨b, o + i * 12 + 5, none⟩ = some (.int .i64 p.kind) ∧ W.cell? ⟨b, o + i * 12 + 6, none⟩ = some (.int .i64 p.port) ∧ W.cell? ⟨b, o + i * 12 + 7, none⟩ = some (.int .i64 p.tab) ∧ W.cell? ⟨b, o + i * 12 + 8, none⟩ = some (.int .u64 (uv p.s.vh)) ∧ W.cell? ⟨b, o + i * 12 + 9, none⟩ = some (.int .u64 (uv p.s.vl)) ∧ W.cell? ⟨b, o + i * 12 + 10, none⟩ = some (.int .u64 (uv p.s.ch)) ∧ W.cell? ⟨b, o + i * 12 + 11, none⟩ = some (.int .u64 (uv p.s.cl)) ∧ W.cell? ⟨b, o + j * 12, none⟩ = some (.int .i64 q.pri) ∧ W.cell? ⟨b, o + j * 12 + 1, none⟩ = some (.int .u64 (uv q.m.vh)) ∧ W.cell? ⟨b, o + j * 12 + 2, none⟩ = some (.int .u64 (uv q.m.vl)) ∧ W.cell? ⟨b, o + j * 12 + 3, none⟩ = some (.int .u64 (uv q.m.ch)) ∧ W.cell? ⟨b, o + j * 12 + 4, none⟩ = some (.int .u64 (uv q.m.cl)) ∧ W.cell? ⟨b, o + j * 12 + 5, none⟩ = some (.int .i64 q.kind) ∧ W.cell? ⟨b, o + j * 12 + 6, none⟩ = some (.int .i64 q.port) ∧ W.cell? ⟨b, o + j * 12 + 7, none⟩ = some (.int .i64 q.tab) ∧ W.cell? ⟨b, o + j * 12 + 8, none⟩ = some (.int .u64 (uv q.s.vh)) ∧ W.cell? ⟨b, o + j * 12 + 9, none⟩ = some (.int .u64 (uv q.s.vl)) ∧ W.cell? ⟨b, o + j * 12 + 10, none⟩ = some (.int .u64 (uv q.s.ch)) ∧ W.cell? ⟨b, o + j * 12 + 11, none⟩ = some (.int .u64 (uv q.s.cl))) := fun W hb => by
    obtain ⟨x0, x1, x2, x3, x4, x5, x6, x7, x8, x9, x10, x11⟩ := (hp.on hb.below).out
    obtain ⟨y0, y1, y2, y3, y4, y5, y6, y7, y8, y9, y10, y11⟩ := (hq.on hb.below).out
    exact ⟨hb, x0, x1, x2, x3, x4, x5, x6, x7, x8, x9, x10, x11, y0, y1, y2, y3, y4, y5, y6, y7, y8, y9, y10, y11⟩
  have HKP := Lib.hid KP
  clear KP hp hq
  go_enter Tryz.func27, Tryz.ntmps27
  go_upto_region 1 with (fail)
  refine wp_region_held_drew (S := fun w' => Grew w w' ∧ w'.cell? ⟨b, o + i * 12, none⟩ = some (.int .i64 p.pri) ∧ w'.cell? ⟨b, o + i * 12 + 1, none⟩ = some (.int .u64 (uv p.m.vh)) ∧ w'.cell? ⟨b, o + i * 12 + 2, none⟩ = some (.int .u64 (uv p.m.vl)) ∧ w'.cell? ⟨b, o + i * 12 + 3, none⟩ = some (.int .u64 (uv p.m.ch)) ∧ w'.cell? ⟨b, o + i * 12 + 4, none⟩ = some (.int .u64 (uv p.m.cl)) ∧ w'.cell? ⟨b, o + i * 12 + 5, none⟩ = some (.int .i64 p.kind) ∧ w'.cell? ⟨b, o + i * 12 + 6, none⟩ = some (.int .i64 p.port) ∧ w'.cell? ⟨b, o + i * 12 + 7, none⟩ = some (.int .i64 p.tab) ∧ w'.cell? ⟨b, o + i * 12 + 8, none⟩ = some (.int .u64 (uv p.s.vh)) ∧ w'.cell? ⟨b, o + i * 12 + 9, none⟩ = some (.int .u64 (uv p.s.vl)) ∧ w'.cell? ⟨b, o + i * 12 + 10, none⟩ = some (.int .u64 (uv p.s.ch)) ∧ w'.cell? ⟨b, o + i * 12 + 11, none⟩ = some (.int .u64 (uv p.s.cl)) ∧ w'.cell? ⟨b, o + j * 12, none⟩ = some (.int .i64 q.pri) ∧ w'.cell? ⟨b, o + j * 12 + 1, none⟩ = some (.int .u64 (uv q.m.vh)) ∧ w'.cell? ⟨b, o + j * 12 + 2, none⟩ = some (.int .u64 (uv q.m.vl)) ∧ w'.cell? ⟨b, o + j * 12 + 3, none⟩ = some (.int .u64 (uv q.m.ch)) ∧ w'.cell? ⟨b, o + j * 12 + 4, none⟩ = some (.int .u64 (uv q.m.cl)) ∧ w'.cell? ⟨b, o + j * 12 + 5, none⟩ = some (.int .i64 q.kind) ∧ w'.cell? ⟨b, o + j * 12 + 6, none⟩ = some (.int .i64 q.port) ∧ w'.cell? ⟨b, o + j * 12 + 7, none⟩ = some (.int .i64 q.tab) ∧ w'.cell? ⟨b, o + j * 12 + 8, none⟩ = some (.int .u64 (uv q.s.vh)) ∧ w'.cell? ⟨b, o + j * 12 + 9, none⟩ = some (.int .u64 (uv q.s.vl)) ∧ w'.cell? ⟨b, o + j * 12 + 10, none⟩ = some (.int .u64 (uv q.s.ch)) ∧ w'.cell? ⟨b, o + j * 12 + 11, none⟩ = some (.int .u64 (uv q.s.cl))) (by kernel_rfl) (HKP.out _ (Grew.drew1 w)) (fun hHeld => ?_)
  refine wpAnyH_take (i := 0) (oi := ⟨some 8, _, _, _, _, _⟩) (v := ?vf0) rfl (by kernel_rfl) (by kernel_rfl) (by kernel_rfl) (fun _ _ _ h => h) (Or.inl ⟨by rfl, ?yf0⟩) hHeld ?rf0
  case yf0 => (intro w' hSw; (try dsimp only at hSw); go_simp; try (with_reducible rfl))
  simp only [Act.put, List.setIfInBounds_toArray, List.set_cons_zero, List.set_cons_succ]
  refine wpAnyH_take (i := 1) (oi := ⟨some 9, _, _, _, _, _⟩) (v := ?vf1) rfl (by kernel_rfl) (by kernel_rfl) (by kernel_rfl) (fun _ _ _ h => h) (Or.inl ⟨by rfl, ?yf1⟩) hHeld ?rf1
  case yf1 => (intro w' hSw; (try dsimp only at hSw); go_simp; try (with_reducible rfl))
  simp only [Act.put, List.setIfInBounds_toArray, List.set_cons_zero, List.set_cons_succ]
  refine wpAnyH_take (i := 2) (oi := ⟨some 10, _, _, _, _, _⟩) (v := ?vf2) rfl (by kernel_rfl) (by kernel_rfl) (by kernel_rfl) (fun _ _ _ h => h) (Or.inl ⟨by rfl, ?yf2⟩) hHeld ?rf2
  case yf2 => (intro w' hSw; (try dsimp only at hSw); go_simp; try (with_reducible rfl))
  simp only [Act.put, List.setIfInBounds_toArray, List.set_cons_zero, List.set_cons_succ]
  refine wpAnyH_take (i := 3) (oi := ⟨some 11, _, _, _, _, _⟩) (v := ?vf3) rfl (by kernel_rfl) (by kernel_rfl) (by kernel_rfl) (fun _ _ _ h => h) (Or.inl ⟨by rfl, ?yf3⟩) hHeld ?rf3
  case yf3 => (intro w' hSw; (try dsimp only at hSw); go_simp; try (with_reducible rfl))
  simp only [Act.put, List.setIfInBounds_toArray, List.set_cons_zero, List.set_cons_succ]
  refine wpAnyH_take (i := 4) (oi := ⟨some 12, _, _, _, _, _⟩) (v := ?vf4) rfl (by kernel_rfl) (by kernel_rfl) (by kernel_rfl) (fun _ _ _ h => h) (Or.inl ⟨by rfl, ?yf4⟩) hHeld ?rf4
  case yf4 => (intro w' hSw; (try dsimp only at hSw); go_simp; try (with_reducible rfl))
  simp only [Act.put, List.setIfInBounds_toArray, List.set_cons_zero, List.set_cons_succ]
  refine wpAnyH_take (i := 5) (oi := ⟨some 13, _, _, _, _, _⟩) (v := ?vf5) rfl (by kernel_rfl) (by kernel_rfl) (by kernel_rfl) (fun _ _ _ h => h) (Or.inl ⟨by rfl, ?yf5⟩) hHeld ?rf5
  case yf5 => (intro w' hSw; (try dsimp only at hSw); go_simp; try (with_reducible rfl))
  simp only [Act.put, List.setIfInBounds_toArray, List.set_cons_zero, List.set_cons_succ]
  refine wpAnyH_take (i := 6) (oi := ⟨some 14, _, _, _, _, _⟩) (v := ?vf6) rfl (by kernel_rfl) (by kernel_rfl) (by kernel_rfl) (fun _ _ _ h => h) (Or.inl ⟨by rfl, ?yf6⟩) hHeld ?rf6
  case yf6 => (intro w' hSw; (try dsimp only at hSw); go_simp; try (with_reducible rfl))
  simp only [Act.put, List.setIfInBounds_toArray, List.set_cons_zero, List.set_cons_succ]
  refine wpAnyH_take (i := 7) (oi := ⟨some 15, _, _, _, _, _⟩) (v := ?vf7) rfl (by kernel_rfl) (by kernel_rfl) (by kernel_rfl) (fun _ _ _ h => h) (Or.inl ⟨by rfl, ?yf7⟩) hHeld ?rf7
  case yf7 => (intro w' hSw; (try dsimp only at hSw); go_simp; try (with_reducible rfl))
  simp only [Act.put, List.setIfInBounds_toArray, List.set_cons_zero, List.set_cons_succ]
  refine wpAnyH_ready (rs := [8]) (by kernel_rfl) (by simp) ?_
  refine AllReadyH.cons (o := ⟨some 16, _, _, _, _, _⟩) rfl (fun K hK => ?_) AllReadyH.nil
  go_simp
  (with_reducible refine (before_g p q false _ H1).mono ?_)
  rintro e w5 ⟨rfl, hb⟩
  (try dsimp only)
  refine hK.out _ _ (HKP.out _ (hHeld.1.trans hb)) (fun hNext => ?_)
  clear hK K hHeld
  have hHeld := hNext
  clear hNext
  try simp only [Act.put, List.setIfInBounds_toArray, List.set_cons_zero, List.set_cons_succ]
  refine wpAnyH_take (i := 9) (oi := ⟨some 7, _, _, _, _, _⟩) (v := ?vf9) rfl (by kernel_rfl) (by kernel_rfl) (by kernel_rfl) (fun _ _ _ h => h) (Or.inl ⟨by rfl, ?yf9⟩) hHeld ?rf9
  case yf9 => (intro w' hSw; (try dsimp only at hSw); go_simp; try (with_reducible rfl))
  simp only [Act.put, List.setIfInBounds_toArray, List.set_cons_zero, List.set_cons_succ]
  refine wpAnyH_done (by kernel_rfl) ?_ _
  go_upto_region 3 with (fail)
  refine wp_region_held_drew (S := fun w' => Grew w w' ∧ w'.cell? ⟨b, o + i * 12, none⟩ = some (.int .i64 p.pri) ∧ w'.cell? ⟨b, o + i * 12 + 1, none⟩ = some (.int .u64 (uv p.m.vh)) ∧ w'.cell? ⟨b, o + i * 12 + 2, none⟩ = some (.int .u64 (uv p.m.vl)) ∧ w'.cell? ⟨b, o + i * 12 + 3, none⟩ = some (.int .u64 (uv p.m.ch)) ∧ w'.cell? ⟨b, o + i * 12 + 4, none⟩ = some (.int .u64 (uv p.m.cl)) ∧ w'.cell? ⟨b, o + i * 12 + 5, none⟩ = some (.int .i64 p.kind) ∧ w'.cell? ⟨b, o + i * 12 + 6, none⟩ = some (.int .i64 p.port) ∧ w'.cell? ⟨b, o + i * 12 + 7, none⟩ = some (.int .i64 p.tab) ∧ w'.cell? ⟨b, o + i * 12 + 8, none⟩ = some (.int .u64 (uv p.s.vh)) ∧ w'.cell? ⟨b, o + i * 12 + 9, none⟩ = some (.int .u64 (uv p.s.vl)) ∧ w'.cell? ⟨b, o + i * 12 + 10, none⟩ = some (.int .u64 (uv p.s.ch)) ∧ w'.cell? ⟨b, o + i * 12 + 11, none⟩ = some (.int .u64 (uv p.s.cl)) ∧ w'.cell? ⟨b, o + j * 12, none⟩ = some (.int .i64 q.pri) ∧ w'.cell? ⟨b, o + j * 12 + 1, none⟩ = some (.int .u64 (uv q.m.vh)) ∧ w'.cell? ⟨b, o + j * 12 + 2, none⟩ = some (.int .u64 (uv q.m.vl)) ∧ w'.cell? ⟨b, o + j * 12 + 3, none⟩ = some (.int .u64 (uv q.m.ch)) ∧ w'.cell? ⟨b, o + j * 12 + 4, none⟩ = some (.int .u64 (uv q.m.cl)) ∧ w'.cell? ⟨b, o + j * 12 + 5, none⟩ = some (.int .i64 q.kind) ∧ w'.cell? ⟨b, o + j * 12 + 6, none⟩ = some (.int .i64 q.port) ∧ w'.cell? ⟨b, o + j * 12 + 7, none⟩ = some (.int .i64 q.tab) ∧ w'.cell? ⟨b, o + j * 12 + 8, none⟩ = some (.int .u64 (uv q.s.vh)) ∧ w'.cell? ⟨b, o + j * 12 + 9, none⟩ = some (.int .u64 (uv q.s.vl)) ∧ w'.cell? ⟨b, o + j * 12 + 10, none⟩ = some (.int .u64 (uv q.s.ch)) ∧ w'.cell? ⟨b, o + j * 12 + 11, none⟩ = some (.int .u64 (uv q.s.cl))) (by kernel_rfl) (HKP.out _ (hHeld.1.trans (Grew.drew1 _))) (fun hHeld => ?_)
  refine wpAnyH_take (i := 0) (oi := ⟨some 18, _, _, _, _, _⟩) (v := ?vg0) rfl (by kernel_rfl) (by kernel_rfl) (by kernel_rfl) (fun _ _ _ h => h) (Or.inl ⟨by rfl, ?yg0⟩) hHeld ?rg0
  case yg0 => (intro w' hSw; (try dsimp only at hSw); go_simp; try (with_reducible rfl))
  simp only [Act.put, List.setIfInBounds_toArray, List.set_cons_zero, List.set_cons_succ]
  refine wpAnyH_take (i := 1) (oi := ⟨some 19, _, _, _, _, _⟩) (v := ?vg1) rfl (by kernel_rfl) (by kernel_rfl) (by kernel_rfl) (fun _ _ _ h => h) (Or.inl ⟨by rfl, ?yg1⟩) hHeld ?rg1
  case yg1 => (intro w' hSw; (try dsimp only at hSw); go_simp; try (with_reducible rfl))
  simp only [Act.put, List.setIfInBounds_toArray, List.set_cons_zero, List.set_cons_succ]
  refine wpAnyH_take (i := 2) (oi := ⟨some 20, _, _, _, _, _⟩) (v := ?vg2) rfl (by kernel_rfl) (by kernel_rfl) (by kernel_rfl) (fun _ _ _ h => h) (Or.inl ⟨by rfl, ?yg2⟩) hHeld ?rg2
  case yg2 => (intro w' hSw; (try dsimp only at hSw); go_simp; try (with_reducible rfl))
  simp only [Act.put, List.setIfInBounds_toArray, List.set_cons_zero, List.set_cons_succ]
  refine wpAnyH_take (i := 3) (oi := ⟨some 21, _, _, _, _, _⟩) (v := ?vg3) rfl (by kernel_rfl) (by kernel_rfl) (by kernel_rfl) (fun _ _ _ h => h) (Or.inl ⟨by rfl, ?yg3⟩) hHeld ?rg3
  case yg3 => (intro w' hSw; (try dsimp only at hSw); go_simp; try (with_reducible rfl))
  simp only [Act.put, List.setIfInBounds_toArray, List.set_cons_zero, List.set_cons_succ]
  refine wpAnyH_take (i := 4) (oi := ⟨some 22, _, _, _, _, _⟩) (v := ?vg4) rfl (by kernel_rfl) (by kernel_rfl) (by kernel_rfl) (fun _ _ _ h => h) (Or.inl ⟨by rfl, ?yg4⟩) hHeld ?rg4
  case yg4 => (intro w' hSw; (try dsimp only at hSw); go_simp; try (with_reducible rfl))
  simp only [Act.put, List.setIfInBounds_toArray, List.set_cons_zero, List.set_cons_succ]
  refine wpAnyH_take (i := 5) (oi := ⟨some 23, _, _, _, _, _⟩) (v := ?vg5) rfl (by kernel_rfl) (by kernel_rfl) (by kernel_rfl) (fun _ _ _ h => h) (Or.inl ⟨by rfl, ?yg5⟩) hHeld ?rg5
  case yg5 => (intro w' hSw; (try dsimp only at hSw); go_simp; try (with_reducible rfl))
  simp only [Act.put, List.setIfInBounds_toArray, List.set_cons_zero, List.set_cons_succ]
  refine wpAnyH_take (i := 6) (oi := ⟨some 24, _, _, _, _, _⟩) (v := ?vg6) rfl (by kernel_rfl) (by kernel_rfl) (by kernel_rfl) (fun _ _ _ h => h) (Or.inl ⟨by rfl, ?yg6⟩) hHeld ?rg6
  case yg6 => (intro w' hSw; (try dsimp only at hSw); go_simp; try (with_reducible rfl))
  simp only [Act.put, List.setIfInBounds_toArray, List.set_cons_zero, List.set_cons_succ]
  refine wpAnyH_take (i := 7) (oi := ⟨some 25, _, _, _, _, _⟩) (v := ?vg7) rfl (by kernel_rfl) (by kernel_rfl) (by kernel_rfl) (fun _ _ _ h => h) (Or.inl ⟨by rfl, ?yg7⟩) hHeld ?rg7
  case yg7 => (intro w' hSw; (try dsimp only at hSw); go_simp; try (with_reducible rfl))
  simp only [Act.put, List.setIfInBounds_toArray, List.set_cons_zero, List.set_cons_succ]
  refine wpAnyH_ready (rs := [8]) (by kernel_rfl) (by simp) ?_
  refine AllReadyH.cons (o := ⟨some 26, _, _, _, _, _⟩) rfl (fun K hK => ?_) AllReadyH.nil
  go_simp
  (with_reducible refine (before_g q p false _ H2).mono ?_)
  rintro e w6 ⟨rfl, hb⟩
  (try dsimp only)
  refine hK.out _ _ (HKP.out _ (hHeld.1.trans hb)) (fun hNext => ?_)
  clear hK K hHeld
  have hHeld := hNext
  clear hNext
  try simp only [Act.put, List.setIfInBounds_toArray, List.set_cons_zero, List.set_cons_succ]
  refine wpAnyH_take (i := 9) (oi := ⟨some 17, _, _, _, _, _⟩) (v := ?vg9) rfl (by kernel_rfl) (by kernel_rfl) (by kernel_rfl) (fun _ _ _ h => h) (Or.inl ⟨by rfl, ?yg9⟩) hHeld ?rg9
  case yg9 => (intro w' hSw; (try dsimp only at hSw); go_simp; try (with_reducible rfl))
  simp only [Act.put, List.setIfInBounds_toArray, List.set_cons_zero, List.set_cons_succ]
  refine wpAnyH_done (by kernel_rfl) ?_ _
  have hL := hHeld.1
  clear hHeld HKP
  go_wp2_with fail
  (with_reducible refine (cmpI_g _ _ r _ h3).mono ?_)
  rintro e w7 ⟨rfl, hb⟩
  have hM := hL.trans hb
  clear hL hb
  go_wp2
  go_ret
  exact ⟨rfl, hM⟩
theorem tcmp_g (p q : Rl) (r : Int) (i j n b o cap : Nat) (w : World) (hi : i < n) (hj : j < n) (hn : n ≤ 4611686018427387904) (hp : AtR w b (o + i * 12) p) (hq : AtR w b (o + j * 12) q) (hr : cfP p q i j = r) : Calls Tryz.prog 27 #[.slice (some ⟨b, o, none⟩) n cap, .int .i64 i, .int .i64 j] w fun e w' => e = .returned (.int .i64 r) ∧ Grew w w' := by
  unfold cfP at hr
  by_cases h1 : q.pri < p.pri
  · rw [if_pos h1] at hr; subst hr
    exact tcmp_lt p q i j n b o cap w hi hj hn hp hq (decide_eq_true h1)
  · rw [if_neg h1] at hr
    by_cases h2 : p.pri < q.pri
    · rw [if_pos h2] at hr; subst hr
      exact tcmp_gt p q i j n b o cap w hi hj hn hp hq (decide_eq_false h1) (decide_eq_true h2)
    · rw [if_neg h2] at hr
      exact tcmp_eq p q i j n b o cap w hi hj hn hp hq r (decide_eq_false h1) (decide_eq_false h2) hr
end Go.Proofs

namespace Go.Proofs
open Go.Shelf Go.RowKit Go.Proofs.Hd
def lzRen : Go.Shelf.Ren := ⟨fun | 134 => 98 | 129 => 58 | n => n, fun | 53 => 43 | 3 => 3 | 4 => 4 | 46 => 82 | 5 => 5 | 9 => 9 | n => n, fun | n => n⟩
theorem lzLays : Go.Proofs.Lays.n134 Tryz.prog lzRen where
  mixed := by kernel_rfl
  f129 := Tryz.func58.trans (congrArg some (by kernel_rfl))
  f134 := Tryz.func98.trans (congrArg some (by kernel_rfl))
  t3 := Tryz.underlying3
  a3 := Tryz.isAgg3
  z3 := Tryz.sizeOf3
  v3 := Tryz.zeroValue3
  t4 := Tryz.underlying4
  a4 := Tryz.isAgg4
  z4 := Tryz.sizeOf4
  v4 := Tryz.zeroValue4
  t5 := Tryz.underlying5
  a5 := Tryz.isAgg5
  z5 := Tryz.sizeOf5
  v5 := Tryz.zeroValue5
  t9 := Tryz.underlying9
  a9 := Tryz.isAgg9
  z9 := Tryz.sizeOf9
  v9 := Tryz.zeroValue9
  t46 := Tryz.underlying82
  a46 := Tryz.isAgg82
  z46 := Tryz.sizeOf82
  v46 := Tryz.zeroValue82
  t53 := Tryz.underlying43
  a53 := Tryz.isAgg43
  z53 := Tryz.sizeOf43
  v53 := Tryz.zeroValue43
theorem lz_c (a : BitVec 64) (w : World) : Calls Tryz.prog 98 #[.int .u64 (uv a)] w fun e w' => e = .returned (.int .i64 ((64 - Lib.bitLen a.toNat : Nat) : Int)) ∧ w = w' := by
  have h := Any.bits_LeadingZeros64 lzLays (uv a) w (uv_nonneg a) (by have := uv_lt a; omega)
  have l := Lib.bitLen_le a.toNat 64 (Nat.le_refl _) a.isLt
  have e1 : (uv a).toNat = a.toNat := by unfold uv; omega
  rw [e1] at h
  have e2 : ((64 - Lib.bitLen a.toNat : Nat) : Int) = 64 - (Lib.bitLen a.toNat : Int) := by omega
  rw [e2]
  exact h.mono fun e w' h => ⟨h.1, h.2.symm⟩
end Go.Proofs

namespace Go.Proofs
open Go.RowKit Go.Proofs.Hd
theorem uv_big_shr (k : Nat) : (9223372036854775808 : Int) / 2 ^ k = uv (9223372036854775808#64 >>> k) := uv_shr 9223372036854775808#64 k
attribute [local go_sem] uv_nonneg uv_big_shr
theorem neq_zero (x : BitVec 64) (h : x ≠ 0#64) : (uv x != 0) = true := by
  rw [uv_zero]; unfold bne; rw [uv_beq]; simpa using h

theorem lz_n (a : BitVec 64) (w : World) (n : Nat) (h : 64 - Lib.bitLen a.toNat = n) : Calls Tryz.prog 98 #[.int .u64 (uv a)] w fun e w' => e = .returned (.int .i64 (n : Int)) ∧ w = w' := by
  subst h; exact lz_c a w

theorem highest_hi (hh hl : BitVec 64) (w : World) (c : hh ≠ 0#64) : Calls Tryz.prog 83 #[.agg #[.int .u64 (uv hh), .int .u64 (uv hl)]] w fun e w' => e = .returned (.agg #[.int .u64 (uv (hiT hh hl)), .int .u64 (uv (loT hh hl))]) ∧ Below w.heap.size w w' := by
  have c1 := neq_zero hh c
  rw [hiT, loT, if_neg c, if_neg c]
  unfold topW
  obtain ⟨n, hn⟩ : ∃ n, 64 - Lib.bitLen hh.toNat = n := ⟨_, rfl⟩
  rw [hn]
  have h64 : n ≤ 64 := by omega
  have HN := Lib.hid hn
  clear hn c
  go_enter Tryz.func83, Tryz.ntmps83
  go_wp2_with (go_at_call 98; refine (lz_n _ _ n HN.out).mono ?_; rintro e w' ⟨rfl, rfl⟩)
  exact bodyPost_ret (v := .agg #[.int .u64 (uv (9223372036854775808#64 >>> n)), .int .u64 (uv 0#64)]) (by simp [results, Tryz.results83, go_sem, ← uv_zero]) rfl ⟨rfl, below2 _ _ _⟩

theorem highest_lo (hh hl : BitVec 64) (w : World) (c : hh = 0#64) : Calls Tryz.prog 83 #[.agg #[.int .u64 (uv hh), .int .u64 (uv hl)]] w fun e w' => e = .returned (.agg #[.int .u64 (uv (hiT hh hl)), .int .u64 (uv (loT hh hl))]) ∧ Below w.heap.size w w' := by
  rw [hiT, loT, if_pos c, if_pos c]
  subst c
  rw [← uv_zero]
  unfold topW
  obtain ⟨n, hn⟩ : ∃ n, 64 - Lib.bitLen hl.toNat = n := ⟨_, rfl⟩
  rw [hn]
  have h64 : n ≤ 64 := by omega
  have HN := Lib.hid hn
  clear hn
  go_enter Tryz.func83, Tryz.ntmps83
  go_wp2_with (go_at_call 98; refine (lz_n _ _ n HN.out).mono ?_; rintro e w' ⟨rfl, rfl⟩)
  exact bodyPost_ret (v := .agg #[.int .u64 0, .int .u64 (uv (9223372036854775808#64 >>> n))]) (by simp [results, Tryz.results83, go_sem]) rfl ⟨rfl, below2 _ _ _⟩

theorem highest_c (hh hl : BitVec 64) (k : Nat) (ks : List Nat) (w : World) (h : bitsDown (hbit hh hl) 128 = k :: ks) : Calls Tryz.prog 83 #[.agg #[.int .u64 (uv hh), .int .u64 (uv hl)]] w fun e w' => e = .returned (.agg #[.int .u64 (uv (oneH k)), .int .u64 (uv (oneL k))]) ∧ Below w.heap.size w w' := by
  obtain ⟨e1, e2⟩ := highest_one h
  rw [← e1, ← e2]
  by_cases c : hh = 0#64
  · exact highest_lo hh hl w c
  · exact highest_hi hh hl w c
end Go.Proofs

namespace Go.Proofs.Hd
open Go.RowKit
def Cb.arr (c : Cb) : Array Value := #[.int .u64 (uv c.vh), .int .u64 (uv c.vl), .int .u64 (uv c.ch), .int .u64 (uv c.cl)]
def hArr (h l : BitVec 64) : Array Value := #[.int .u64 (uv h), .int .u64 (uv l)]
structure Lw (w wr : World) (a b : Cb) (g : Nat) (lh ll : BitVec 64) (v : Value) (L : List Cb) : Prop where
  bel : Below w.heap.size w wr
  ba : Blk wr w.heap.size 47 a.arr
  bb : Blk wr (w.heap.size + 1) 47 b.arr
  bg : Blk wr g 45 (hArr lh ll)
  gb : w.heap.size + 2 ≤ g
  own : wr.ownsRow (w.heap.size + 2) 47 4 v L.length (flat L)
theorem Lw.on {w wr w2 : World} {a b : Cb} {g : Nat} {lh ll : BitVec 64} {v : Value} {L : List Cb} (h : Lw w wr a b g lh ll v L) (hb : Below wr.heap.size wr w2) : Lw w w2 a b g lh ll v L :=
  ⟨h.bel.trans (hb.mono h.bel.size), h.ba.on hb, h.bb.on hb, h.bg.on hb, h.gb, own_on h.own hb⟩
theorem Lw.setL {w wr : World} {a b : Cb} {g : Nat} {lh ll : BitVec 64} {v : Value} {L : List Cb} (h : Lw w wr a b g lh ll v L) (p q : BitVec 64) :
    Lw w ((wr.setCell ⟨g, 0, none⟩ (.int .u64 (uv p))).setCell ⟨g, 1, none⟩ (.int .u64 (uv q))) a b g p q v L := by
  have hg := h.gb
  have n0 : v.ownBlock ≠ some g := fun e => own_apart h.own h.bg (by decide) e.symm
  refine ⟨(h.bel.setCell (by show _ ≤ g; omega) _).setCell (by show _ ≤ g; omega) _, (h.ba.far (by show _ ≠ g; omega) _).far (by show _ ≠ g; omega) _, (h.bb.far (by show _ ≠ g; omega) _).far (by show _ ≠ g; omega) _, ?_, h.gb, ownsRow_setCell_other (ownsRow_setCell_other h.own n0 _) n0 _⟩
  exact ((h.bg.set 0 (.int .u64 (uv p))).set 1 (.int .u64 (uv q)))
theorem Lw.setA {w wr : World} {a b : Cb} {g : Nat} {lh ll : BitVec 64} {v : Value} {L : List Cb} (h : Lw w wr a b g lh ll v L) (c : Cb) :
    Lw w ((((wr.setCell ⟨w.heap.size, 0, none⟩ (.int .u64 (uv c.vh))).setCell ⟨w.heap.size, 1, none⟩ (.int .u64 (uv c.vl))).setCell ⟨w.heap.size, 2, none⟩ (.int .u64 (uv c.ch))).setCell ⟨w.heap.size, 3, none⟩ (.int .u64 (uv c.cl))) c b g lh ll v L := by
  have hg := h.gb
  refine ⟨h.bel.trans ((sets4 _ _ _ _ _ _).mono (Nat.le_refl _)), ?_, ?_, ?_, h.gb, ?_⟩
  · exact (((h.ba.set 0 (.int .u64 (uv c.vh))).set 1 (.int .u64 (uv c.vl))).set 2 (.int .u64 (uv c.ch))).set 3 (.int .u64 (uv c.cl))
  · exact (((h.bb.far (by show _ ≠ w.heap.size; omega) _).far (by show _ ≠ w.heap.size; omega) _).far (by show _ ≠ w.heap.size; omega) _).far (by show _ ≠ w.heap.size; omega) _
  · exact (((h.bg.far (by show _ ≠ w.heap.size; omega) _).far (by show _ ≠ w.heap.size; omega) _).far (by show _ ≠ w.heap.size; omega) _).far (by show _ ≠ w.heap.size; omega) _
  · exact ownsRow_setCell_below (ownsRow_setCell_below (ownsRow_setCell_below (ownsRow_setCell_below h.own (by show w.heap.size < _; omega) _) (by show w.heap.size < _; omega) _) (by show w.heap.size < _; omega) _) (by show w.heap.size < _; omega) _
theorem Lw.newL {w wr : World} {a b : Cb} {g : Nat} {lh ll : BitVec 64} {v : Value} {L : List Cb} (h : Lw w wr a b g lh ll v L) (p q : BitVec 64) (hz : w.heap.size + 2 ≤ wr.heap.size) :
    Lw w (wr.alloc (.cells #[.int .u64 (uv p), .int .u64 (uv q)] 45)) a b wr.heap.size p q v L := by
  have hb : Below wr.heap.size wr (wr.alloc (.cells #[.int .u64 (uv p), .int .u64 (uv q)] 45)) := (Below.refl _ _).alloc (Nat.le_refl _) _
  have h2 := h.on hb
  exact ⟨h2.bel, h2.ba, h2.bb, Blk.new _ _ _, hz, h2.own⟩
theorem Lw.append {w wr w2 : World} {a b : Cb} {g : Nat} {lh ll : BitVec 64} {v v' : Value} {L : List Cb} {c : Cb} (h : Lw w wr a b g lh ll v L) (hg : wr.grownBy w2 v.ownBlock)
    (hown : w2.ownsRow (w.heap.size + 2) 47 4 v' (L.length + 1) (flat L ++ c.cells)) : Lw w w2 a b g lh ll v' (L ++ [c]) := by
  have hz := h.bel.size
  refine ⟨h.bel.grown hg hz (fun k hk => by have := (h.own.lt k hk).1; omega), h.ba.grown hg (own_base h.own (by omega)), h.bb.grown hg (own_base h.own (by omega)), h.bg.grown hg (own_apart h.own h.bg (by decide)), h.gb, ?_⟩
  rw [flat_snoc]
  simpa using hown
/-- Two cubes that were handed in lie in the first two blocks. -/
structure Tw (w wr : World) (a b : Cb) : Prop where
  bel : Below w.heap.size w wr
  ba : Blk wr w.heap.size 47 a.arr
  bb : Blk wr (w.heap.size + 1) 47 b.arr
theorem Tw.start (w : World) (a b : Cb) : Tw w ((w.alloc (.cells #[.int .u64 (uv a.vh), .int .u64 (uv a.vl), .int .u64 (uv a.ch), .int .u64 (uv a.cl)] 47)).alloc (.cells #[.int .u64 (uv b.vh), .int .u64 (uv b.vl), .int .u64 (uv b.ch), .int .u64 (uv b.cl)] 47)) a b := by
  have b1 : Below w.heap.size w (w.alloc (.cells #[.int .u64 (uv a.vh), .int .u64 (uv a.vl), .int .u64 (uv a.ch), .int .u64 (uv a.cl)] 47)) := (Below.refl _ _).alloc (Nat.le_refl _) _
  have k1 : Blk (w.alloc (.cells #[.int .u64 (uv a.vh), .int .u64 (uv a.vl), .int .u64 (uv a.ch), .int .u64 (uv a.cl)] 47)) w.heap.size 47 a.arr := Blk.new w _ _
  have k2 := Blk.new (w.alloc (.cells #[.int .u64 (uv a.vh), .int .u64 (uv a.vl), .int .u64 (uv a.ch), .int .u64 (uv a.cl)] 47)) 47 b.arr
  rw [World.size_alloc] at k2
  exact ⟨b1.alloc (by simp) _, k1.on ((Below.refl _ _).alloc (Nat.le_refl _) _), k2⟩
theorem Tw.on {w wr w2 : World} {a b : Cb} (h : Tw w wr a b) (hb : Below wr.heap.size wr w2) : Tw w w2 a b :=
  ⟨h.bel.trans (hb.mono h.bel.size), h.ba.on hb, h.bb.on hb⟩
theorem Tw.loop {w wr : World} {a b : Cb} (h : Tw w wr a b) (p q : BitVec 64) : Lw w (wr.alloc (.cells #[.int .u64 (uv p), .int .u64 (uv q)] 45)) a b wr.heap.size p q (.slice none 0 0) [] := by
  have h2 := h.on ((Below.refl wr.heap.size wr).alloc (Nat.le_refl _) (.cells #[.int .u64 (uv p), .int .u64 (uv q)] 45))
  exact ⟨h2.bel, h2.ba, h2.bb, Blk.new _ _ _, h.bb.lt, World.ownsRow_nil _ _ _ _⟩
theorem Tw.eqs {w wr : World} {a b : Cb} (h : Tw w wr a b) :
    (wr.cell? ⟨w.heap.size, 0, none⟩ = some (.int .u64 (uv a.vh)) ∧ wr.cell? ⟨w.heap.size, 1, none⟩ = some (.int .u64 (uv a.vl)) ∧ wr.cell? ⟨w.heap.size, 2, none⟩ = some (.int .u64 (uv a.ch)) ∧ wr.cell? ⟨w.heap.size, 3, none⟩ = some (.int .u64 (uv a.cl))) ∧
    (wr.cell? ⟨w.heap.size + 1, 0, none⟩ = some (.int .u64 (uv b.vh)) ∧ wr.cell? ⟨w.heap.size + 1, 1, none⟩ = some (.int .u64 (uv b.vl)) ∧ wr.cell? ⟨w.heap.size + 1, 2, none⟩ = some (.int .u64 (uv b.ch)) ∧ wr.cell? ⟨w.heap.size + 1, 3, none⟩ = some (.int .u64 (uv b.cl))) :=
  ⟨⟨h.ba.cell 0, h.ba.cell 1, h.ba.cell 2, h.ba.cell 3⟩, ⟨h.bb.cell 0, h.bb.cell 1, h.bb.cell 2, h.bb.cell 3⟩⟩
theorem pair_zero {lh ll : BitVec 64} (h : bitsDown (hbit lh ll) 128 = []) : eq2 (uv lh) (uv ll) 0 0 = true := by
  have hb := bitsDown_nil h
  obtain ⟨e1, e2⟩ := head_ext (h := lh) (l := ll) (h' := 0#64) (l' := 0#64) (fun j hj => by rw [hb j hj]; simp [hbit])
  rw [e1, e2]; exact eq2_self 0 0
theorem pair_some {lh ll : BitVec 64} {k : Nat} {ks : List Nat} (h : bitsDown (hbit lh ll) 128 = k :: ks) : eq2 (uv lh) (uv ll) 0 0 = false := by
  obtain ⟨h1, h2, _, _⟩ := bitsDown_cons h
  cases c : eq2 (uv lh) (uv ll) 0 0 with
  | false => rfl
  | true =>
    rw [uv_zero, eq2_uv] at c
    simp only [Bool.and_eq_true, beq_iff_eq] at c
    rw [c.1, c.2] at h2
    simp [hbit] at h2
theorem next_bits {lh ll : BitVec 64} {k : Nat} {ks : List Nat} (h : bitsDown (hbit lh ll) 128 = k :: ks) : bitsDown (hbit (lh &&& ~~~oneH k) (ll &&& ~~~oneL k)) 128 = ks := by
  obtain ⟨h1, h2, _, h4⟩ := bitsDown_cons h
  rw [← h4]
  exact bitsDown_congr 128 fun j hj => by rw [hbit_andNot _ _ _ _ _ hj, hbit_one _ _ h1 hj]
/-- What the walk reads. -/
theorem Lw.eqs {w wr : World} {a b : Cb} {g : Nat} {lh ll : BitVec 64} {v : Value} {L : List Cb} (h : Lw w wr a b g lh ll v L) :
    (wr.cell? ⟨w.heap.size, 0, none⟩ = some (.int .u64 (uv a.vh)) ∧ wr.cell? ⟨w.heap.size, 1, none⟩ = some (.int .u64 (uv a.vl)) ∧ wr.cell? ⟨w.heap.size, 2, none⟩ = some (.int .u64 (uv a.ch)) ∧ wr.cell? ⟨w.heap.size, 3, none⟩ = some (.int .u64 (uv a.cl))) ∧
    (wr.cell? ⟨w.heap.size + 1, 0, none⟩ = some (.int .u64 (uv b.vh)) ∧ wr.cell? ⟨w.heap.size + 1, 1, none⟩ = some (.int .u64 (uv b.vl)) ∧ wr.cell? ⟨w.heap.size + 1, 2, none⟩ = some (.int .u64 (uv b.ch)) ∧ wr.cell? ⟨w.heap.size + 1, 3, none⟩ = some (.int .u64 (uv b.cl))) ∧
    (wr.cell? ⟨g, 0, none⟩ = some (.int .u64 (uv lh)) ∧ wr.cell? ⟨g, 1, none⟩ = some (.int .u64 (uv ll))) ∧
    (wr.frozen? ⟨w.heap.size, 0, none⟩ = false ∧ wr.frozen? ⟨w.heap.size, 1, none⟩ = false ∧ wr.frozen? ⟨w.heap.size, 2, none⟩ = false ∧ wr.frozen? ⟨w.heap.size, 3, none⟩ = false) ∧
    (wr.frozen? ⟨g, 0, none⟩ = false ∧ wr.frozen? ⟨g, 1, none⟩ = false) :=
  ⟨⟨h.ba.cell 0, h.ba.cell 1, h.ba.cell 2, h.ba.cell 3⟩, ⟨h.bb.cell 0, h.bb.cell 1, h.bb.cell 2, h.bb.cell 3⟩, ⟨h.bg.cell 0, h.bg.cell 1⟩, ⟨h.ba.free 0, h.ba.free 1, h.ba.free 2, h.ba.free 3⟩, ⟨h.bg.free 0, h.bg.free 1⟩⟩
theorem Blk.two {w : World} {g : Nat} {t : TypeId} {p q : BitVec 64} (h : Blk w g t (hArr p q)) : w.cell? ⟨g, 0, none⟩ = some (.int .u64 (uv p)) ∧ w.cell? ⟨g, 1, none⟩ = some (.int .u64 (uv q)) := ⟨h.cell 0, h.cell 1⟩
theorem Blk.pair {w : World} {g : Nat} {t : TypeId} {x0 x1 : Value} (h : Blk w g t #[x0, x1]) : w.cell? ⟨g, 0, none⟩ = some x0 ∧ w.cell? ⟨g, 1, none⟩ = some x1 := ⟨h.cell 0, h.cell 1⟩
theorem Blk.four {w : World} {g : Nat} {t : TypeId} {x0 x1 x2 x3 : Value} (h : Blk w g t #[x0, x1, x2, x3]) : w.cell? ⟨g, 0, none⟩ = some x0 ∧ w.cell? ⟨g, 1, none⟩ = some x1 ∧ w.cell? ⟨g, 2, none⟩ = some x2 ∧ w.cell? ⟨g, 3, none⟩ = some x3 := ⟨h.cell 0, h.cell 1, h.cell 2, h.cell 3⟩
theorem Blk.fr2 {w : World} {g : Nat} {t : TypeId} {cs : Array Value} (h : Blk w g t cs) : w.frozen? ⟨g, 0, none⟩ = false ∧ w.frozen? ⟨g, 1, none⟩ = false := ⟨h.free 0, h.free 1⟩
theorem Blk.fr4 {w : World} {g : Nat} {t : TypeId} {cs : Array Value} (h : Blk w g t cs) : w.frozen? ⟨g, 0, none⟩ = false ∧ w.frozen? ⟨g, 1, none⟩ = false ∧ w.frozen? ⟨g, 2, none⟩ = false ∧ w.frozen? ⟨g, 3, none⟩ = false := ⟨h.free 0, h.free 1, h.free 2, h.free 3⟩
theorem Blk.set4 {w : World} {g : Nat} {t : TypeId} {x0 x1 x2 x3 : Value} (h : Blk w g t #[x0, x1, x2, x3]) (y0 y1 y2 y3 : Value) : Blk ((((w.setCell ⟨g, 0, none⟩ y0).setCell ⟨g, 1, none⟩ y1).setCell ⟨g, 2, none⟩ y2).setCell ⟨g, 3, none⟩ y3) g t #[y0, y1, y2, y3] := (((h.set 0 y0).set 1 y1).set 2 y2).set 3 y3
theorem Blk.far4 {w : World} {g r : Nat} {t : TypeId} {cs : Array Value} (h : Blk w g t cs) (hp : g ≠ r) (y0 y1 y2 y3 : Value) : Blk ((((w.setCell ⟨r, 0, none⟩ y0).setCell ⟨r, 1, none⟩ y1).setCell ⟨r, 2, none⟩ y2).setCell ⟨r, 3, none⟩ y3) g t cs := (((h.far hp y0).far hp y1).far hp y2).far hp y3
/-- A list of cubes was returned, in memory of the call's own; nothing that was there has changed. -/
def Got (w : World) (L : List Cb) (e : Ending) (w' : World) : Prop := ∃ v, e = .returned v ∧ w'.ownsRow w.heap.size 47 4 v L.length (flat L) ∧ Below w.heap.size w w'
end Go.Proofs.Hd

namespace Go.Proofs
open Go.RowKit Go.Proofs.Hd
attribute [local go_sem] uv_and uv_or uv_xor uv_andNot uv_shr uv_shl uv_add uv_sub uv_nonneg
attribute [local go_sem high] run_eq2 run_eq4
theorem bdrew (w : World) : Below w.heap.size w w.drew := (Below.refl _ _).drew
theorem infoCube : (Tryz.prog.info? 47).map (fun i => (i.zero, i.size, i.bytes)) = some (some (.agg #[.int .u64 0, .int .u64 0, .int .u64 0, .int .u64 0]), 4, 32) := by kernel_rfl
set_option maxHeartbeats 2000000 in
theorem less_no1 (a b : Cb) (w : World) (h1 : sndB a.vh a.vl a.ch a.cl = false) :
    Calls Tryz.prog 68 #[.agg #[.int .u64 (uv a.vh), .int .u64 (uv a.vl), .int .u64 (uv a.ch), .int .u64 (uv a.cl)], .agg #[.int .u64 (uv b.vh), .int .u64 (uv b.vl), .int .u64 (uv b.ch), .int .u64 (uv b.cl)]] w fun e w' => e = .returned (.slice none 0 0) ∧ Below w.heap.size w w' := by
  have T0 := Tw.start w a b
  have E0 := T0.eqs
  go_enter Tryz.func68, Tryz.ntmps68
  go_wp2_with fail
  (with_reducible refine (sound_c _ _ _ _ _).mono ?_)
  rintro e w1 ⟨rfl, hb1⟩
  have T1 := T0.on hb1
  have E1 := T1.eqs
  clear hb1 E0
  go_wp2
  go_ret
  exact ⟨rfl, T1.bel⟩

set_option maxHeartbeats 2000000 in
theorem less_no2 (a b : Cb) (w : World) (h1 : sndB a.vh a.vl a.ch a.cl = true) (h2 : sndB b.vh b.vl b.ch b.cl = false) :
    Calls Tryz.prog 68 #[.agg #[.int .u64 (uv a.vh), .int .u64 (uv a.vl), .int .u64 (uv a.ch), .int .u64 (uv a.cl)], .agg #[.int .u64 (uv b.vh), .int .u64 (uv b.vl), .int .u64 (uv b.ch), .int .u64 (uv b.cl)]] w fun e w' => e = .returned (.slice none 0 0) ∧ Below w.heap.size w w' := by
  have T0 := Tw.start w a b
  have E0 := T0.eqs
  go_enter Tryz.func68, Tryz.ntmps68
  go_wp2_with fail
  (with_reducible refine (sound_c _ _ _ _ _).mono ?_)
  rintro e w1 ⟨rfl, hb1⟩
  have T1 := T0.on hb1
  have E1 := T1.eqs
  clear hb1 E0
  go_wp2_with fail
  (with_reducible refine (sound_c _ _ _ _ _).mono ?_)
  rintro e w2 ⟨rfl, hb2⟩
  have T2 := T1.on hb2
  have E2 := T2.eqs
  clear hb2 E1
  go_wp2
  go_ret
  exact ⟨rfl, T2.bel⟩

set_option maxHeartbeats 2000000 in
theorem less_all (a b : Cb) (w : World) (h1 : sndB a.vh a.vl a.ch a.cl = true) (h2 : sndB b.vh b.vl b.ch b.cl = true) (h3 : agrB a.vh a.vl a.ch a.cl b.vh b.vl b.ch b.cl = false) :
    Calls Tryz.prog 68 #[.agg #[.int .u64 (uv a.vh), .int .u64 (uv a.vl), .int .u64 (uv a.ch), .int .u64 (uv a.cl)], .agg #[.int .u64 (uv b.vh), .int .u64 (uv b.vl), .int .u64 (uv b.ch), .int .u64 (uv b.cl)]] w (Got w [a]) := by
  have T0 := Tw.start w a b
  have E0 := T0.eqs
  go_enter Tryz.func68, Tryz.ntmps68
  go_wp2_with fail
  (with_reducible refine (sound_c _ _ _ _ _).mono ?_)
  rintro e w1 ⟨rfl, hb1⟩
  have T1 := T0.on hb1
  have E1 := T1.eqs
  clear hb1 E0
  go_wp2_with fail
  (with_reducible refine (sound_c _ _ _ _ _).mono ?_)
  rintro e w2 ⟨rfl, hb2⟩
  have T2 := T1.on hb2
  have E2 := T2.eqs
  clear hb2 E1
  go_wp2_with fail
  (with_reducible refine (agree_c _ _ _ _ _ _ _ _ _).mono ?_)
  rintro e w3 ⟨rfl, hb3⟩
  have T3 := T2.on hb3
  have E3 := T3.eqs
  clear hb3 E2
  go_wp2

  go_ret
  exact ⟨_, rfl, World.ownsRow_lit w3 a.arr 1 T3.bel.size (by decide) rfl, T3.bel.alloc T3.bel.size _⟩

set_option maxHeartbeats 2000000 in
theorem less_some (a b : Cb) (w : World) (h1 : sndB a.vh a.vl a.ch a.cl = true) (h2 : sndB b.vh b.vl b.ch b.cl = true) (h3 : agrB a.vh a.vl a.ch a.cl b.vh b.vl b.ch b.cl = true) :
    Calls Tryz.prog 68 #[.agg #[.int .u64 (uv a.vh), .int .u64 (uv a.vl), .int .u64 (uv a.ch), .int .u64 (uv a.cl)], .agg #[.int .u64 (uv b.vh), .int .u64 (uv b.vl), .int .u64 (uv b.ch), .int .u64 (uv b.cl)]] w (Got w (lessP b a (openBits a b))) := by
  obtain ⟨tgt, htgt⟩ : ∃ t, t = lessP b a (openBits a b) := ⟨_, rfl⟩
  rw [← htgt]
  have HTG := Lib.hid htgt
  clear htgt
  have T0 := Tw.start w a b
  have E0 := T0.eqs
  go_enter Tryz.func68, Tryz.ntmps68
  go_wp2_with fail
  (with_reducible refine (sound_c _ _ _ _ _).mono ?_)
  rintro e w1 ⟨rfl, hb1⟩
  have T1 := T0.on hb1
  have E1 := T1.eqs
  clear hb1 E0
  go_wp2_with fail
  (with_reducible refine (sound_c _ _ _ _ _).mono ?_)
  rintro e w2 ⟨rfl, hb2⟩
  have T2 := T1.on hb2
  have E2 := T2.eqs
  clear hb2 E1
  go_wp2_with fail
  (with_reducible refine (agree_c _ _ _ _ _ _ _ _ _).mono ?_)
  rintro e w3 ⟨rfl, hb3⟩
  have T3 := T2.on hb3
  have E3 := T3.eqs
  clear hb3 E2
  go_wp2_with fail
  (with_reducible refine (less_c _ _ _ _ _).mono ?_)
  rintro e w4 ⟨rfl, hb4⟩
  have T4 := T3.on hb4
  have E4 := T4.eqs
  clear hb4 E3
  have HT := Lib.hid (T4.loop (b.ch &&& ~~~a.ch) (b.cl &&& ~~~a.cl))
  clear T0 T1 T2 T3 T4 h1 h2 h3 E4
  go_wp2_with fail
  go_loopg [5, 6] (openBits a b).length (fun n v p wr => ∃ (ks : List Nat) (ac : Cb) (L : List Cb) (g : Nat) (lh ll : BitVec 64), n = ks.length ∧ p = .pointer (some ⟨g, 0, none⟩) ∧ Hid (bitsDown (hbit lh ll) 128 = ks) ∧ Hid (L ++ lessP b ac ks = tgt) ∧ L.length + ks.length ≤ 128 ∧ Lw w wr ac b g lh ll v L)
  case atStart => exact ⟨openBits a b, a, [], w4.heap.size, _, _, rfl, rfl, Lib.hid rfl, Lib.hid HTG.out.symm, Nat.le_trans (Nat.le_of_eq (Nat.zero_add _)) (bitsDown_len _ 128), HT.out⟩
  case round =>
    clear HT
    obtain ⟨ks, ac, L, g, lh, ll, rfl, rfl, HK, HL, hlen, H⟩ := hrel
    have E := H.eqs
    cases ks with
    | nil =>
      have z := pair_zero HK.out
      go_wp2
      go_ret
      exact ⟨_, rfl, by have e := HL.out; simp only [lessP, List.append_nil] at e; rw [← e]; exact H.own.mono (by omega), H.bel⟩
    | cons k ks =>
      have z := pair_some HK.out
      go_wp2_with fail
      (with_reducible refine (highest_c lh ll k ks _ HK.out).mono ?_)
      rintro e w5 ⟨rfl, hb5⟩
      have H5 := H.on hb5
      have E5 := H5.eqs
      have L5 : g < w5.heap.size := H5.bg.lt
      have LB : w.heap.size + 1 < w5.heap.size := H5.bb.lt
      clear H E hb5 z
      go_wp2_with fail
      (with_reducible refine (less_c _ _ _ _ _).mono ?_)
      rintro e w6 ⟨rfl, hb6⟩
      have H6 := (H5.on (below1 w5 (.cells #[.int .u64 (uv (oneH k)), .int .u64 (uv (oneL k))] 45))).on hb6
      have X6 : Blk w6 w5.heap.size 45 (hArr (oneH k) (oneL k)) := (Blk.new w5 45 (hArr (oneH k) (oneL k))).on hb6
      have E6 := H6.eqs
      have x6 := X6.two
      clear H5 E5 hb6
      go_upto_region 10 with (fail)
      have n56 : w5.heap.size ≠ g := by omega
      have H7 := H6.setL (lh &&& ~~~oneH k) (ll &&& ~~~oneL k)
      have X7 : Blk ((w6.setCell ⟨g, 0, none⟩ (.int .u64 (uv (lh &&& ~~~oneH k)))).setCell ⟨g, 1, none⟩ (.int .u64 (uv (ll &&& ~~~oneL k)))) w5.heap.size 45 (hArr (oneH k) (oneL k)) := (X6.far n56 _).far n56 _
      generalize ((w6.setCell ⟨g, 0, none⟩ (.int .u64 (uv (lh &&& ~~~oneH k)))).setCell ⟨g, 1, none⟩ (.int .u64 (uv (ll &&& ~~~oneL k)))) = w7 at H7 X7 ⊢
      clear H6 E6 X6 x6
      have E7 := H7.eqs
      have x7 := X7.two
      go_wp2_with fail
      (with_reducible refine (and_c _ _ _ _ _).mono ?_)
      rintro e w8 ⟨rfl, hb8⟩
      have H8 := H7.on hb8
      have X8 := X7.on hb8
      have E8 := H8.eqs
      clear H7 X7 E7 x7 hb8
      go_upto_region 11 with (fail)
      have bl8 := below1 w8 (.cells #[.int .u64 (uv (b.vh &&& oneH k)), .int .u64 (uv (b.vl &&& oneL k))] 45)
      have H9 := H8.on bl8
      have X9 := X8.on bl8
      have Y9 : Blk (w8.alloc (.cells #[.int .u64 (uv (b.vh &&& oneH k)), .int .u64 (uv (b.vl &&& oneL k))] 45)) w8.heap.size 45 (hArr (b.vh &&& oneH k) (b.vl &&& oneL k)) := Blk.new w8 _ _
      generalize (w8.alloc (.cells #[.int .u64 (uv (b.vh &&& oneH k)), .int .u64 (uv (b.vl &&& oneL k))] 45)) = w9 at H9 X9 Y9 ⊢
      clear H8 X8 E8 bl8
      obtain ⟨i0, hi0, hz0, hz1, hz2⟩ := info_parts infoCube
      refine wp_region_held_drew (S := fun w' => Below w.heap.size w w' ∧ w'.cell? ⟨w.heap.size, 0, none⟩ = some (.int .u64 (uv ac.vh)) ∧ w'.cell? ⟨w.heap.size, 1, none⟩ = some (.int .u64 (uv ac.vl)) ∧ w'.cell? ⟨w.heap.size, 2, none⟩ = some (.int .u64 (uv ac.ch)) ∧ w'.cell? ⟨w.heap.size, 3, none⟩ = some (.int .u64 (uv ac.cl)) ∧ w'.cell? ⟨w5.heap.size, 0, none⟩ = some (.int .u64 (uv (oneH k))) ∧ w'.cell? ⟨w5.heap.size, 1, none⟩ = some (.int .u64 (uv (oneL k))) ∧ w'.cell? ⟨w8.heap.size, 0, none⟩ = some (.int .u64 (uv (b.vh &&& oneH k))) ∧ w'.cell? ⟨w8.heap.size, 1, none⟩ = some (.int .u64 (uv (b.vl &&& oneL k)))) (by kernel_rfl) ⟨H9.bel.drew, H9.ba.cell 0, H9.ba.cell 1, H9.ba.cell 2, H9.ba.cell 3, X9.cell 0, X9.cell 1, Y9.cell 0, Y9.cell 1⟩ (fun hHeld => ?_)
      have H10 := H9.on (bdrew w9)
      have X10 := X9.on (bdrew w9)
      have Y10 := Y9.on (bdrew w9)
      clear H9 X9 Y9
      refine wpAnyH_take (i := 0) (oi := ⟨some 40, _, _, _, _, _⟩) (v := ?vq0) rfl (by kernel_rfl) (by kernel_rfl) (by kernel_rfl) (fun _ _ _ h => h) (Or.inl ⟨by rfl, ?yq0⟩) hHeld ?rq0
      case yq0 => (intro w' hSw; (try dsimp only at hSw); go_simp; try (with_reducible rfl))
      simp only [Act.put, List.setIfInBounds_toArray, List.set_cons_zero, List.set_cons_succ]
      refine wpAnyH_take (i := 1) (oi := ⟨some 41, _, _, _, _, _⟩) (v := ?vq1) rfl (by kernel_rfl) (by kernel_rfl) (by kernel_rfl) (fun _ _ _ h => h) (Or.inl ⟨by rfl, ?yq1⟩) hHeld ?rq1
      case yq1 => (intro w' hSw; (try dsimp only at hSw); go_simp; try (with_reducible rfl))
      simp only [Act.put, List.setIfInBounds_toArray, List.set_cons_zero, List.set_cons_succ]
      refine wpAnyH_take (i := 2) (oi := ⟨some 42, _, _, _, _, _⟩) (v := ?vq2) rfl (by kernel_rfl) (by kernel_rfl) (by kernel_rfl) (fun _ _ _ h => h) (Or.inl ⟨by rfl, ?yq2⟩) hHeld ?rq2
      case yq2 => (intro w' hSw; (try dsimp only at hSw); go_simp; try (with_reducible rfl))
      simp only [Act.put, List.setIfInBounds_toArray, List.set_cons_zero, List.set_cons_succ]
      refine wpAnyH_take (i := 3) (oi := ⟨some 43, _, _, _, _, _⟩) (v := ?vq3) rfl (by kernel_rfl) (by kernel_rfl) (by kernel_rfl) (fun _ _ _ h => h) (Or.inl ⟨by rfl, ?yq3⟩) hHeld ?rq3
      case yq3 => (intro w' hSw; (try dsimp only at hSw); go_simp; try (with_reducible rfl))
      simp only [Act.put, List.setIfInBounds_toArray, List.set_cons_zero, List.set_cons_succ]
      refine wpAnyH_take (i := 4) (oi := ⟨some 44, _, _, _, _, _⟩) (v := ?vq4) rfl (by kernel_rfl) (by kernel_rfl) (by kernel_rfl) (fun _ _ _ h => h) (Or.inl ⟨by rfl, ?yq4⟩) hHeld ?rq4
      case yq4 => (intro w' hSw; (try dsimp only at hSw); go_simp; try (with_reducible rfl))
      simp only [Act.put, List.setIfInBounds_toArray, List.set_cons_zero, List.set_cons_succ]
      refine wpAnyH_ready (rs := [5]) (by kernel_rfl) (by simp) ?_
      refine AllReadyH.cons (o := ⟨some 45, _, _, _, _, _⟩) rfl (fun K hK => ?_) AllReadyH.nil
      go_simp
      (with_reducible refine (xor_c _ _ _ _ _).mono ?_)
      rintro e wq5 ⟨rfl, hb⟩
      have H11 := H10.on hb
      have X11 := X10.on hb
      have Y11 := Y10.on hb
      (try dsimp only)
      refine hK.out _ _ (hold8 hb hHeld) (fun hNext => ?_)
      clear hK K hHeld hb
      have hHeld := hNext
      clear hNext
      try simp only [Act.put, List.setIfInBounds_toArray, List.set_cons_zero, List.set_cons_succ]
      refine wpAnyH_ready (rs := [6]) (by kernel_rfl) (by simp) ?_
      refine AllReadyH.cons (o := ⟨some 46, _, _, _, _, _⟩) rfl (fun K hK => ?_) AllReadyH.nil
      go_simp
      (with_reducible refine (withBit_c _ _ _ _ _ _ _ _ _).mono ?_)
      rintro e wq6 ⟨rfl, hb⟩
      have H12 := H11.on hb
      have X12 := X11.on hb
      have Y12 := Y11.on hb
      (try dsimp only)
      refine hK.out _ _ (hold8 hb hHeld) (fun hNext => ?_)
      clear hK K hHeld hb
      have hHeld := hNext
      clear hNext
      try simp only [Act.put, List.setIfInBounds_toArray, List.set_cons_zero, List.set_cons_succ]
      refine wpAnyH_ready (rs := [7]) (by kernel_rfl) (by simp) ?_
      refine AllReadyH.cons (o := ⟨some 47, _, _, _, _, _⟩) rfl (fun K hK => ?_) AllReadyH.nil
      go_simp
      have hb := below1 wq6 (.cells (wOther ac b k).arr 47)
      have H13 := H12.on hb
      have X13 := X12.on hb
      have Y13 := Y12.on hb
      have N13 : Blk (wq6.alloc (.cells (wOther ac b k).arr 47)) wq6.heap.size 47 (wOther ac b k).arr := Blk.new wq6 _ _
      refine hK.out _ _ (hold8 hb hHeld) (fun hNext => ?_)
      clear hb
      clear hK K hHeld
      have hHeld := hNext
      clear hNext
      try simp only [Act.put, List.setIfInBounds_toArray, List.set_cons_zero, List.set_cons_succ]
      refine wpAnyH_ready (rs := [8]) (by kernel_rfl) (by simp) ?_
      refine AllReadyH.cons (o := ⟨some 48, _, _, _, _, _⟩) rfl (fun K hK => ?_) AllReadyH.nil
      refine step_append_lies _ rfl (.tmp 40) (.tmp 47) 24 rfl (w.heap.size + 2) 47 i0 _ 4 32 Tryz.underlying24 hi0 hz0 hz1 hz2 rfl (by decide) _ L.length (flat L) rfl H13.own ⟨wq6.heap.size, 0, none⟩ 1 1 (wOther ac b k).cells rfl rfl (World.news_of_block N13) (by intro u hu; simp only [Cb.cells, List.mem_cons, List.not_mem_nil, or_false] at hu; rcases hu with rfl | rfl | rfl | rfl <;> rfl) (by omega) (by simp at hlen; unfold maxLen; omega) (by simp at hlen; omega) (Nat.le_trans H13.bb.lt (Nat.le_refl _)) _ rfl ?_
      intro g2 cap w14 hown hgrow hat hlt
      have H14 := H13.append hgrow hown
      have X14 := X13.grown hgrow (own_apart H13.own X13 (by decide))
      have Y14 := Y13.grown hgrow (own_apart H13.own Y13 (by decide))
      refine hK.out _ _ ⟨H14.bel, H14.ba.cell 0, H14.ba.cell 1, H14.ba.cell 2, H14.ba.cell 3, X14.cell 0, X14.cell 1, Y14.cell 0, Y14.cell 1⟩ (fun hNext => ?_)
      clear hK K hHeld
      have hHeld := hNext
      clear hNext
      try simp only [Act.put, List.setIfInBounds_toArray, List.set_cons_zero, List.set_cons_succ]
      refine wpAnyH_take (i := 9) (oi := ⟨some 5, _, _, _, _, _⟩) (v := ?vq9) rfl (by kernel_rfl) (by kernel_rfl) (by kernel_rfl) (fun _ _ _ h => h) (Or.inl ⟨by rfl, ?yq9⟩) hHeld ?rq9
      case yq9 => (intro w' hSw; (try dsimp only at hSw); go_simp; try (with_reducible rfl))
      simp only [Act.put, List.setIfInBounds_toArray, List.set_cons_zero, List.set_cons_succ]
      refine wpAnyH_done (by kernel_rfl) ?_ _
      have E14 := H14.eqs
      have x14 := X14.two
      have y14 := Y14.two
      clear hHeld hi0 hz0 hz1 hz2 H10 X10 Y10 H11 X11 Y11 H12 X12 Y12 H13 X13 Y13 hown hgrow hat hlt
      go_wp2_with fail
      (with_reducible refine (withBit_c _ _ _ _ _ _ _ _ _).mono ?_)
      rintro e w15 ⟨rfl, hb15⟩
      have H15 := H14.on hb15
      have E15 := H15.eqs
      clear H14 X14 Y14 E14 x14 y14 hb15
      go_upto_region 13 with (fail)
      have H16 := H15.setA (wSame ac b k)
      unfold wSame at H16
      dsimp only at H16
      generalize ((((w15.setCell ⟨w.heap.size, 0, none⟩ (.int .u64 (uv (ac.vh ||| (b.vh &&& oneH k))))).setCell ⟨w.heap.size, 1, none⟩ (.int .u64 (uv (ac.vl ||| (b.vl &&& oneL k))))).setCell ⟨w.heap.size, 2, none⟩ (.int .u64 (uv (ac.ch ||| oneH k)))).setCell ⟨w.heap.size, 3, none⟩ (.int .u64 (uv (ac.cl ||| oneL k)))) = w16 at H16 ⊢
      have E16 := H16.eqs
      clear H15 E15
      go_wp2
      go_roundg ks.length
      case measure => simp
      case rel =>
        refine ⟨ks, wSame ac b k, L ++ [wOther ac b k], w16.heap.size, _, _, rfl, rfl, Lib.hid (next_bits HK.out), Lib.hid ?_, ?_, H16.newL _ _ H16.bb.lt⟩
        · have e := HL.out
          rw [lessP] at e
          simpa using e
        · simp at hlen ⊢; omega
end Go.Proofs

namespace Go.Proofs
open Go.RowKit Go.Proofs.Hd
attribute [local go_sem] uv_nonneg

end Go.Proofs

namespace Go.Proofs
open Go.RowKit Go.Proofs.Hd
attribute [local go_sem] uv_nonneg eq4_self
attribute [local go_sem high] run_eq2 run_eq4

theorem k_less (w : World) : Calls Tryz.prog 68 #[.agg #[.int .u64 0, .int .u64 240, .int .u64 0, .int .u64 240], .agg #[.int .u64 0, .int .u64 1, .int .u64 0, .int .u64 3]] w fun e w' => ∃ g cap, e = .returned (.slice (some ⟨g, 0, none⟩) 2 cap) ∧ Below w.heap.size w w' := by
  have h := less_some ⟨0#64, 240#64, 0#64, 240#64⟩ ⟨0#64, 1#64, 0#64, 3#64⟩ w (by decide +kernel) (by decide +kernel) (by decide +kernel)
  refine Calls.mono h fun e w' hg => ?_
  obtain ⟨v, rfl, ho, hb⟩ := hg
  have e1 : (lessP ⟨0#64, 1#64, 0#64, 3#64⟩ ⟨0#64, 240#64, 0#64, 240#64⟩ (openBits ⟨0#64, 240#64, 0#64, 240#64⟩ ⟨0#64, 1#64, 0#64, 3#64⟩)).length = 2 := by
    rw [lessP_len]; decide +kernel
  rw [e1] at ho
  obtain ⟨g, cap, rfl, _, _⟩ := ho.form (by omega)
  exact ⟨g, cap, rfl, hb⟩
theorem k_has (w : World) : Calls Tryz.prog 32 #[.agg #[.int .u64 0, .int .u64 240, .int .u64 0, .int .u64 240], .agg #[.int .u64 0, .int .u64 247]] w fun e w' => e = .returned (.bool true) ∧ Below w.heap.size w w' := by
  have h := has_c 0#64 240#64 0#64 240#64 0#64 247#64 w
  rw [show hasB 0#64 240#64 0#64 240#64 0#64 247#64 = true by decide +kernel] at h
  exact h
theorem k_sound (w : World) : Calls Tryz.prog 24 #[.agg #[.int .u64 0, .int .u64 240, .int .u64 0, .int .u64 240]] w fun e w' => e = .returned (.bool true) ∧ Below w.heap.size w w' := by
  have h := sound_c 0#64 240#64 0#64 240#64 w
  rw [show sndB 0#64 240#64 0#64 240#64 = true by decide +kernel] at h
  exact h
theorem k_within (w : World) : Calls Tryz.prog 65 #[.agg #[.int .u64 0, .int .u64 51, .int .u64 0, .int .u64 255], .agg #[.int .u64 0, .int .u64 0, .int .u64 0, .int .u64 0]] w fun e w' => e = .returned (.bool true) ∧ Below w.heap.size w w' := by
  have h := within_yes 0#64 51#64 0#64 255#64 0#64 0#64 0#64 0#64 w (by decide +kernel) (by decide +kernel) (by rw [eq2_uv]; decide +kernel)
  rw [show agrB 0#64 51#64 0#64 255#64 0#64 0#64 0#64 0#64 = true by decide +kernel] at h
  exact h

end Go.Proofs

namespace Go.Proofs
open Go.RowKit Go.Proofs.Hd
attribute [local go_sem] uv_nonneg eq4_self eq2_self
attribute [local go_sem high] run_eq2 run_eq4
theorem csound (x : Bool) (c : Cb) (w : World) (h : c.snd = x) : Calls Tryz.prog 24 #[.agg #[.int .u64 (uv c.vh), .int .u64 (uv c.vl), .int .u64 (uv c.ch), .int .u64 (uv c.cl)]] w fun e w' => e = .returned (.bool x) ∧ Below w.heap.size w w' := by
  subst h; exact sound_c _ _ _ _ _
theorem chas (x : Bool) (c : Cb) (hh hl : BitVec 64) (w : World) (h : c.has hh hl = x) : Calls Tryz.prog 32 #[.agg #[.int .u64 (uv c.vh), .int .u64 (uv c.vl), .int .u64 (uv c.ch), .int .u64 (uv c.cl)], .agg #[.int .u64 (uv hh), .int .u64 (uv hl)]] w fun e w' => e = .returned (.bool x) ∧ Below w.heap.size w w' := by
  subst h; exact has_c _ _ _ _ _ _ _
theorem cwithin (x : Bool) (c a : Cb) (w : World) (h : c.wit a = x) : Calls Tryz.prog 65 #[.agg #[.int .u64 (uv c.vh), .int .u64 (uv c.vl), .int .u64 (uv c.ch), .int .u64 (uv c.cl)], .agg #[.int .u64 (uv a.vh), .int .u64 (uv a.vl), .int .u64 (uv a.ch), .int .u64 (uv a.cl)]] w fun e w' => e = .returned (.bool x) ∧ Below w.heap.size w w' := by
  subst h; exact within_c _ _ _ _ _ _ _ _ _
theorem cless (a b : Cb) (w : World) (ha : a.snd = true) (hb : b.snd = true) : Calls Tryz.prog 68 #[.agg #[.int .u64 (uv a.vh), .int .u64 (uv a.vl), .int .u64 (uv a.ch), .int .u64 (uv a.cl)], .agg #[.int .u64 (uv b.vh), .int .u64 (uv b.vl), .int .u64 (uv b.ch), .int .u64 (uv b.cl)]] w (Got w (lessC a b)) := by
  unfold lessC
  cases h : a.agr b with
  | true => rw [if_pos rfl]; exact less_some a b w ha hb h
  | false => rw [if_neg (by simp)]; exact less_all a b w ha hb h
theorem cless_q (a b : Cb) (Q : List Cb) (w : World) (ha : a.snd = true) (hb : b.snd = true) (hq : lessC a b = Q) : Calls Tryz.prog 68 #[.agg #[.int .u64 (uv a.vh), .int .u64 (uv a.vl), .int .u64 (uv a.ch), .int .u64 (uv a.cl)], .agg #[.int .u64 (uv b.vh), .int .u64 (uv b.vl), .int .u64 (uv b.ch), .int .u64 (uv b.cl)]] w (Got w Q) := by
  subst hq; exact cless a b w ha hb
theorem chas_j (x : Bool) (a b : Cb) (hh hl : BitVec 64) (w : World) (h : (a.join b).has hh hl = x) : Calls Tryz.prog 32 #[.agg #[.int .u64 (uv (a.vh ||| b.vh)), .int .u64 (uv (a.vl ||| b.vl)), .int .u64 (uv (a.ch ||| b.ch)), .int .u64 (uv (a.cl ||| b.cl))], .agg #[.int .u64 (uv hh), .int .u64 (uv hl)]] w fun e w' => e = .returned (.bool x) ∧ Below w.heap.size w w' :=
  chas x (a.join b) hh hl w h
theorem flat_get (L : List Cb) (k : Nat) (hk : k < L.length) (j : Nat) (hj : j < 4) : (flat L)[k * 4 + j]? = (L[k]).cells[j]? := by
  induction L generalizing k with
  | nil => simp at hk
  | cons c L ih =>
    have e : flat (c :: L) = c.cells ++ flat L := by simp [flat]
    rw [e]
    cases k with
    | zero => rw [Nat.zero_mul, Nat.zero_add, List.getElem?_append_left (by simp [Cb.cells]; omega)]; rfl
    | succ k =>
      rw [List.getElem?_append_right (by simp [Cb.cells]; omega), show (k + 1) * 4 + j - c.cells.length = k * 4 + j by simp [Cb.cells]; omega]
      exact ih k (by simpa using hk)
theorem own_get {w : World} {base g cap : Nat} {t : TypeId} {L : List Cb} (h : w.ownsRow base t 4 (.slice (some ⟨g, 0, none⟩) L.length cap) L.length (flat L)) (k : Nat) (hk : k < L.length) (j : Nat) (hj : j < 4) : w.cell? ⟨g, k * 4 + j, none⟩ = (L[k]).cells[j]? :=
  (h.cellAt (k * 4 + j) (by omega)).trans (flat_get L k hk j hj)
theorem own_at {w : World} {base g cap : Nat} {t : TypeId} {L : List Cb} {c : Cb} (h : w.ownsRow base t 4 (.slice (some ⟨g, 0, none⟩) L.length cap) L.length (flat L)) (k : Nat) (hc : L[k]? = some c) (j : Nat) (hj : j < 4) : w.cell? ⟨g, k * 4 + j, none⟩ = c.cells[j]? := by
  obtain ⟨hk, rfl⟩ := List.getElem?_eq_some_iff.1 hc
  exact own_get h k hk j hj
theorem take_count (h l : BitVec 64) (L : List Cb) (k : Nat) (c : Cb) (hc : L[k]? = some c) : cntC h l (L.take (k + 1)) = cntC h l (L.take k) + (c.has h l).toNat := by
  obtain ⟨hk, rfl⟩ := List.getElem?_eq_some_iff.1 hc
  rw [List.take_succ_eq_append_getElem hk, cntC_snoc]
theorem cntC_le (h l : BitVec 64) (L : List Cb) : cntC h l L ≤ L.length := List.length_filter_le _ _
theorem own_form {w : World} {base : Nat} {t : TypeId} {size n : Nat} {v : Value} {xs : List Value} (h : w.ownsRow base t size v n xs) : ∃ A cap, v = .slice A n cap ∧ (0 < n → ∃ g, A = some ⟨g, 0, none⟩) := by
  rcases h.2 with ⟨rfl, rfl⟩ | ⟨g, cap, cur, rfl, _⟩
  · exact ⟨none, 0, rfl, fun h => by omega⟩
  · exact ⟨_, cap, rfl, fun _ => ⟨g, rfl⟩⟩
end Go.Proofs
