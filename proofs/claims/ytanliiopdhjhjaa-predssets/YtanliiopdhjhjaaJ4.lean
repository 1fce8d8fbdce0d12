/-
  Contracts of rule.Sound and of the reference's Sound. No conditions.
  Contract of the reference's Sound of layer 5. No conditions.
  Tables in memory; contracts of table.Sound and of the reference's Sound of layer 6. Conditions as each theorem lists them.
  How a slice of slices of rules reads; a slice of rules is no longer than its capacity. No conditions.
  Ports and topologies in memory; contracts of package topo: within, port, sized. Conditions as each theorem lists them.
  Contracts of package topo: port. Conditions as each theorem lists them.
  Contracts of package topo: port, answered, formed, sized. Conditions as each theorem lists them.
  Contracts of package topo: sized, Sound, Other, start. Conditions as each theorem lists them.
  Heaps as functions of places: mathematics of container/heap's up and down, no program. Conditions as each theorem lists them.
  Edges as lists; contracts of topo.Edges and of the reference's Edges of layer 7. Conditions as each theorem lists them.
  How a topology and a spot handed in by value read. No conditions.
  Policies in memory; contracts of the reference's tenant and Allowed of layer 8. Conditions as each theorem lists them.
  Contract of the reference's Edge of layer 7. Conditions as the theorem lists them.
  The contract of the reference's Edges of layer 7. Conditions as the theorem lists them.
-/
import Derived.Test.YtanliiopdhjhjaaJ3
import Derived.BigQuiet
import Derived.Deep.LoopGhost
import Derived.Lib.Hide
import Derived.Test.YtanliiopdhjhjaaProg
import Derived.Shelf.RegionOpenPlain
import Derived.Deep.Slices
import Derived.Deep.Strs
namespace Go.Proofs
open Go.RowKit Go.Proofs.Hd Go.Sort
attribute [local go_sem] uv_nonneg
theorem csnd_c (x : Bool) (c : Cb) (w : World) (h : c.snd = x) : Calls Try.prog 47 #[.agg #[.int .u64 (uv c.vh), .int .u64 (uv c.vl), .int .u64 (uv c.ch), .int .u64 (uv c.cl)]] w fun e w' => e = .returned (.bool x) ∧ Below w.heap.size w w' := by
  subst h; exact sound_c _ _ _ _ _
set_option maxRecDepth 100000 in
set_option maxHeartbeats 4000000 in
theorem sound_r (x : Bool) (r : Rl) (table : Int) (v : Value) (K : List Int) (w : World) (hx : sndR r table K = x) (hv : Po w v K) : Calls Try.prog 58 #[.agg #[.int .i64 r.pri, .int .u64 (uv r.m.vh), .int .u64 (uv r.m.vl), .int .u64 (uv r.m.ch), .int .u64 (uv r.m.cl), .int .i64 r.kind, .int .i64 r.port, .int .i64 r.tab, .int .u64 (uv r.s.vh), .int .u64 (uv r.s.vl), .int .u64 (uv r.s.ch), .int .u64 (uv r.s.cl)], .int .i64 table, v] w fun e w' => e = .returned (.bool x) ∧ Below w.heap.size w w' := by
  have B0 := below1 w (.cells #[.int .i64 r.pri, .int .u64 (uv r.m.vh), .int .u64 (uv r.m.vl), .int .u64 (uv r.m.ch), .int .u64 (uv r.m.cl), .int .i64 r.kind, .int .i64 r.port, .int .i64 r.tab, .int .u64 (uv r.s.vh), .int .u64 (uv r.s.vl), .int .u64 (uv r.s.ch), .int .u64 (uv r.s.cl)] 51)
  have N0 : Blk (w.alloc (.cells #[.int .i64 r.pri, .int .u64 (uv r.m.vh), .int .u64 (uv r.m.vl), .int .u64 (uv r.m.ch), .int .u64 (uv r.m.cl), .int .i64 r.kind, .int .i64 r.port, .int .i64 r.tab, .int .u64 (uv r.s.vh), .int .u64 (uv r.s.vl), .int .u64 (uv r.s.ch), .int .u64 (uv r.s.cl)] 51)) w.heap.size 51 #[.int .i64 r.pri, .int .u64 (uv r.m.vh), .int .u64 (uv r.m.vl), .int .u64 (uv r.m.ch), .int .u64 (uv r.m.cl), .int .i64 r.kind, .int .i64 r.port, .int .i64 r.tab, .int .u64 (uv r.s.vh), .int .u64 (uv r.s.vl), .int .u64 (uv r.s.ch), .int .u64 (uv r.s.cl)] := Blk.new w _ _
  have HV := Lib.hid hv
  clear hv
  unfold sndR at hx
  by_cases h1 : 0 ≤ r.pri
  · by_cases h2 : r.pri ≤ 1048576
    · cases h3 : r.m.snd with
      | false =>
        simp [h3] at hx
        subst hx
        go_enter Try.func58, Try.ntmps58
        go_wp2_with fail
        (with_reducible refine (csnd_c _ r.m _ h3).mono ?_)
        rintro e w1 ⟨rfl, hb⟩
        have B := B0.trans (hb.mono B0.size)
        clear B0 hb N0
        go_wp2
        go_ret
        exact ⟨by simp, B⟩
      | true =>
        cases h4 : r.s.snd with
        | false =>
          simp [h4] at hx
          subst hx
          go_enter Try.func58, Try.ntmps58
          go_wp2_with fail
          (with_reducible refine (csnd_c _ r.m _ h3).mono ?_)
          rintro e w1 ⟨rfl, hb⟩
          have B := B0.trans (hb.mono B0.size)
          have N1 := N0.on hb
          have c8 := N1.cell 8
          have c9 := N1.cell 9
          have c10 := N1.cell 10
          have c11 := N1.cell 11
          simp at c8 c9 c10 c11
          clear B0 hb N0
          go_wp2_with fail
          (with_reducible refine (csnd_c _ r.s _ h4).mono ?_)
          rintro e w2 ⟨rfl, hb2⟩
          have B2 := B.trans (hb2.mono B.size)
          clear B hb2 N1 c8 c9 c10 c11
          go_wp2
          go_ret
          exact ⟨by simp, B2⟩
        | true =>
          have h5 : leads r.kind r.port r.tab table K = x := by simpa [h1, h2, h3, h4] using hx
          have H5 := Lib.hid h5
          clear hx h5
          go_enter Try.func58, Try.ntmps58
          go_wp2_with fail
          (with_reducible refine (csnd_c _ r.m _ h3).mono ?_)
          rintro e w1 ⟨rfl, hb⟩
          have B := B0.trans (hb.mono B0.size)
          have N1 := N0.on hb
          have c8 := N1.cell 8
          have c9 := N1.cell 9
          have c10 := N1.cell 10
          have c11 := N1.cell 11
          simp at c8 c9 c10 c11
          clear B0 hb N0
          go_wp2_with fail
          (with_reducible refine (csnd_c _ r.s _ h4).mono ?_)
          rintro e w2 ⟨rfl, hb2⟩
          have B2 := B.trans (hb2.mono B.size)
          have N2 := N1.on hb2
          clear B hb2 N1 c8 c9 c10 c11
          have c0 := N2.cell 0
          have c1 := N2.cell 1
          have c2 := N2.cell 2
          have c3 := N2.cell 3
          have c4 := N2.cell 4
          have c5 := N2.cell 5
          have c6 := N2.cell 6
          have c7 := N2.cell 7
          have c8 := N2.cell 8
          have c9 := N2.cell 9
          have c10 := N2.cell 10
          have c11 := N2.cell 11
          simp at c0 c1 c2 c3 c4 c5 c6 c7 c8 c9 c10 c11
          go_wp2_with fail
          (with_reducible refine (leads_c x r table v K _ H5.out (HV.out.on B2)).mono ?_)
          rintro e w3 ⟨rfl, hb3⟩
          have B3 := B2.trans (hb3.mono B2.size)
          clear B2 hb3 N2 c0 c1 c2 c3 c4 c5 c6 c7 c8 c9 c10 c11
          go_wp2
          go_ret
          exact ⟨rfl, B3⟩
    · simp [h2] at hx
      subst hx
      go_enter Try.func58, Try.ntmps58
      go_wp2
      go_ret
      exact ⟨by simp, B0⟩
  · simp [h1] at hx
    subst hx
    go_enter Try.func58, Try.ntmps58
    go_wp2
    go_ret
    exact ⟨by simp, B0⟩
end Go.Proofs

namespace Go.Proofs
open Go.RowKit Go.Proofs.Hd Go.Sort
attribute [local go_sem] uv_nonneg
theorem text_any (x : Bool) (c : Cb) (w : World) (hs : c.snd = x) : Calls Try.prog 17 #[.agg #[.int .u64 (uv c.vh), .int .u64 (uv c.vl), .int .u64 (uv c.ch), .int .u64 (uv c.cl)]] w fun e w' => ∃ s, e = .returned (.tuple #[.string s, .bool x]) ∧ Below w.heap.size w w' := by
  cases x with
  | true => exact (text_yes c w hs).mono fun e w' h => ⟨_, h.1, h.2⟩
  | false => exact (text_no c w hs).mono fun e w' h => ⟨_, h.1, h.2⟩
set_option maxRecDepth 100000 in
set_option maxHeartbeats 8000000 in
theorem rsound_r (x : Bool) (r : Rl) (table : Int) (v : Value) (K : List Int) (w : World) (hx : sndR r table K = x) (hv : Po w v K) : Calls Try.prog 65 #[.agg #[.int .i64 r.pri, .int .u64 (uv r.m.vh), .int .u64 (uv r.m.vl), .int .u64 (uv r.m.ch), .int .u64 (uv r.m.cl), .int .i64 r.kind, .int .i64 r.port, .int .i64 r.tab, .int .u64 (uv r.s.vh), .int .u64 (uv r.s.vl), .int .u64 (uv r.s.ch), .int .u64 (uv r.s.cl)], .int .i64 table, v] w fun e w' => e = .returned (.bool x) ∧ Below w.heap.size w w' := by
  have B0 := below1 w (.cells #[.int .i64 r.pri, .int .u64 (uv r.m.vh), .int .u64 (uv r.m.vl), .int .u64 (uv r.m.ch), .int .u64 (uv r.m.cl), .int .i64 r.kind, .int .i64 r.port, .int .i64 r.tab, .int .u64 (uv r.s.vh), .int .u64 (uv r.s.vl), .int .u64 (uv r.s.ch), .int .u64 (uv r.s.cl)] 51)
  have N0 : Blk (w.alloc (.cells #[.int .i64 r.pri, .int .u64 (uv r.m.vh), .int .u64 (uv r.m.vl), .int .u64 (uv r.m.ch), .int .u64 (uv r.m.cl), .int .i64 r.kind, .int .i64 r.port, .int .i64 r.tab, .int .u64 (uv r.s.vh), .int .u64 (uv r.s.vl), .int .u64 (uv r.s.ch), .int .u64 (uv r.s.cl)] 51)) w.heap.size 51 #[.int .i64 r.pri, .int .u64 (uv r.m.vh), .int .u64 (uv r.m.vl), .int .u64 (uv r.m.ch), .int .u64 (uv r.m.cl), .int .i64 r.kind, .int .i64 r.port, .int .i64 r.tab, .int .u64 (uv r.s.vh), .int .u64 (uv r.s.vl), .int .u64 (uv r.s.ch), .int .u64 (uv r.s.cl)] := Blk.new w _ _
  have HV := Lib.hid hv
  have HX := Lib.hid hx
  clear hv hx
  obtain ⟨ym, hm⟩ : ∃ y, r.m.snd = y := ⟨_, rfl⟩
  obtain ⟨ys, hs⟩ : ∃ y, r.s.snd = y := ⟨_, rfl⟩
  go_enter Try.func65, Try.ntmps65
  go_wp2_with fail
  (with_reducible refine (text_any _ r.m _ hm).mono ?_)
  rintro e w1 ⟨s1, rfl, hb⟩
  have B1 := B0.trans (hb.mono B0.size)
  have N1 := N0.on hb
  have c8 := N1.cell 8
  have c9 := N1.cell 9
  have c10 := N1.cell 10
  have c11 := N1.cell 11
  simp at c8 c9 c10 c11
  clear B0 hb N0
  go_wp2_with fail
  (with_reducible refine (text_any _ r.s _ hs).mono ?_)
  rintro e w2 ⟨s2, rfl, hb2⟩
  have B2 := B1.trans (hb2.mono B1.size)
  have N2 := N1.on hb2
  have V2 := Lib.hid (HV.out.on B2)
  clear B1 hb2 N1 c8 c9 c10 c11 HV
  have c0 := N2.cell 0
  have c5 := N2.cell 5
  have c6 := N2.cell 6
  have c7 := N2.cell 7
  simp at c0 c5 c6 c7
  clear N2
  cases ym with
  | false =>
    have e0 : x = false := by rw [← HX.out]; simp [sndR, hm]
    subst e0
    clear HX
    go_wp2
    go_ret
    exact ⟨rfl, B2⟩
  | true =>
  cases ys with
  | false =>
    have e0 : x = false := by rw [← HX.out]; simp [sndR, hs]
    subst e0
    clear HX
    go_wp2
    go_ret
    exact ⟨rfl, B2⟩
  | true =>
  by_cases p1 : r.pri < 0
  · have e0 : x = false := by
      rw [← HX.out]
      have : ¬ 0 ≤ r.pri := by omega
      simp [sndR, this]
    subst e0
    clear HX
    go_wp2
    go_ret
    exact ⟨rfl, B2⟩
  by_cases p2 : 1048576 < r.pri
  · have e0 : x = false := by
      rw [← HX.out]
      have : ¬ r.pri ≤ 1048576 := by omega
      simp [sndR, this]
    subst e0
    clear HX
    go_wp2
    go_ret
    exact ⟨rfl, B2⟩
  have hL : leads r.kind r.port r.tab table K = x := by
    rw [← HX.out]
    have q1 : 0 ≤ r.pri := by omega
    have q2 : r.pri ≤ 1048576 := by omega
    simp [sndR, hm, hs, q1, q2]
  clear HX
  generalize r.port = port at c6 hL
  generalize r.tab = tab at c7 hL
  generalize r.kind = kind at c5 hL
  have HL := Lib.hid hL
  clear hL
  go_wp2_with fail
  go_quiet (fail)
  have B3 : Below w.heap.size w (w2.drewN nq) := ⟨B2.os, B2.tape, B2.output, B2.size, B2.block⟩
  have V3 := Lib.hid (V2.out.on (w' := w2.drewN nq) ⟨rfl, rfl, rfl, Nat.le_refl _, fun _ _ => rfl⟩)
  have d5 : (w2.drewN nq).cell? ⟨w.heap.size, 5, none⟩ = some (.int .i64 kind) := c5
  clear B2 V2 c0 c5 c6 c7
  generalize w2.drewN nq = w3 at B3 V3 d5 ⊢
  by_cases k1 : kind = 1
  · subst k1
    have HL2 : Hid ((decide (port = 0) && decide (tab = 0)) = x) := Lib.hid (by rw [← HL.out]; simp [leads])
    clear HL V3
    by_cases p0 : port = 0
    · subst p0
      by_cases t0 : tab = 0
      · subst t0
        have e0 : x = true := by rw [← HL2.out]; simp
        subst e0
        clear HL2
        go_wp2
        go_ret
        exact ⟨by simp, B3⟩
      · have e0 : x = false := by rw [← HL2.out]; simp [t0]
        subst e0
        clear HL2
        go_wp2
        go_ret
        exact ⟨by simp [t0], B3⟩
    · have e0 : x = false := by rw [← HL2.out]; simp [p0]
      subst e0
      clear HL2
      go_wp2
      go_ret
      exact ⟨by simp, B3⟩
  by_cases k2 : kind = 2
  · subst k2
    have HL2 : Hid ((isP K port 1 && decide (tab = 0)) = x) := Lib.hid (by rw [← HL.out]; simp [leads])
    clear HL
    by_cases t0 : tab = 0
    · subst t0
      have HP : Hid (isP K port 1 = x) := Lib.hid (by rw [← HL2.out]; simp)
      clear HL2
      have hv := V3.out
      obtain ⟨A, cap, hA⟩ : ∃ A cap, v = .slice A K.length cap := by
        rcases hv with ⟨rfl, A, cap, rfl⟩ | ⟨b, off, cap, rfl, _⟩ <;> exact ⟨_, _, rfl⟩
      clear V3
      by_cases h0 : 0 ≤ port
      · by_cases h1 : port < (K.length : Int)
        · obtain ⟨k, rfl⟩ : ∃ k : Nat, port = (k : Int) := ⟨port.toNat, by omega⟩
          have hk : k < K.length := by omega
          obtain ⟨y, hy⟩ : ∃ y, K[k]? = some y := ⟨_, List.getElem?_eq_getElem hk⟩
          rcases hv with ⟨rfl, _⟩ | ⟨b, off, cap, rfl, hl, hb, hc⟩
          · simp at hk
          have c := hc k y hy
          have HP2 := Lib.hid ((isP_at hy 1).symm.trans HP.out)
          have hl2 : (K.length : Int) ≤ 9223372036854775807 := by unfold maxLen at hl; omega
          clear hc hy hA HP
          go_wp2
          go_ret
          exact ⟨by rw [← HP2.out]; rfl, B3⟩
        · have e0 : x = false := by rw [← HP.out]; exact isP_far h1 _
          subst e0 hA
          clear hv HP
          go_wp2
          go_ret
          exact ⟨by simp, B3⟩
      · have e0 : x = false := by rw [← HP.out]; exact isP_neg h0 _
        subst e0 hA
        clear hv HP
        go_wp2
        go_ret
        exact ⟨by simp, B3⟩
    · have e0 : x = false := by rw [← HL2.out]; simp [t0]
      subst e0
      clear HL2 V3
      go_wp2
      go_ret
      exact ⟨by simp, B3⟩
  by_cases k3 : kind = 3
  · subst k3
    have HL2 : Hid ((isP K port 2 && decide (tab = 0)) = x) := Lib.hid (by rw [← HL.out]; simp [leads])
    clear HL
    by_cases t0 : tab = 0
    · subst t0
      have HP : Hid (isP K port 2 = x) := Lib.hid (by rw [← HL2.out]; simp)
      clear HL2
      have hv := V3.out
      obtain ⟨A, cap, hA⟩ : ∃ A cap, v = .slice A K.length cap := by
        rcases hv with ⟨rfl, A, cap, rfl⟩ | ⟨b, off, cap, rfl, _⟩ <;> exact ⟨_, _, rfl⟩
      clear V3
      by_cases h0 : 0 ≤ port
      · by_cases h1 : port < (K.length : Int)
        · obtain ⟨k, rfl⟩ : ∃ k : Nat, port = (k : Int) := ⟨port.toNat, by omega⟩
          have hk : k < K.length := by omega
          obtain ⟨y, hy⟩ : ∃ y, K[k]? = some y := ⟨_, List.getElem?_eq_getElem hk⟩
          rcases hv with ⟨rfl, _⟩ | ⟨b, off, cap, rfl, hl, hb, hc⟩
          · simp at hk
          have c := hc k y hy
          have HP2 := Lib.hid ((isP_at hy 2).symm.trans HP.out)
          have hl2 : (K.length : Int) ≤ 9223372036854775807 := by unfold maxLen at hl; omega
          clear hc hy hA HP
          go_wp2
          go_ret
          exact ⟨by rw [← HP2.out]; rfl, B3⟩
        · have e0 : x = false := by rw [← HP.out]; exact isP_far h1 _
          subst e0 hA
          clear hv HP
          go_wp2
          go_ret
          exact ⟨by simp, B3⟩
      · have e0 : x = false := by rw [← HP.out]; exact isP_neg h0 _
        subst e0 hA
        clear hv HP
        go_wp2
        go_ret
        exact ⟨by simp, B3⟩
    · have e0 : x = false := by rw [← HL2.out]; simp [t0]
      subst e0
      clear HL2 V3
      go_wp2
      go_ret
      exact ⟨by simp, B3⟩
  by_cases k4 : kind = 4
  · subst k4
    have HL2 : Hid ((decide (table < tab) && decide (tab < 3) && decide (port = 0)) = x) := Lib.hid (by rw [← HL.out]; simp [leads])
    clear HL V3
    by_cases p0 : port = 0
    · subst p0
      by_cases t0 : table < tab
      · by_cases t1 : tab < 3
        · have e0 : x = true := by rw [← HL2.out]; simp [t0, t1]
          subst e0
          clear HL2
          go_wp2
          go_ret
          exact ⟨by simp, B3⟩
        · have e0 : x = false := by rw [← HL2.out]; simp [t1]
          subst e0
          clear HL2
          go_wp2
          go_ret
          exact ⟨by simp, B3⟩
      · have e0 : x = false := by rw [← HL2.out]; simp [t0]
        subst e0
        clear HL2
        go_wp2
        go_ret
        exact ⟨by simp, B3⟩
    · have e0 : x = false := by rw [← HL2.out]; simp [p0]
      subst e0
      clear HL2
      go_wp2
      go_ret
      exact ⟨by simp, B3⟩
  have e0 : x = false := by rw [← HL.out]; simp [leads, k1, k2, k3, k4]
  subst e0
  clear HL V3
  go_wp2
  go_ret
  exact ⟨by simp, B3⟩
end Go.Proofs

namespace Go.Proofs.Hd
open Go.RowKit
/-- v is a slice of slices that read as the tables T. -/
def RuT (w : World) (v : Value) (T : List (List Rl)) : Prop := ∃ A cap, v = .slice A T.length cap ∧ T.length ≤ maxLen ∧ (∀ L ∈ T, L.length ≤ maxLen) ∧ (T ≠ [] → ∃ b o, A = some ⟨b, o, none⟩ ∧ b < w.heap.size ∧ ∀ k L, T[k]? = some L → ∃ s, w.cell? ⟨b, o + k, none⟩ = some s ∧ Ru w s L)
theorem RuT.on {w w' : World} {v : Value} {T : List (List Rl)} (h : RuT w v T) (hb : Below w.heap.size w w') : RuT w' v T := by
  obtain ⟨A, cap, e, h1, h2, h⟩ := h
  refine ⟨A, cap, e, h1, h2, fun hne => ?_⟩
  obtain ⟨b, o, e2, hl, hc⟩ := h hne
  refine ⟨b, o, e2, Nat.lt_of_lt_of_le hl hb.size, fun k L hk => ?_⟩
  obtain ⟨s, h3, h4⟩ := hc k L hk
  exact ⟨s, on_some hb h3, h4.on hb⟩
/-- How many rules the first k tables have, as an int counts. -/
def cntT (T : List (List Rl)) (k : Nat) : Int := (T.take k).foldl (fun c L => IntKind.i64.wrap (c + (L.length : Int))) 0
theorem cntT_succ {T : List (List Rl)} {k : Nat} {L : List Rl} (h : T[k]? = some L) : cntT T (k + 1) = IntKind.i64.wrap (cntT T k + (L.length : Int)) := by
  unfold cntT
  rw [List.take_add_one, h]
  simp
/-- Is a rule sound in table n of m? -/
def okR (m : Nat) (K : List Int) (n : Nat) (r : Rl) : Bool := sndR r (n : Int) K && decide (r.tab < (m : Int))
/-- Are the rules of the first k tables sound? -/
def okT (T : List (List Rl)) (K : List Int) (k : Nat) : Bool := (List.range k).all fun n => (T[n]!).all (okR T.length K n)
theorem okT_succ {T : List (List Rl)} {K : List Int} {k : Nat} {L : List Rl} (h : T[k]? = some L) : okT T K (k + 1) = (okT T K k && L.all (okR T.length K k)) := by
  obtain ⟨hl, e⟩ := List.getElem?_eq_some_iff.1 h
  unfold okT
  rw [List.range_succ, List.all_append]
  simp [hl, e]
theorem okT_no {T : List (List Rl)} {K : List Int} {k j : Nat} {L : List Rl} {r : Rl} (h : T[k]? = some L) (hj : L[j]? = some r) (hr : okR T.length K k r = false) : okT T K T.length = false := by
  cases hc : okT T K T.length with
  | false => rfl
  | true =>
    obtain ⟨hl, e⟩ := List.getElem?_eq_some_iff.1 h
    unfold okT at hc
    rw [List.all_eq_true] at hc
    have h1 := hc k (by simpa using hl)
    rw [getElem!_pos T k hl, e, List.all_eq_true] at h1
    rw [h1 r (List.mem_of_getElem? hj)] at hr
    cases hr
/-- What table.Sound says. -/
def sT (T : List (List Rl)) (K : List Int) : Int := if T.length = 0 ∨ 3 < T.length then 4 else if 96 < cntT T T.length then 12 else if okT T K T.length = true then 0 else 2
theorem all_takeR {L : List Rl} {f : Rl → Bool} {k : Nat} {r : Rl} (h : L[k]? = some r) (ha : (L.take k).all f = true) (hr : f r = true) : (L.take (k + 1)).all f = true := by
  rw [List.take_add_one, h, List.all_append, ha]
  simp [hr]
end Go.Proofs.Hd
namespace Go.Proofs
open Go.RowKit Go.Proofs.Hd Go.Sort Go.Lib
attribute [local go_sem] uv_nonneg
set_option maxHeartbeats 8000000 in
set_option maxRecDepth 100000 in
theorem tabs_c (v pv : Value) (T : List (List Rl)) (KK : List Int) (w : World) (hv : RuT w v T) (hp : Po w pv KK) : Calls Try.prog 41 #[v, pv] w fun e w' => e = .returned (.int .i64 (sT T KK)) ∧ Below w.heap.size w w' := by
  obtain ⟨A, cap, rfl, ht, hL, hA⟩ := hv
  have htz : (T.length : Int) ≤ 9223372036854775807 := by unfold maxLen at ht; omega
  by_cases h1 : T.length = 0 ∨ 3 < T.length
  · have hsT : sT T KK = 4 := by unfold sT; rw [if_pos h1]
    rw [hsT]
    clear hA hL hp hsT
    rcases h1 with h1 | h1
    · rw [h1]
      go_enter Try.func41, Try.ntmps41
      go_wp2
      go_ret
      exact ⟨rfl, Below.refl _ _⟩
    · have hz0 : ¬ (T.length : Int) = 0 := by omega
      have hz0' : ¬ T.length = 0 := by omega
      have hz3 : (3 : Int) < (T.length : Int) := by omega
      have hd0 : decide ((T.length : Int) = 0) = false := decide_eq_false hz0
      go_enter Try.func41, Try.ntmps41
      go_wp2
      go_ret
      exact ⟨rfl, Below.refl _ _⟩
  · have hz0 : ¬ (T.length : Int) = 0 := by omega
    have hz0' : ¬ T.length = 0 := by omega
    have hz3 : ¬ (3 : Int) < (T.length : Int) := by omega
    have hz3' : (T.length : Int) ≤ 3 := by omega
    have hsT : sT T KK = if 96 < cntT T T.length then 12 else if okT T KK T.length = true then 0 else 2 := by unfold sT; rw [if_neg h1]
    obtain ⟨b, o, rfl, hb0, hc⟩ := hA (by intro e; rw [e] at hz0'; exact hz0' rfl)
    have HC := Lib.hid hc
    have HP := Lib.hid hp
    have HL := Lib.hid hL
    have HS := Lib.hid hsT
    clear hc hp hA hL hsT
    go_enter Try.func41, Try.ntmps41
    go_wp2
    go_loopg [5, 7, 22] T.length (fun gk s5 _ s22 wr => ∃ (k : Nat) (cn : Int), k ≤ T.length ∧ gk = T.length - k ∧ s22 = .int .i64 k ∧ s5 = .int .i64 cn ∧ Hid (cn = cntT T k) ∧ Hid (Below w.heap.size w wr))
    case atStart => exact ⟨0, 0, Nat.zero_le _, rfl, rfl, rfl, rfl, Below.refl _ _⟩
    case round =>
      obtain ⟨k, cn, hk, rfl, rfl, rfl, HN, HW⟩ := hrel
      by_cases hlt : k < T.length
      · have hltz : (k : Int) < (T.length : Int) := by omega
        obtain ⟨L, hTL⟩ : ∃ L, T[k]? = some L := ⟨_, List.getElem?_eq_getElem hlt⟩
        obtain ⟨s, hcell0, hru⟩ := HC.out k L hTL
        obtain ⟨A1, c1, rfl, _⟩ := hru.form
        have hcell := on_some HW.out hcell0
        obtain ⟨cm, hcm⟩ : ∃ cm, IntKind.i64.wrap (cn + (L.length : Int)) = cm := ⟨_, rfl⟩
        have HN2 : Hid (cm = cntT T (k + 1)) := by show _ = _; rw [cntT_succ hTL, ← HN.out, hcm]
        clear hTL hru HN hcell0
        go_wp2
        go_roundg (T.length - (k + 1))
        case measure => omega
        case rel => exact ⟨k + 1, cm, by omega, rfl, by go_num, rfl, HN2, HW⟩
      · have hltz : ¬ (k : Int) < (T.length : Int) := by omega
        obtain rfl : k = T.length := by omega
        by_cases h96 : 96 < cn
        · have HE : Hid (sT T KK = 12) := by show _ = _; rw [HS.out, if_pos (by rw [← HN.out]; exact h96)]
          clear HS HC HN
          go_wp2
          go_ret
          exact ⟨by rw [HE.out]; rfl, HW.out⟩
        · have HS2 : Hid (sT T KK = if okT T KK T.length = true then 0 else 2) := by show _ = _; rw [HS.out, if_neg (by rw [← HN.out]; exact h96)]
          clear HS HN
          go_wp2
          go_loopg [8, 9, 11, 35, 42] T.length (fun gn s8 s9 s11 s35 s42 wn => ∃ (n : Nat), n ≤ T.length ∧ gn = T.length - n ∧ s35 = .int .i64 n ∧ Hid (okT T KK n = true) ∧ Hid (Below w.heap.size w wn))
          case atStart => exact ⟨0, Nat.zero_le _, rfl, rfl, rfl, HW⟩
          case round =>
            clear HW
            obtain ⟨n, hn, rfl, rfl, HO, HB⟩ := hrel
            by_cases hnt : n < T.length
            · have hntz : (n : Int) < (T.length : Int) := by omega
              obtain ⟨L, hTL⟩ : ∃ L, T[n]? = some L := ⟨_, List.getElem?_eq_getElem hnt⟩
              obtain ⟨s, hcell0, hru⟩ := HC.out n L hTL
              obtain ⟨A1, c1, rfl, hA1⟩ := hru.form
              have hcell := on_some HB.out hcell0
              have HA1 := Lib.hid hA1
              have HTL := Lib.hid hTL
              have hLz : (L.length : Int) ≤ 9223372036854775807 := by have := HL.out L (List.mem_of_getElem? hTL); unfold maxLen at this; omega
              clear hTL hru hcell0 hA1
              go_wp2
              go_loopg [11, 42] L.length (fun gi s11 s42 wi => ∃ (i : Nat), i ≤ L.length ∧ gi = L.length - i ∧ s42 = .int .i64 i ∧ Hid ((L.take i).all (okR T.length KK n) = true) ∧ Hid (Below w.heap.size w wi))
              case atStart => exact ⟨0, Nat.zero_le _, rfl, rfl, rfl, HB⟩
              case round =>
                clear HB hcell
                obtain ⟨i, hi, rfl, rfl, HI, HB⟩ := hrel
                by_cases hit : i < L.length
                · have hitz : (i : Int) < (L.length : Int) := by omega
                  obtain ⟨r, hr⟩ : ∃ r, L[i]? = some r := ⟨_, List.getElem?_eq_getElem hit⟩
                  obtain ⟨b1, o1, rfl, _, hpc⟩ := HA1.out (by intro h; rw [h] at hit; simp at hit)
                  obtain ⟨c0, c1', c2, c3, c4, c5, c6, c7, c8, c9, c10, c11⟩ := ((hpc i r hr).on HB.out).out
                  have hb1 := below1 wr (.cells #[.int .i64 r.pri, .int .u64 (uv r.m.vh), .int .u64 (uv r.m.vl), .int .u64 (uv r.m.ch), .int .u64 (uv r.m.cl), .int .i64 r.kind, .int .i64 r.port, .int .i64 r.tab, .int .u64 (uv r.s.vh), .int .u64 (uv r.s.vl), .int .u64 (uv r.s.ch), .int .u64 (uv r.s.cl)] 51)
                  have N1 : Hid (Blk (wr.alloc (.cells #[.int .i64 r.pri, .int .u64 (uv r.m.vh), .int .u64 (uv r.m.vl), .int .u64 (uv r.m.ch), .int .u64 (uv r.m.cl), .int .i64 r.kind, .int .i64 r.port, .int .i64 r.tab, .int .u64 (uv r.s.vh), .int .u64 (uv r.s.vl), .int .u64 (uv r.s.ch), .int .u64 (uv r.s.cl)] 51)) wr.heap.size 51 #[.int .i64 r.pri, .int .u64 (uv r.m.vh), .int .u64 (uv r.m.vl), .int .u64 (uv r.m.ch), .int .u64 (uv r.m.cl), .int .i64 r.kind, .int .i64 r.port, .int .i64 r.tab, .int .u64 (uv r.s.vh), .int .u64 (uv r.s.vl), .int .u64 (uv r.s.ch), .int .u64 (uv r.s.cl)]) := Blk.new wr _ _
                  have HB1 := Lib.hid (HB.out.trans (hb1.mono HB.out.size))
                  have HR := Lib.hid hr
                  clear hr hpc hb1 HB
                  cases hs : sndR r (n : Int) KK with
                  | false =>
                    have HE : Hid (sT T KK = 2) := by show _ = _; rw [HS2.out, okT_no HTL.out HR.out (by unfold okR; rw [hs]; rfl)]; rfl
                    go_wp2_with fail
                    (with_reducible refine (sound_r false r (n : Int) pv KK _ hs (HP.out.on HB1.out)).mono ?_)
                    rintro e w2 ⟨rfl, hb2⟩
                    have B2 := HB1.out.trans (hb2.mono HB1.out.size)
                    clear HB1 hb2 N1 c0 c1' c2 c3 c4 c5 c6 c7 c8 c9 c10 c11
                    go_wp2
                    go_ret
                    exact ⟨by rw [HE.out]; rfl, B2⟩
                  | true =>
                    by_cases htab : r.tab < (T.length : Int)
                    · have HI2 : Hid ((L.take (i + 1)).all (okR T.length KK n) = true) := all_takeR HR.out HI.out (by unfold okR; rw [hs, decide_eq_true htab]; rfl)
                      have hge : ¬ (T.length : Int) ≤ r.tab := by omega
                      go_wp2_with fail
                      (with_reducible refine (sound_r true r (n : Int) pv KK _ hs (HP.out.on HB1.out)).mono ?_)
                      rintro e w2 ⟨rfl, hb2⟩
                      have HB2 := Lib.hid (HB1.out.trans (hb2.mono HB1.out.size))
                      have d7 := (N1.out.on hb2).cell 7
                      simp at d7
                      clear HB1 hb2 N1 c0 c1' c2 c3 c4 c5 c6 c7 c8 c9 c10 c11
                      go_wp2
                      go_roundg (L.length - (i + 1))
                      case measure => omega
                      case rel => exact ⟨i + 1, by omega, rfl, by go_num, HI2, HB2⟩
                    · have HE : Hid (sT T KK = 2) := by show _ = _; rw [HS2.out, okT_no HTL.out HR.out (by unfold okR; rw [hs, decide_eq_false htab]; rfl)]; rfl
                      have hge : (T.length : Int) ≤ r.tab := by omega
                      go_wp2_with fail
                      (with_reducible refine (sound_r true r (n : Int) pv KK _ hs (HP.out.on HB1.out)).mono ?_)
                      rintro e w2 ⟨rfl, hb2⟩
                      have B2 := HB1.out.trans (hb2.mono HB1.out.size)
                      have d7 := (N1.out.on hb2).cell 7
                      simp at d7
                      clear HB1 hb2 N1 c0 c1' c2 c3 c4 c5 c6 c7 c8 c9 c10 c11
                      go_wp2
                      go_ret
                      exact ⟨by rw [HE.out]; rfl, B2⟩
                · have hitz : ¬ (i : Int) < (L.length : Int) := by omega
                  have HO2 : Hid (okT T KK (n + 1) = true) := by
                    have e := HI.out
                    rw [List.take_of_length_le (by omega)] at e
                    show _ = _
                    rw [okT_succ HTL.out, HO.out, e]
                    rfl
                  go_wp2
                  go_roundg (T.length - (n + 1))
                  case measure => omega
                  case rel => exact ⟨n + 1, by omega, rfl, by go_num, HO2, HB⟩
            · have hntz : ¬ (n : Int) < (T.length : Int) := by omega
              obtain rfl : n = T.length := by omega
              have HE : Hid (sT T KK = 0) := by show _ = _; rw [HS2.out, HO.out]; rfl
              clear HC HO
              go_wp2
              go_ret
              exact ⟨by rw [HE.out]; rfl, HB.out⟩
set_option maxHeartbeats 8000000 in
set_option maxRecDepth 100000 in
theorem rtabs_c (v pv : Value) (T : List (List Rl)) (KK : List Int) (w : World) (hv : RuT w v T) (hp : Po w pv KK) : Calls Try.prog 46 #[v, pv] w fun e w' => e = .returned (.int .i64 (sT T KK)) ∧ Below w.heap.size w w' := by
  obtain ⟨A, cap, rfl, ht, hL, hA⟩ := hv
  have htz : (T.length : Int) ≤ 9223372036854775807 := by unfold maxLen at ht; omega
  by_cases h1 : T.length = 0 ∨ 3 < T.length
  · have hsT : sT T KK = 4 := by unfold sT; rw [if_pos h1]
    rw [hsT]
    clear hA hL hp hsT
    rcases h1 with h1 | h1
    · rw [h1]
      go_enter Try.func46, Try.ntmps46
      go_wp2
      go_ret
      exact ⟨rfl, Below.refl _ _⟩
    · have hz0 : ¬ (T.length : Int) = 0 := by omega
      have hz0' : ¬ T.length = 0 := by omega
      have hz3 : (3 : Int) < (T.length : Int) := by omega
      have hz1 : ¬ (T.length : Int) < 1 := by omega
      go_enter Try.func46, Try.ntmps46
      go_wp2
      go_ret
      exact ⟨rfl, Below.refl _ _⟩
  · have hz0 : ¬ (T.length : Int) = 0 := by omega
    have hz0' : ¬ T.length = 0 := by omega
    have hz3 : ¬ (3 : Int) < (T.length : Int) := by omega
    have hz3' : (T.length : Int) ≤ 3 := by omega
    have hz1 : ¬ (T.length : Int) < 1 := by omega
    have hsT : sT T KK = if 96 < cntT T T.length then 12 else if okT T KK T.length = true then 0 else 2 := by unfold sT; rw [if_neg h1]
    obtain ⟨b, o, rfl, hb0, hc⟩ := hA (by intro e; rw [e] at hz0'; exact hz0' rfl)
    have HC := Lib.hid hc
    have HP := Lib.hid hp
    have HL := Lib.hid hL
    have HS := Lib.hid hsT
    clear hc hp hA hL hsT
    go_enter Try.func46, Try.ntmps46
    go_wp2
    go_loopg [5, 6] T.length (fun gk s5 s22 wr => ∃ (k : Nat) (cn : Int), k ≤ T.length ∧ gk = T.length - k ∧ s22 = .int .i64 k ∧ s5 = .int .i64 cn ∧ Hid (cn = cntT T k) ∧ Hid (Below w.heap.size w wr))
    case atStart => exact ⟨0, 0, Nat.zero_le _, rfl, rfl, rfl, rfl, Below.refl _ _⟩
    case round =>
      obtain ⟨k, cn, hk, rfl, rfl, rfl, HN, HW⟩ := hrel
      by_cases hlt : k < T.length
      · have hltz : (k : Int) < (T.length : Int) := by omega
        obtain ⟨L, hTL⟩ : ∃ L, T[k]? = some L := ⟨_, List.getElem?_eq_getElem hlt⟩
        obtain ⟨s, hcell0, hru⟩ := HC.out k L hTL
        obtain ⟨A1, c1, rfl, _⟩ := hru.form
        have hcell := on_some HW.out hcell0
        obtain ⟨cm, hcm⟩ : ∃ cm, IntKind.i64.wrap (cn + (L.length : Int)) = cm := ⟨_, rfl⟩
        have HN2 : Hid (cm = cntT T (k + 1)) := by show _ = _; rw [cntT_succ hTL, ← HN.out, hcm]
        clear hTL hru HN hcell0
        go_wp2
        go_roundg (T.length - (k + 1))
        case measure => omega
        case rel => exact ⟨k + 1, cm, by omega, rfl, by go_num, rfl, HN2, HW⟩
      · have hltz : ¬ (k : Int) < (T.length : Int) := by omega
        obtain rfl : k = T.length := by omega
        by_cases h96 : 96 < cn
        · have HE : Hid (sT T KK = 12) := by show _ = _; rw [HS.out, if_pos (by rw [← HN.out]; exact h96)]
          clear HS HC HN
          go_wp2
          go_ret
          exact ⟨by rw [HE.out]; rfl, HW.out⟩
        · have HS2 : Hid (sT T KK = if okT T KK T.length = true then 0 else 2) := by show _ = _; rw [HS.out, if_neg (by rw [← HN.out]; exact h96)]
          clear HS HN
          go_wp2
          go_loopg [7, 8] T.length (fun gn s35 s8 wn => ∃ (n : Nat), n ≤ T.length ∧ gn = T.length - n ∧ s35 = .int .i64 n ∧ Hid (okT T KK n = true) ∧ Hid (Below w.heap.size w wn))
          case atStart => exact ⟨0, Nat.zero_le _, rfl, rfl, rfl, HW⟩
          case round =>
            clear HW
            obtain ⟨n, hn, rfl, rfl, HO, HB⟩ := hrel
            by_cases hnt : n < T.length
            · have hntz : (n : Int) < (T.length : Int) := by omega
              obtain ⟨L, hTL⟩ : ∃ L, T[n]? = some L := ⟨_, List.getElem?_eq_getElem hnt⟩
              obtain ⟨s, hcell0, hru⟩ := HC.out n L hTL
              obtain ⟨A1, c1, rfl, hA1⟩ := hru.form
              have hcell := on_some HB.out hcell0
              have HC0 := Lib.hid hcell0
              have HA1 := Lib.hid hA1
              have HTL := Lib.hid hTL
              have hLz : (L.length : Int) ≤ 9223372036854775807 := by have := HL.out L (List.mem_of_getElem? hTL); unfold maxLen at this; omega
              clear hTL hru hcell0 hA1
              go_wp2
              go_loopg [8] L.length (fun gi s42 wi => ∃ (i : Nat), i ≤ L.length ∧ gi = L.length - i ∧ s42 = .int .i64 i ∧ Hid ((L.take i).all (okR T.length KK n) = true) ∧ Hid (Below w.heap.size w wi))
              case atStart => exact ⟨0, Nat.zero_le _, rfl, rfl, rfl, HB⟩
              case round =>
                clear HB hcell
                obtain ⟨i, hi, rfl, rfl, HI, HB⟩ := hrel
                have hcell := on_some HB.out HC0.out
                by_cases hit : i < L.length
                · have hitz : (i : Int) < (L.length : Int) := by omega
                  obtain ⟨r, hr⟩ : ∃ r, L[i]? = some r := ⟨_, List.getElem?_eq_getElem hit⟩
                  obtain ⟨b1, o1, rfl, _, hpc⟩ := HA1.out (by intro h; rw [h] at hit; simp at hit)
                  obtain ⟨c0, c1', c2, c3, c4, c5, c6, c7, c8, c9, c10, c11⟩ := ((hpc i r hr).on HB.out).out
                  have HB1 := HB
                  have HR := Lib.hid hr
                  have HAT := Lib.hid (hpc i r hr)
                  clear hr hpc HB
                  cases hs : sndR r (n : Int) KK with
                  | false =>
                    have HE : Hid (sT T KK = 2) := by show _ = _; rw [HS2.out, okT_no HTL.out HR.out (by unfold okR; rw [hs]; rfl)]; rfl
                    go_wp2_with fail
                    (with_reducible refine (rsound_r false r (n : Int) pv KK _ hs (HP.out.on HB1.out)).mono ?_)
                    rintro e w2 ⟨rfl, hb2⟩
                    have B2 := HB1.out.trans (hb2.mono HB1.out.size)
                    clear HB1 hb2 HAT hcell c0 c1' c2 c3 c4 c5 c6 c7 c8 c9 c10 c11
                    go_wp2
                    go_ret
                    exact ⟨by rw [HE.out]; rfl, B2⟩
                  | true =>
                    by_cases htab : r.tab < (T.length : Int)
                    · have HI2 : Hid ((L.take (i + 1)).all (okR T.length KK n) = true) := all_takeR HR.out HI.out (by unfold okR; rw [hs, decide_eq_true htab]; rfl)
                      have hge : ¬ (T.length : Int) ≤ r.tab := by omega
                      go_wp2_with fail
                      (with_reducible refine (rsound_r true r (n : Int) pv KK _ hs (HP.out.on HB1.out)).mono ?_)
                      rintro e w2 ⟨rfl, hb2⟩
                      have HB2 := Lib.hid (HB1.out.trans (hb2.mono HB1.out.size))
                      have d7 := (HAT.out.on (HB1.out.trans (hb2.mono HB1.out.size))).out.2.2.2.2.2.2.2.1
                      have hcell2 := on_some (HB1.out.trans (hb2.mono HB1.out.size)) HC0.out
                      clear HB1 hb2 HAT hcell c0 c1' c2 c3 c4 c5 c6 c7 c8 c9 c10 c11
                      go_wp2
                      go_roundg (L.length - (i + 1))
                      case measure => omega
                      case rel => exact ⟨i + 1, by omega, rfl, by go_num, HI2, HB2⟩
                    · have HE : Hid (sT T KK = 2) := by show _ = _; rw [HS2.out, okT_no HTL.out HR.out (by unfold okR; rw [hs, decide_eq_false htab]; rfl)]; rfl
                      have hge : (T.length : Int) ≤ r.tab := by omega
                      go_wp2_with fail
                      (with_reducible refine (rsound_r true r (n : Int) pv KK _ hs (HP.out.on HB1.out)).mono ?_)
                      rintro e w2 ⟨rfl, hb2⟩
                      have B2 := HB1.out.trans (hb2.mono HB1.out.size)
                      have d7 := (HAT.out.on (HB1.out.trans (hb2.mono HB1.out.size))).out.2.2.2.2.2.2.2.1
                      have hcell2 := on_some (HB1.out.trans (hb2.mono HB1.out.size)) HC0.out
                      clear HB1 hb2 HAT hcell c0 c1' c2 c3 c4 c5 c6 c7 c8 c9 c10 c11
                      go_wp2
                      go_ret
                      exact ⟨by rw [HE.out]; rfl, B2⟩
                · have hitz : ¬ (i : Int) < (L.length : Int) := by omega
                  have HO2 : Hid (okT T KK (n + 1) = true) := by
                    have e := HI.out
                    rw [List.take_of_length_le (by omega)] at e
                    show _ = _
                    rw [okT_succ HTL.out, HO.out, e]
                    rfl
                  go_wp2
                  go_roundg (T.length - (n + 1))
                  case measure => omega
                  case rel => exact ⟨n + 1, by omega, rfl, by go_num, HO2, HB⟩
            · have hntz : ¬ (n : Int) < (T.length : Int) := by omega
              obtain rfl : n = T.length := by omega
              have HE : Hid (sT T KK = 0) := by show _ = _; rw [HS2.out, HO.out]; rfl
              clear HC HO
              go_wp2
              go_ret
              exact ⟨by rw [HE.out]; rfl, HB.out⟩
end Go.Proofs

namespace Go.Proofs.Ytanliiopdhjhjaa
open Go.ChangeShapes Go.WideShapes Go.ChangeAt Go.RowKit Go.Joins Go.Deep Go.Proofs.Hd
theorem cellsRules : Try.prog.cellsOf 45 = 1 := by kernel_rfl
end Go.Proofs.Ytanliiopdhjhjaa

namespace Go.Proofs.Hd
open Go.RowKit
/-- A port. -/
structure Pt where
  kind : Int
  ten : Int
  peer : Int
  spot : Int
  cost : Int
/-- A port's cells. -/
def Pt.cs (p : Pt) : List Value := [.int .i64 p.kind, .int .i64 p.ten, .int .i64 p.peer, .int .i64 p.spot, .int .i64 p.cost]
theorem Pt.cs_len (p : Pt) : p.cs.length = 5 := rfl
/-- Are two ports the same? -/
def eqP (a b : Pt) : Bool := (a.kind == b.kind) && ((a.ten == b.ten) && ((a.peer == b.peer) && ((a.spot == b.spot) && (a.cost == b.cost))))
theorem eqP_iff {a b : Pt} : eqP a b = true ↔ a = b := by
  cases a; cases b
  simp [eqP]
theorem eqP_self (a : Pt) : eqP a a = true := eqP_iff.2 rfl
/-- The five cells of a port. -/
def AtP (w : World) (b o : Nat) (p : Pt) : Prop := w.cell? ⟨b, o, none⟩ = some (.int .i64 p.kind) ∧ w.cell? ⟨b, o + 1, none⟩ = some (.int .i64 p.ten) ∧ w.cell? ⟨b, o + 2, none⟩ = some (.int .i64 p.peer) ∧ w.cell? ⟨b, o + 3, none⟩ = some (.int .i64 p.spot) ∧ w.cell? ⟨b, o + 4, none⟩ = some (.int .i64 p.cost)
theorem AtP.on {w w' : World} {b o : Nat} {p : Pt} (h : AtP w b o p) (hb : Below w.heap.size w w') : AtP w' b o p := ⟨on_some hb h.1, on_some hb h.2.1, on_some hb h.2.2.1, on_some hb h.2.2.2.1, on_some hb h.2.2.2.2⟩
/-- v is a slice that reads as the ports L. -/
def Ps (w : World) (v : Value) (L : List Pt) : Prop := ∃ A cap, v = .slice A L.length cap ∧ L.length ≤ maxLen ∧ (L ≠ [] → ∃ b o, A = some ⟨b, o, none⟩ ∧ b < w.heap.size ∧ ∀ k p, L[k]? = some p → AtP w b (o + k * 5) p)
theorem Ps.on {w w' : World} {v : Value} {L : List Pt} (h : Ps w v L) (hb : Below w.heap.size w w') : Ps w' v L := by
  obtain ⟨A, cap, e, hl, h⟩ := h
  refine ⟨A, cap, e, hl, fun hne => ?_⟩
  obtain ⟨b, o, e2, hlt, hc⟩ := h hne
  exact ⟨b, o, e2, Nat.lt_of_lt_of_le hlt hb.size, fun k p hk => (hc k p hk).on hb⟩
/-- v is a slice of slices that read as the switches T. -/
def PsT (w : World) (v : Value) (T : List (List Pt)) : Prop := ∃ A cap, v = .slice A T.length cap ∧ T.length ≤ maxLen ∧ (T ≠ [] → ∃ b o, A = some ⟨b, o, none⟩ ∧ b < w.heap.size ∧ ∀ k L, T[k]? = some L → ∃ s, w.cell? ⟨b, o + k, none⟩ = some s ∧ Ps w s L)
theorem PsT.on {w w' : World} {v : Value} {T : List (List Pt)} (h : PsT w v T) (hb : Below w.heap.size w w') : PsT w' v T := by
  obtain ⟨A, cap, e, h1, h⟩ := h
  refine ⟨A, cap, e, h1, fun hne => ?_⟩
  obtain ⟨b, o, e2, hl, hc⟩ := h hne
  refine ⟨b, o, e2, Nat.lt_of_lt_of_le hl hb.size, fun k L hk => ?_⟩
  obtain ⟨s, h3, h4⟩ := hc k L hk
  exact ⟨s, on_some hb h3, h4.on hb⟩
theorem PsT.form {w : World} {v : Value} {T : List (List Pt)} (h : PsT w v T) : ∃ A cap, v = .slice A T.length cap := by
  obtain ⟨A, cap, e, _⟩ := h; exact ⟨A, cap, e⟩
/-- Is n a place of a list of m? -/
def inB (n m : Int) : Bool := decide (0 ≤ n) && decide (n < m)
/-- The port at a spot. -/
def ptAt (T : List (List Pt)) (n i : Int) : Option Pt := if 0 ≤ n ∧ 0 ≤ i then (T[n.toNat]?).bind fun L => L[i.toNat]? else none
theorem ptAt_nat {T : List (List Pt)} {n i : Nat} {L : List Pt} {p : Pt} (h : T[n]? = some L) (hp : L[i]? = some p) : ptAt T (n : Int) (i : Int) = some p := by
  unfold ptAt
  rw [if_pos (by omega), Int.toNat_natCast, Int.toNat_natCast, h]
  exact hp
theorem ptAt_some {T : List (List Pt)} {n i : Int} {p : Pt} (h : ptAt T n i = some p) : ∃ (n' i' : Nat) (L : List Pt), n = n' ∧ i = i' ∧ T[n']? = some L ∧ L[i']? = some p := by
  unfold ptAt at h
  split at h
  · rename_i hn
    cases hL : T[n.toNat]? with
    | none => rw [hL] at h; cases h
    | some L => rw [hL] at h; exact ⟨n.toNat, i.toNat, L, by omega, by omega, hL, h⟩
  · cases h
theorem ptAt_far1 {T : List (List Pt)} {n i : Int} (h : inB n T.length = false) : ptAt T n i = none := by
  cases hp : ptAt T n i with
  | none => rfl
  | some p =>
    obtain ⟨n', i', L, rfl, rfl, h1, _⟩ := ptAt_some hp
    have := (List.getElem?_eq_some_iff.1 h1).1
    simp [inB] at h
    omega
theorem ptAt_far2 {T : List (List Pt)} {n : Nat} {i : Int} {L : List Pt} (hL : T[n]? = some L) (h : inB i L.length = false) : ptAt T n i = none := by
  cases hp : ptAt T n i with
  | none => rfl
  | some p =>
    obtain ⟨n', i', L', e, rfl, h1, h2⟩ := ptAt_some hp
    obtain rfl : n = n' := by omega
    rw [hL] at h1
    injection h1 with h1
    subst h1
    have := (List.getElem?_eq_some_iff.1 h2).1
    simp [inB] at h
    omega
theorem bldrewN {B : Nat} {w w' : World} (h : Below B w w') (n : Nat) : Below B w (w'.drewN n) := ⟨h.os, h.tape, h.output, h.size, h.block⟩
theorem Blk.drewN {w : World} {g : Nat} {t : TypeId} {cs : Array Value} (h : Blk w g t cs) (n : Nat) : Blk (w.drewN n) g t cs := h
theorem Blk.new2 (w : World) (o : Obj) (t : TypeId) (cs : Array Value) : Blk ((w.alloc o).alloc (.cells cs t)) (w.heap.size + 1) t cs := by
  have h := Blk.new (w.alloc o) t cs
  have e : (w.alloc o).heap.size = w.heap.size + 1 := by simp
  rw [e] at h
  exact h
theorem Blk.new3 (w : World) (o p : Obj) (t : TypeId) (cs : Array Value) : Blk (((w.alloc o).alloc p).alloc (.cells cs t)) (w.heap.size + 1 + 1) t cs := by
  have h := Blk.new ((w.alloc o).alloc p) t cs
  have e : ((w.alloc o).alloc p).heap.size = w.heap.size + 1 + 1 := by simp
  rw [e] at h
  exact h
theorem Blk.drew1 {w : World} {g : Nat} {t : TypeId} {cs : Array Value} (h : Blk w g t cs) : Blk w.drew g t cs := h
/-- Five cells of a block are written. -/
theorem Blk.put5 {w : World} {g : Nat} {t : TypeId} {x0 x1 x2 x3 x4 : Value} (h : Blk w g t #[x0, x1, x2, x3, x4]) (a0 a1 a2 a3 a4 : Value) :
    Blk (((((w.setCell ⟨g, 0, none⟩ a0).setCell ⟨g, 1, none⟩ a1).setCell ⟨g, 2, none⟩ a2).setCell ⟨g, 3, none⟩ a3).setCell ⟨g, 4, none⟩ a4) g t #[a0, a1, a2, a3, a4] := by
  have h1 := ((((h.set 0 a0).set 1 a1).set 2 a2).set 3 a3).set 4 a4
  simpa using h1
theorem below_put5 {w : World} {B g : Nat} (hB : B ≤ g) (a0 a1 a2 a3 a4 : Value) : Below B w (((((w.setCell ⟨g, 0, none⟩ a0).setCell ⟨g, 1, none⟩ a1).setCell ⟨g, 2, none⟩ a2).setCell ⟨g, 3, none⟩ a3).setCell ⟨g, 4, none⟩ a4) :=
  (((((Below.refl B w).setCell (p := ⟨g, 0, none⟩) hB a0).setCell (p := ⟨g, 1, none⟩) hB a1).setCell (p := ⟨g, 2, none⟩) hB a2).setCell (p := ⟨g, 3, none⟩) hB a3).setCell (p := ⟨g, 4, none⟩) hB a4
theorem Blk.five {w : World} {g : Nat} {t : TypeId} {x0 x1 x2 x3 x4 : Value} (h : Blk w g t #[x0, x1, x2, x3, x4]) : w.cell? ⟨g, 0, none⟩ = some x0 ∧ w.cell? ⟨g, 1, none⟩ = some x1 ∧ w.cell? ⟨g, 2, none⟩ = some x2 ∧ w.cell? ⟨g, 3, none⟩ = some x3 ∧ w.cell? ⟨g, 4, none⟩ = some x4 :=
  ⟨(h.cell 0).trans rfl, (h.cell 1).trans rfl, (h.cell 2).trans rfl, (h.cell 3).trans rfl, (h.cell 4).trans rfl⟩
end Go.Proofs.Hd
namespace Go.Proofs
open Go.RowKit Go.Proofs.Hd Go.Lib
set_option maxRecDepth 100000 in
theorem run_eqP (w : World) (a0 a1 a2 a3 a4 b0 b1 b2 b3 b4 : Int) : (Op.equalIn 10000 91 (.agg #[.int .i64 a0, .int .i64 a1, .int .i64 a2, .int .i64 a3, .int .i64 a4]) (.agg #[.int .i64 b0, .int .i64 b1, .int .i64 b2, .int .i64 b3, .int .i64 b4])).run Try.prog w = .ok (eqP ⟨a0, a1, a2, a3, a4⟩ ⟨b0, b1, b2, b3, b4⟩) w := by
  unfold eqP
  cases h1 : a0 == b0
  · go_simp
  cases h2 : a1 == b1
  · go_simp
  cases h3 : a2 == b2
  · go_simp
  cases h4 : a3 == b3
  · go_simp
  cases h5 : a4 == b4 <;> go_simp
theorem within_c (x : Bool) (n m : Int) (w : World) (hx : inB n m = x) : Calls Try.prog 73 #[.int .i64 n, .int .i64 m] w fun e w' => e = .returned (.bool x) ∧ w = w' := by
  unfold inB at hx
  by_cases h0 : 0 ≤ n
  · by_cases h1 : n < m
    · rw [decide_eq_true h0, decide_eq_true h1] at hx
      subst hx
      go_enter Try.func73, Try.ntmps73
      go_wp2
      go_ret
      exact ⟨rfl, rfl⟩
    · rw [decide_eq_true h0, decide_eq_false h1] at hx
      subst hx
      go_enter Try.func73, Try.ntmps73
      go_wp2
      go_ret
      exact ⟨rfl, rfl⟩
  · rw [decide_eq_false h0] at hx
    subst hx
    go_enter Try.func73, Try.ntmps73
    go_wp2
    go_ret
    exact ⟨rfl, rfl⟩
theorem within_q (x : Bool) (n m : Int) (w : World) (hx : inB n m = x) : Calls Try.prog 73 #[.int .i64 n, .int .i64 m] w fun e w' => e = .returned (.bool x) ∧ w' = w := (within_c x n m w hx).mono fun _ _ h => ⟨h.1, h.2.symm⟩
/-- What topo.port answers. -/
def PortR (w : World) (o : Option Pt) (e : Ending) (w' : World) : Prop := (match o with | some p => e = .returned (.tuple #[.agg #[.int .i64 p.kind, .int .i64 p.ten, .int .i64 p.peer, .int .i64 p.spot, .int .i64 p.cost], .bool true]) | none => e = .returned (.tuple #[.agg #[.int .i64 0, .int .i64 0, .int .i64 0, .int .i64 0, .int .i64 0], .bool false])) ∧ Below w.heap.size w w'
set_option maxRecDepth 100000 in
set_option maxHeartbeats 400000 in
theorem port_no1 (tv : Value) (T : List (List Pt)) (n i : Int) (w : World) (hT : PsT w tv T) (h1 : inB n T.length = false) : Calls Try.prog 81 #[.agg #[tv], .agg #[.int .i64 n, .int .i64 i]] w (PortR w none) := by
  obtain ⟨A, cap, rfl⟩ := hT.form
  have B : Below w.heap.size w (((w.alloc (.cells #[.slice A T.length cap] 24)).alloc (.cells #[.int .i64 n, .int .i64 i] 56)).alloc (.cells #[.int .i64 0, .int .i64 0, .int .i64 0, .int .i64 0, .int .i64 0] 91)) := below3 w _ _ _
  have N : Blk (((w.alloc (.cells #[.slice A T.length cap] 24)).alloc (.cells #[.int .i64 n, .int .i64 i] 56)).alloc (.cells #[.int .i64 0, .int .i64 0, .int .i64 0, .int .i64 0, .int .i64 0] 91)) (w.heap.size + 1 + 1) 91 #[.int .i64 0, .int .i64 0, .int .i64 0, .int .i64 0, .int .i64 0] := Blk.new3 _ _ _ _ _
  clear hT
  go_enter Try.func81, Try.ntmps81
  go_wp2_with fail
  go_quiet ((go_at_call 73; exact Calls.quiet_of_same (within_q false n T.length _ h1)))
  replace B := bldrewN B nq
  replace N := N.drewN nq
  generalize (((w.alloc (.cells #[.slice A T.length cap] 24)).alloc (.cells #[.int .i64 n, .int .i64 i] 56)).alloc (.cells #[.int .i64 0, .int .i64 0, .int .i64 0, .int .i64 0, .int .i64 0] 91)).drewN nq = w1 at B N ⊢
  clear nq
  have K := N.put5 (.int .i64 0) (.int .i64 0) (.int .i64 0) (.int .i64 0) (.int .i64 0)
  have B2 : Below w.heap.size w _ := B.trans (below_put5 (w := w1) (B := w.heap.size) (g := w.heap.size + 1 + 1) (by omega) (.int .i64 0) (.int .i64 0) (.int .i64 0) (.int .i64 0) (.int .i64 0))
  obtain ⟨y0, y1, y2, y3, y4⟩ := N.five
  have f0 := N.free 0
  have f1 := N.free 1
  have f2 := N.free 2
  have f3 := N.free 3
  have f4 := N.free 4
  have HB := Lib.hid B2
  obtain ⟨z0, z1, z2, z3, z4⟩ := K.five
  have HK := Lib.hid K
  clear N K B B2
  go_wp2
  exact bodyPost_ret (v := .tuple #[.agg #[.int .i64 0, .int .i64 0, .int .i64 0, .int .i64 0, .int .i64 0], .bool false]) (by simp [results, Try.results81, go_sem, z0, z1, z2, z3, z4]) rfl ⟨rfl, HB.out⟩
end Go.Proofs

namespace Go.Proofs
open Go.RowKit Go.Proofs.Hd Go.Lib
set_option maxRecDepth 100000 in
set_option maxHeartbeats 400000 in
theorem port_no2 (tv : Value) (T : List (List Pt)) (n : Nat) (i : Int) (L : List Pt) (w : World) (hT : PsT w tv T) (hL : T[n]? = some L) (h2 : inB i L.length = false) : Calls Try.prog 81 #[.agg #[tv], .agg #[.int .i64 n, .int .i64 i]] w (PortR w none) := by
  obtain ⟨A, cap, rfl, htm, hA⟩ := hT
  have hnT := (List.getElem?_eq_some_iff.1 hL).1
  obtain ⟨b, o, rfl, hb, hc⟩ := hA (by rintro rfl; simp at hL)
  obtain ⟨s, hs, hP⟩ := hc n L hL
  obtain ⟨A2, cap2, rfl, hLm, _⟩ := hP
  have h1 : inB (n : Int) T.length = true := by simp [inB]; omega
  have hnz : (n : Int) < (T.length : Int) := by omega
  have B : Below w.heap.size w (((w.alloc (.cells #[.slice (some ⟨b, o, none⟩) T.length cap] 24)).alloc (.cells #[.int .i64 n, .int .i64 i] 56)).alloc (.cells #[.int .i64 0, .int .i64 0, .int .i64 0, .int .i64 0, .int .i64 0] 91)) := below3 w _ _ _
  have N : Blk (((w.alloc (.cells #[.slice (some ⟨b, o, none⟩) T.length cap] 24)).alloc (.cells #[.int .i64 n, .int .i64 i] 56)).alloc (.cells #[.int .i64 0, .int .i64 0, .int .i64 0, .int .i64 0, .int .i64 0] 91)) (w.heap.size + 1 + 1) 91 #[.int .i64 0, .int .i64 0, .int .i64 0, .int .i64 0, .int .i64 0] := Blk.new3 _ _ _ _ _
  have c := on_some B hs
  clear hA hc hs hL
  go_enter Try.func81, Try.ntmps81
  go_wp2_with fail
  go_quiet ((go_at_call 73; first | (with_reducible exact Calls.quiet_of_same (within_q true n T.length _ h1)) | (with_reducible exact Calls.quiet_of_same (within_q false i L.length _ h2))))
  clear c
  replace B := bldrewN B nq
  replace N := N.drewN nq
  generalize (((w.alloc (.cells #[.slice (some ⟨b, o, none⟩) T.length cap] 24)).alloc (.cells #[.int .i64 n, .int .i64 i] 56)).alloc (.cells #[.int .i64 0, .int .i64 0, .int .i64 0, .int .i64 0, .int .i64 0] 91)).drewN nq = w1 at B N ⊢
  clear nq
  have K := N.put5 (.int .i64 0) (.int .i64 0) (.int .i64 0) (.int .i64 0) (.int .i64 0)
  have B2 : Below w.heap.size w _ := B.trans (below_put5 (w := w1) (B := w.heap.size) (g := w.heap.size + 1 + 1) (by omega) (.int .i64 0) (.int .i64 0) (.int .i64 0) (.int .i64 0) (.int .i64 0))
  obtain ⟨y0, y1, y2, y3, y4⟩ := N.five
  have f0 := N.free 0
  have f1 := N.free 1
  have f2 := N.free 2
  have f3 := N.free 3
  have f4 := N.free 4
  have HB := Lib.hid B2
  obtain ⟨z0, z1, z2, z3, z4⟩ := K.five
  have HK := Lib.hid K
  clear N K B B2
  go_wp2
  exact bodyPost_ret (v := .tuple #[.agg #[.int .i64 0, .int .i64 0, .int .i64 0, .int .i64 0, .int .i64 0], .bool false]) (by simp [results, Try.results81, go_sem, z0, z1, z2, z3, z4]) rfl ⟨rfl, HB.out⟩
set_option maxRecDepth 100000 in
set_option maxHeartbeats 400000 in
theorem port_yes (tv : Value) (T : List (List Pt)) (n i : Nat) (L : List Pt) (p : Pt) (w : World) (hT : PsT w tv T) (hL : T[n]? = some L) (hp : L[i]? = some p) : Calls Try.prog 81 #[.agg #[tv], .agg #[.int .i64 n, .int .i64 i]] w (PortR w (some p)) := by
  obtain ⟨A, cap, rfl, htm, hA⟩ := hT
  have hnT := (List.getElem?_eq_some_iff.1 hL).1
  have hiL := (List.getElem?_eq_some_iff.1 hp).1
  obtain ⟨b, o, rfl, hb, hc⟩ := hA (by rintro rfl; simp at hL)
  obtain ⟨s, hs, hP⟩ := hc n L hL
  obtain ⟨A2, cap2, rfl, hLm, hP2⟩ := hP
  obtain ⟨b2, o2, rfl, hb2, hc2⟩ := hP2 (by rintro rfl; simp at hp)
  have hpc := hc2 i p hp
  have h1 : inB (n : Int) T.length = true := by simp [inB]; omega
  have h2 : inB (i : Int) L.length = true := by simp [inB]; omega
  have hnz : (n : Int) < (T.length : Int) := by omega
  have hiz : (i : Int) < (L.length : Int) := by omega
  have B : Below w.heap.size w (((w.alloc (.cells #[.slice (some ⟨b, o, none⟩) T.length cap] 24)).alloc (.cells #[.int .i64 n, .int .i64 i] 56)).alloc (.cells #[.int .i64 0, .int .i64 0, .int .i64 0, .int .i64 0, .int .i64 0] 91)) := below3 w _ _ _
  have N : Blk (((w.alloc (.cells #[.slice (some ⟨b, o, none⟩) T.length cap] 24)).alloc (.cells #[.int .i64 n, .int .i64 i] 56)).alloc (.cells #[.int .i64 0, .int .i64 0, .int .i64 0, .int .i64 0, .int .i64 0] 91)) (w.heap.size + 1 + 1) 91 #[.int .i64 0, .int .i64 0, .int .i64 0, .int .i64 0, .int .i64 0] := Blk.new3 _ _ _ _ _
  have N0 : Blk (((w.alloc (.cells #[.slice (some ⟨b, o, none⟩) T.length cap] 24)).alloc (.cells #[.int .i64 n, .int .i64 i] 56)).alloc (.cells #[.int .i64 0, .int .i64 0, .int .i64 0, .int .i64 0, .int .i64 0] 91)) w.heap.size 24 #[.slice (some ⟨b, o, none⟩) T.length cap] := ((Blk.new w _ _).on (below1 _ _)).on (below1 _ _)
  have N1 : Blk (((w.alloc (.cells #[.slice (some ⟨b, o, none⟩) T.length cap] 24)).alloc (.cells #[.int .i64 n, .int .i64 i] 56)).alloc (.cells #[.int .i64 0, .int .i64 0, .int .i64 0, .int .i64 0, .int .i64 0] 91)) (w.heap.size + 1) 56 #[.int .i64 n, .int .i64 i] := (Blk.new2 w _ _ _).on (below1 _ _)
  have c := on_some B hs
  have hpc1 := hpc.on B
  clear hA hc hs hL hpc hP2 hc2 hp
  go_enter Try.func81, Try.ntmps81
  go_wp2_with fail
  go_quiet ((go_at_call 73; first | (with_reducible exact Calls.quiet_of_same (within_q true n T.length _ h1)) | (with_reducible exact Calls.quiet_of_same (within_q true i L.length _ h2))))
  have c' := on_some (bldrewN (Below.refl _ _) nq) c
  have p' := hpc1.on (bldrewN (Below.refl _ _) nq)
  replace B := bldrewN B nq
  replace N := N.drewN nq
  replace N0 := N0.drewN nq
  replace N1 := N1.drewN nq
  clear c hpc1
  generalize (((w.alloc (.cells #[.slice (some ⟨b, o, none⟩) T.length cap] 24)).alloc (.cells #[.int .i64 n, .int .i64 i] 56)).alloc (.cells #[.int .i64 0, .int .i64 0, .int .i64 0, .int .i64 0, .int .i64 0] 91)).drewN nq = w1 at B N N0 N1 c' p' ⊢
  clear nq
  have K := N.put5 (.int .i64 p.kind) (.int .i64 p.ten) (.int .i64 p.peer) (.int .i64 p.spot) (.int .i64 p.cost)
  have B2 : Below w.heap.size w _ := B.trans (below_put5 (w := w1) (B := w.heap.size) (g := w.heap.size + 1 + 1) (by omega) (.int .i64 p.kind) (.int .i64 p.ten) (.int .i64 p.peer) (.int .i64 p.spot) (.int .i64 p.cost))
  obtain ⟨y0, y1, y2, y3, y4⟩ := N.five
  obtain ⟨q0, q1, q2, q3, q4⟩ := p'
  have t0 := (N0.cell 0).trans rfl
  have s0 := (N1.cell 0).trans rfl
  have s1 := (N1.cell 1).trans rfl
  have f0 := N.free 0
  have f1 := N.free 1
  have f2 := N.free 2
  have f3 := N.free 3
  have f4 := N.free 4
  have HB := Lib.hid B2
  have HK := Lib.hid K
  clear N K B B2 N0 N1
  have mixed : Try.prog.follows Departure.mixedOrders = true := by kernel_rfl
  go_wp2_with fail
  go_big_region_o
  obtain ⟨z0, z1, z2, z3, z4⟩ := HK.out.five
  go_wp2
  exact bodyPost_ret (v := .tuple #[.agg #[.int .i64 p.kind, .int .i64 p.ten, .int .i64 p.peer, .int .i64 p.spot, .int .i64 p.cost], .bool true]) (by simp [results, Try.results81, go_sem, z0, z1, z2, z3, z4]) rfl ⟨rfl, HB.out.drew⟩
end Go.Proofs

namespace Go.Proofs.Hd
open Go.RowKit
/-- Does the port at p lead to one that leads back? -/
def ansP (T : List (List Pt)) (n i : Int) (p : Pt) : Bool := match ptAt T p.peer p.spot with
  | none => false
  | some q => !(p.peer == n) && eqP q ⟨2, 0, n, i, p.cost⟩
/-- May port i of switch n be? -/
def okP (T : List (List Pt)) (n i : Int) (p : Pt) : Bool :=
  if p.kind = 1 then inB p.ten 4 && eqP p ⟨1, p.ten, 0, 0, 0⟩ else if p.kind = 2 then decide (p.ten = 0) && decide (1 ≤ p.cost) && decide (p.cost ≤ 1000) && ansP T n i p else eqP p ⟨0, 0, 0, 0, 0⟩
/-- Are there as many switches and ports as there may be? -/
def szT (T : List (List Pt)) : Bool := decide (1 ≤ T.length) && decide (T.length ≤ 6) && T.all fun L => decide (L.length ≤ 6)
theorem szT_iff {T : List (List Pt)} : szT T = true ↔ 1 ≤ T.length ∧ T.length ≤ 6 ∧ ∀ L ∈ T, L.length ≤ 6 := by simp [szT, and_assoc]
theorem Blk.both {w : World} {g : Nat} {t : TypeId} {x0 x1 : Value} (h : Blk w g t #[x0, x1]) : w.cell? ⟨g, 0, none⟩ = some x0 ∧ w.cell? ⟨g, 1, none⟩ = some x1 := ⟨(h.cell 0).trans rfl, (h.cell 1).trans rfl⟩
theorem Blk.one {w : World} {g : Nat} {t : TypeId} {x0 : Value} (h : Blk w g t #[x0]) : w.cell? ⟨g, 0, none⟩ = some x0 := (h.cell 0).trans rfl
end Go.Proofs.Hd
namespace Go.Proofs
open Go.RowKit Go.Proofs.Hd Go.Lib
attribute [local go_sem high] run_eqP
theorem port_c (tv : Value) (T : List (List Pt)) (n i : Int) (w : World) (hT : PsT w tv T) : Calls Try.prog 81 #[.agg #[tv], .agg #[.int .i64 n, .int .i64 i]] w (PortR w (ptAt T n i)) := by
  cases h1 : inB n T.length with
  | false => rw [ptAt_far1 h1]; exact port_no1 tv T n i w hT h1
  | true =>
    obtain ⟨n', rfl⟩ : ∃ n' : Nat, n = (n' : Int) := ⟨n.toNat, by simp [inB] at h1; omega⟩
    have hn : n' < T.length := by simp [inB] at h1; omega
    have hL : T[n']? = some T[n'] := List.getElem?_eq_getElem hn
    generalize T[n'] = L at hL
    cases h2 : inB i L.length with
    | false => rw [ptAt_far2 hL h2]; exact port_no2 tv T n' i L w hT hL h2
    | true =>
      obtain ⟨i', rfl⟩ : ∃ i' : Nat, i = (i' : Int) := ⟨i.toNat, by simp [inB] at h2; omega⟩
      have hi : i' < L.length := by simp [inB] at h2; omega
      have hp : L[i']? = some L[i'] := List.getElem?_eq_getElem hi
      rw [ptAt_nat hL hp]
      exact port_yes tv T n' i' L L[i'] w hT hL hp
set_option maxRecDepth 100000 in
set_option maxHeartbeats 1000000 in
theorem ans_c (x : Bool) (tv : Value) (T : List (List Pt)) (n i : Int) (p : Pt) (w : World) (hT : PsT w tv T) (hx : ansP T n i p = x) : Calls Try.prog 74 #[.agg #[tv], .agg #[.int .i64 n, .int .i64 i], .agg #[.int .i64 p.kind, .int .i64 p.ten, .int .i64 p.peer, .int .i64 p.spot, .int .i64 p.cost]] w fun e w' => e = .returned (.bool x) ∧ Below w.heap.size w w' := by
  have B0 : Below w.heap.size w (((w.alloc (.cells #[tv] 24)).alloc (.cells #[.int .i64 n, .int .i64 i] 56)).alloc (.cells #[.int .i64 p.kind, .int .i64 p.ten, .int .i64 p.peer, .int .i64 p.spot, .int .i64 p.cost] 91)) := below3 w _ _ _
  have N0 : Hid (Blk (((w.alloc (.cells #[tv] 24)).alloc (.cells #[.int .i64 n, .int .i64 i] 56)).alloc (.cells #[.int .i64 p.kind, .int .i64 p.ten, .int .i64 p.peer, .int .i64 p.spot, .int .i64 p.cost] 91)) w.heap.size 24 #[tv]) := ((Blk.new w _ _).on (below1 _ _)).on (below1 _ _)
  have N1 : Hid (Blk (((w.alloc (.cells #[tv] 24)).alloc (.cells #[.int .i64 n, .int .i64 i] 56)).alloc (.cells #[.int .i64 p.kind, .int .i64 p.ten, .int .i64 p.peer, .int .i64 p.spot, .int .i64 p.cost] 91)) (w.heap.size + 1) 56 #[.int .i64 n, .int .i64 i]) := (Blk.new2 w _ _ _).on (below1 _ _)
  have N2 : Hid (Blk (((w.alloc (.cells #[tv] 24)).alloc (.cells #[.int .i64 n, .int .i64 i] 56)).alloc (.cells #[.int .i64 p.kind, .int .i64 p.ten, .int .i64 p.peer, .int .i64 p.spot, .int .i64 p.cost] 91)) (w.heap.size + 1 + 1) 91 #[.int .i64 p.kind, .int .i64 p.ten, .int .i64 p.peer, .int .i64 p.spot, .int .i64 p.cost]) := Blk.new3 _ _ _ _ _
  have hcon := port_c tv T p.peer p.spot _ (hT.on B0)
  obtain ⟨A, cap, rfl⟩ := hT.form
  obtain ⟨kd, tn, pr, sp, co⟩ := p
  dsimp only at hcon B0 N0 N1 N2 ⊢
  unfold ansP at hx
  dsimp only at hx
  cases hq : ptAt T pr sp with
  | none =>
    rw [hq] at hcon hx
    simp only at hx
    subst hx
    clear hq hT
    go_enter Try.func74, Try.ntmps74
    go_wp2_with fail
    (with_reducible refine hcon.mono ?_)
    rintro e w1 ⟨he, hb⟩
    simp only at he
    subst he
    obtain ⟨s0, s1⟩ := (N1.out.on hb).both
    obtain ⟨p0, p1, p2, p3, p4⟩ := (N2.out.on hb).five
    have HB := Lib.hid (B0.trans (hb.mono B0.size))
    have g1 := (N1.out.on hb).lt
    have g2 := (N2.out.on hb).lt
    have g3 := Nat.ne_of_lt g1
    have g4 := Nat.ne_of_lt g2
    have g5 : ¬ w.heap.size = w1.heap.size := by omega
    clear hcon N0 N1 N2 B0 hb
    go_wp2
    go_ret
    exact ⟨rfl, HB.out.trans ((below2 w1 _ _).mono HB.out.size)⟩
  | some q =>
    rw [hq] at hcon hx
    obtain ⟨qk, qt, qp, qs, qc⟩ := q
    simp only at hx
    clear hq hT
    go_enter Try.func74, Try.ntmps74
    go_wp2_with fail
    (with_reducible refine hcon.mono ?_)
    rintro e w1 ⟨he, hb⟩
    simp only at he
    subst he
    obtain ⟨s0, s1⟩ := (N1.out.on hb).both
    obtain ⟨p0, p1, p2, p3, p4⟩ := (N2.out.on hb).five
    have HB := Lib.hid (B0.trans (hb.mono B0.size))
    have g1 := (N1.out.on hb).lt
    have g2 := (N2.out.on hb).lt
    have g3 := Nat.ne_of_lt g1
    have g4 := Nat.ne_of_lt g2
    have g5 : ¬ w.heap.size = w1.heap.size := by omega
    clear hcon N0 N1 N2 B0 hb
    have s0' := on_some (below2 w1 (.cells #[.int .i64 qk, .int .i64 qt, .int .i64 qp, .int .i64 qs, .int .i64 qc] 91) (.cells #[.int .i64 2, .int .i64 0, .int .i64 n, .int .i64 i, .int .i64 co] 91)) s0
    have p2' := on_some (below2 w1 (.cells #[.int .i64 qk, .int .i64 qt, .int .i64 qp, .int .i64 qs, .int .i64 qc] 91) (.cells #[.int .i64 2, .int .i64 0, .int .i64 n, .int .i64 i, .int .i64 co] 91)) p2
    by_cases hpn : pr = n
    · have hx2 : x = false := by rw [← hx, beq_iff_eq.2 hpn]; rfl
      subst hx2
      subst hpn
      go_wp2
      go_ret
      exact ⟨rfl, HB.out.trans ((below2 w1 _ _).mono HB.out.size)⟩
    · have hx2 : eqP ⟨qk, qt, qp, qs, qc⟩ ⟨2, 0, n, i, co⟩ = x := by rw [← hx, beq_false_of_ne hpn]; rfl
      go_wp2
      go_ret
      have hbn : (pr != n) = true := by simp [hpn]
      exact ⟨by show Ending.returned (Value.bool (pr != n && x)) = _; rw [hbn]; rfl, HB.out.trans ((below2 w1 _ _).mono HB.out.size)⟩
set_option maxRecDepth 100000 in
set_option maxHeartbeats 1000000 in
theorem formed_c (x : Bool) (tv : Value) (T : List (List Pt)) (n i : Int) (p : Pt) (w : World) (hT : PsT w tv T) (hx : okP T n i p = x) : Calls Try.prog 56 #[.agg #[tv], .agg #[.int .i64 n, .int .i64 i], .agg #[.int .i64 p.kind, .int .i64 p.ten, .int .i64 p.peer, .int .i64 p.spot, .int .i64 p.cost]] w fun e w' => e = .returned (.bool x) ∧ Below w.heap.size w w' := by
  have B0 : Below w.heap.size w (((w.alloc (.cells #[tv] 24)).alloc (.cells #[.int .i64 n, .int .i64 i] 56)).alloc (.cells #[.int .i64 p.kind, .int .i64 p.ten, .int .i64 p.peer, .int .i64 p.spot, .int .i64 p.cost] 91)) := below3 w _ _ _
  have N0 : Hid (Blk (((w.alloc (.cells #[tv] 24)).alloc (.cells #[.int .i64 n, .int .i64 i] 56)).alloc (.cells #[.int .i64 p.kind, .int .i64 p.ten, .int .i64 p.peer, .int .i64 p.spot, .int .i64 p.cost] 91)) w.heap.size 24 #[tv]) := ((Blk.new w _ _).on (below1 _ _)).on (below1 _ _)
  have N1 : Hid (Blk (((w.alloc (.cells #[tv] 24)).alloc (.cells #[.int .i64 n, .int .i64 i] 56)).alloc (.cells #[.int .i64 p.kind, .int .i64 p.ten, .int .i64 p.peer, .int .i64 p.spot, .int .i64 p.cost] 91)) (w.heap.size + 1) 56 #[.int .i64 n, .int .i64 i]) := (Blk.new2 w _ _ _).on (below1 _ _)
  have N2 : Hid (Blk (((w.alloc (.cells #[tv] 24)).alloc (.cells #[.int .i64 n, .int .i64 i] 56)).alloc (.cells #[.int .i64 p.kind, .int .i64 p.ten, .int .i64 p.peer, .int .i64 p.spot, .int .i64 p.cost] 91)) (w.heap.size + 1 + 1) 91 #[.int .i64 p.kind, .int .i64 p.ten, .int .i64 p.peer, .int .i64 p.spot, .int .i64 p.cost]) := Blk.new3 _ _ _ _ _
  obtain ⟨A, cap, rfl⟩ := hT.form
  obtain ⟨kd, tn, pr, sp, co⟩ := p
  dsimp only at B0 N0 N1 N2 ⊢
  have HT := Lib.hid hT
  clear hT
  unfold okP at hx
  dsimp only at hx
  by_cases k1 : kd = 1
  · rw [if_pos k1] at hx
    subst k1
    cases hb : inB tn 4 with
    | false =>
      rw [hb] at hx
      simp at hx
      subst hx
      go_enter Try.func56, Try.ntmps56
      go_wp2_with fail
      (with_reducible refine (within_c false tn 4 _ hb).mono ?_)
      rintro e w1 ⟨rfl, rfl⟩
      go_wp2
      go_ret
      exact ⟨rfl, B0⟩
    | true =>
      rw [hb, Bool.true_and] at hx
      go_enter Try.func56, Try.ntmps56
      go_wp2_with fail
      (with_reducible refine (within_c true tn 4 _ hb).mono ?_)
      rintro e w1 ⟨rfl, rfl⟩
      go_wp2
      go_ret
      exact ⟨rfl, B0⟩
  · rw [if_neg k1] at hx
    by_cases k2 : kd = 2
    · rw [if_pos k2] at hx
      subst k2
      by_cases h0 : tn = 0
      · rw [decide_eq_true h0] at hx
        subst h0
        by_cases h1 : 1 ≤ co
        · by_cases h2 : co ≤ 1000
          · rw [decide_eq_true h1, decide_eq_true h2, Bool.true_and, Bool.true_and, Bool.true_and] at hx
            go_enter Try.func56, Try.ntmps56
            go_wp2_with fail
            (with_reducible refine (ans_c x _ T n i ⟨2, 0, pr, sp, co⟩ _ (HT.out.on B0) hx).mono ?_)
            rintro e w1 ⟨rfl, hb⟩
            have HB := Lib.hid (B0.trans (hb.mono B0.size))
            clear B0 hb N0 N1 N2
            go_wp2
            go_ret
            exact ⟨rfl, HB.out⟩
          · rw [decide_eq_false h2] at hx
            simp at hx
            subst hx
            go_enter Try.func56, Try.ntmps56
            go_wp2
            go_ret
            exact ⟨rfl, B0⟩
        · rw [decide_eq_false h1] at hx
          simp at hx
          subst hx
          go_enter Try.func56, Try.ntmps56
          go_wp2
          go_ret
          exact ⟨rfl, B0⟩
      · rw [decide_eq_false h0] at hx
        simp at hx
        subst hx
        go_enter Try.func56, Try.ntmps56
        go_wp2
        go_ret
        exact ⟨rfl, B0⟩
    · rw [if_neg k2] at hx
      go_enter Try.func56, Try.ntmps56
      go_wp2
      go_ret
      exact ⟨rfl, B0⟩
end Go.Proofs

namespace Go.Proofs.Hd
open Go.RowKit
/-- May the ports of the first k switches be? -/
def okTo (T : List (List Pt)) (k : Nat) : Prop := ∀ (n i : Nat) (L : List Pt) (p : Pt), n < k → T[n]? = some L → L[i]? = some p → okP T n i p = true
/-- May the first j ports of switch n be? -/
def okUp (T : List (List Pt)) (n : Nat) (L : List Pt) (j : Nat) : Prop := ∀ (i : Nat) (p : Pt), i < j → L[i]? = some p → okP T n i p = true
open Classical in
/-- What Sound says. -/
noncomputable def sTp (T : List (List Pt)) : Int := if szT T = false then 4 else if okTo T T.length then 0 else 2
theorem sTp_range {T : List (List Pt)} (h : szT T = false) : sTp T = 4 := by unfold sTp; rw [if_pos h]
theorem sTp_ok {T : List (List Pt)} (h : szT T = true) (h2 : okTo T T.length) : sTp T = 0 := by unfold sTp; rw [if_neg (by rw [h]; decide), if_pos h2]
theorem sTp_form {T : List (List Pt)} (h : szT T = true) {n i : Nat} {L : List Pt} {p : Pt} (hL : T[n]? = some L) (hp : L[i]? = some p) (hx : okP T n i p = false) : sTp T = 2 := by
  unfold sTp
  rw [if_neg (by rw [h]; decide), if_neg]
  intro hk
  rw [hk n i L p (List.getElem?_eq_some_iff.1 hL).1 hL hp] at hx
  cases hx
theorem sTp_zero {T : List (List Pt)} (h : sTp T = 0) : szT T = true ∧ okTo T T.length := by
  unfold sTp at h
  split at h
  · cases h
  · split at h
    · rename_i h1 h2
      exact ⟨by simpa using h1, h2⟩
    · cases h
theorem okTo_succ {T : List (List Pt)} {n : Nat} {L : List Pt} (h : okTo T n) (hL : T[n]? = some L) (hu : okUp T n L L.length) : okTo T (n + 1) := by
  intro n' i L' p hn hL' hp
  by_cases e : n' = n
  · subst e
    rw [hL] at hL'
    injection hL' with hL'
    subst hL'
    exact hu i p (List.getElem?_eq_some_iff.1 hp).1 hp
  · exact h n' i L' p (by omega) hL' hp
theorem okUp_succ {T : List (List Pt)} {n i : Nat} {L : List Pt} {p : Pt} (h : okUp T n L i) (hp : L[i]? = some p) (hx : okP T n i p = true) : okUp T n L (i + 1) := by
  intro i' p' hi hp'
  by_cases e : i' = i
  · subst e
    rw [hp] at hp'
    injection hp' with hp'
    subst hp'
    exact hx
  · exact h i' p' (by omega) hp'
end Go.Proofs.Hd
namespace Go.Proofs
open Go.RowKit Go.Proofs.Hd Go.Lib
set_option maxRecDepth 100000 in
set_option maxHeartbeats 1000000 in
theorem sized_c (x : Bool) (tv : Value) (T : List (List Pt)) (w : World) (hT : PsT w tv T) (hx : szT T = x) : Calls Try.prog 55 #[.agg #[tv]] w fun e w' => e = .returned (.bool x) ∧ Below w.heap.size w w' := by
  obtain ⟨A, cap, rfl, htm, hA⟩ := hT
  have HB := Lib.hid (below1 w (.cells #[.slice A T.length cap] 24))
  have htz : (T.length : Int) ≤ 9223372036854775807 := by unfold maxLen at htm; omega
  by_cases h1 : 1 ≤ T.length
  · by_cases h6 : T.length ≤ 6
    · have hz1 : ¬ (T.length : Int) < 1 := by omega
      have hz6 : ¬ (6 : Int) < (T.length : Int) := by omega
      obtain ⟨b, o, rfl, hb0, hc⟩ := hA (by rintro rfl; simp at h1)
      have hx2 : (T.all fun L => decide (L.length ≤ 6)) = x := by rw [← hx]; simp [szT, h1, h6]
      have HC := Lib.hid hc
      have HX := Lib.hid hx2
      clear hc hA hx hx2
      go_enter Try.func55, Try.ntmps55
      go_wp2
      go_loopg [4, 18] T.length (fun gk _ s18 wr => ∃ (k : Nat), k ≤ T.length ∧ gk = T.length - k ∧ s18 = .int .i64 k ∧ Hid (∀ j L, j < k → T[j]? = some L → L.length ≤ 6) ∧ Hid (Below w.heap.size w wr))
      case atStart => exact ⟨0, Nat.zero_le _, rfl, rfl, fun j L hj => absurd hj (Nat.not_lt_zero _), HB⟩
      case round =>
        clear HB
        obtain ⟨k, hk, rfl, rfl, HN, HW⟩ := hrel
        by_cases hlt : k < T.length
        · have hltz : (k : Int) < (T.length : Int) := by omega
          obtain ⟨L, hTL⟩ : ∃ L, T[k]? = some L := ⟨_, List.getElem?_eq_getElem hlt⟩
          obtain ⟨s, hcell0, A1, c1, rfl, _⟩ := HC.out k L hTL
          have hcell := on_some HW.out hcell0
          have HTL := Lib.hid hTL
          clear hTL hcell0
          by_cases hl6 : L.length ≤ 6
          · have hl6z : ¬ (6 : Int) < (L.length : Int) := by omega
            have HN2 : Hid (∀ j L, j < k + 1 → T[j]? = some L → L.length ≤ 6) := fun j L' hj hL' => by
              by_cases e : j = k
              · subst e
                rw [HTL.out] at hL'
                injection hL' with hL'
                subst hL'
                exact hl6
              · exact HN.out j L' (by omega) hL'
            clear HN
            go_wp2
            go_roundg (T.length - (k + 1))
            case measure => omega
            case rel => exact ⟨k + 1, by omega, rfl, by go_num, HN2, HW⟩
          · have hl6z : (6 : Int) < (L.length : Int) := by omega
            have HE : Hid (x = false) := by
              show _ = _
              rw [← HX.out, List.all_eq_false]
              exact ⟨L, List.mem_of_getElem? HTL.out, by simpa using hl6⟩
            clear HN HX
            go_wp2
            go_ret
            exact ⟨by rw [HE.out]; rfl, HW.out⟩
        · have hltz : ¬ (k : Int) < (T.length : Int) := by omega
          have HE : Hid (x = true) := by
            show _ = _
            rw [← HX.out, List.all_eq_true]
            intro L hL
            obtain ⟨j, hj⟩ := List.getElem?_of_mem hL
            have := (List.getElem?_eq_some_iff.1 hj).1
            exact decide_eq_true (HN.out j L (by omega) hj)
          clear HN HX
          go_wp2
          go_ret
          exact ⟨by rw [HE.out]; rfl, HW.out⟩
    · have hz1 : ¬ (T.length : Int) < 1 := by omega
      have hz6 : (6 : Int) < (T.length : Int) := by omega
      have hx2 : x = false := by rw [← hx]; simp [szT, h6]
      subst hx2
      clear hA hx
      go_enter Try.func55, Try.ntmps55
      go_wp2
      go_ret
      exact ⟨rfl, HB.out⟩
  · have hx2 : x = false := by rw [← hx]; simp [szT, h1]
    have h0 : T.length = 0 := by omega
    subst hx2
    clear hA hx
    rw [h0] at HB ⊢
    go_enter Try.func55, Try.ntmps55
    go_wp2
    go_ret
    exact ⟨rfl, HB.out⟩
set_option maxRecDepth 100000 in
set_option maxHeartbeats 2000000 in
theorem tpsound_c (tv : Value) (T : List (List Pt)) (w : World) (hT : PsT w tv T) : Calls Try.prog 38 #[.agg #[tv]] w fun e w' => e = .returned (.int .i64 (sTp T)) ∧ Below w.heap.size w w' := by
  have HT := Lib.hid hT
  obtain ⟨A, cap, rfl, htm, hA⟩ := hT
  have B0 := below1 w (.cells #[.slice A T.length cap] 24)
  have N0 : Hid (Blk (w.alloc (.cells #[.slice A T.length cap] 24)) w.heap.size 24 #[.slice A T.length cap]) := Blk.new w _ _
  have htz : (T.length : Int) ≤ 9223372036854775807 := by unfold maxLen at htm; omega
  cases hs : szT T with
  | false =>
    have HE := Lib.hid (sTp_range hs)
    clear hA
    go_enter Try.func38, Try.ntmps38
    go_wp2_with fail
    (with_reducible refine (sized_c false _ T _ (HT.out.on B0) hs).mono ?_)
    rintro e w1 ⟨rfl, hb⟩
    have HB := Lib.hid (B0.trans (hb.mono B0.size))
    clear hb B0 N0
    go_wp2
    go_ret
    exact ⟨by rw [HE.out]; rfl, HB.out⟩
  | true =>
    obtain ⟨h1, h6, hl6⟩ := szT_iff.1 hs
    obtain ⟨b, o, rfl, hb0, hc⟩ := hA (by rintro rfl; simp at h1)
    have HC := Lib.hid hc
    have HL6 := Lib.hid hl6
    clear hA hc hl6
    go_enter Try.func38, Try.ntmps38
    go_wp2_with fail
    (with_reducible refine (sized_c true _ T _ (HT.out.on B0) hs).mono ?_)
    rintro e w1 ⟨rfl, hb⟩
    have HB := Lib.hid (B0.trans (hb.mono B0.size))
    have hz := (N0.out.on hb).lt
    have d0 := (N0.out.on hb).one
    have N1 := Lib.hid (N0.out.on hb)
    clear hb B0 N0
    go_wp2
    clear d0
    go_loopg [3, 4, 5, 6, 13, 20] T.length (fun gn s3 s4 s5 s6 s13 s20 wn => ∃ (n : Nat), n ≤ T.length ∧ gn = T.length - n ∧ s13 = .int .i64 n ∧ Hid (okTo T n) ∧ Hid (Blk wn w.heap.size 24 #[.slice (some ⟨b, o, none⟩) T.length cap]) ∧ Hid (Below w.heap.size w wn))
    case atStart => exact ⟨0, Nat.zero_le _, rfl, rfl, fun n i L p hn => absurd hn (Nat.not_lt_zero _), N1, HB⟩
    case round =>
      clear HB N1 hz
      obtain ⟨n, hn, rfl, rfl, HO, NB, HB⟩ := hrel
      by_cases hnt : n < T.length
      · have hntz : (n : Int) < (T.length : Int) := by omega
        obtain ⟨L, hTL⟩ : ∃ L, T[n]? = some L := ⟨_, List.getElem?_eq_getElem hnt⟩
        obtain ⟨s, hcell0, A1, c1, rfl, hLm, hA1⟩ := HC.out n L hTL
        have hcell := on_some HB.out hcell0
        have HA1 := Lib.hid hA1
        have HTL := Lib.hid hTL
        have hLz : (L.length : Int) ≤ 6 := by have := HL6.out L (List.mem_of_getElem? hTL); omega
        clear hTL hcell0 hA1
        go_wp2
        go_loopg [5, 6, 20] L.length (fun gi s5 s6 s20 wi => ∃ (i : Nat), i ≤ L.length ∧ gi = L.length - i ∧ s20 = .int .i64 i ∧ Hid (okUp T n L i) ∧ Hid (Blk wi w.heap.size 24 #[.slice (some ⟨b, o, none⟩) T.length cap]) ∧ Hid (Below w.heap.size w wi))
        case atStart => exact ⟨0, Nat.zero_le _, rfl, rfl, fun i p hi => absurd hi (Nat.not_lt_zero _), NB, HB⟩
        case round =>
          clear HB NB hcell
          obtain ⟨i, hi, rfl, rfl, HI, NB, HB⟩ := hrel
          by_cases hit : i < L.length
          · have hitz : (i : Int) < (L.length : Int) := by omega
            obtain ⟨p, hp⟩ : ∃ p, L[i]? = some p := ⟨_, List.getElem?_eq_getElem hit⟩
            obtain ⟨b1, o1, rfl, _, hpc⟩ := HA1.out (by rintro rfl; simp at hit)
            obtain ⟨c0, c1', c2, c3, c4⟩ := (hpc i p hp).on HB.out
            have hb1 := below1 wr (.cells #[.int .i64 p.kind, .int .i64 p.ten, .int .i64 p.peer, .int .i64 p.spot, .int .i64 p.cost] 91)
            have HB1 := Lib.hid (HB.out.trans (hb1.mono HB.out.size))
            have NB1 := Lib.hid (NB.out.on hb1)
            have hz := NB.out.lt
            have hzn := Nat.ne_of_lt hz
            have d0 := NB.out.one
            have HR := Lib.hid hp
            clear hp hpc hb1 HB NB
            cases hx : okP T n i p with
            | false =>
              have HE := Lib.hid (sTp_form hs HTL.out HR.out hx)
              go_wp2_with fail
              (with_reducible refine (formed_c false _ T n i p _ (HT.out.on HB1.out) hx).mono ?_)
              rintro e w2 ⟨rfl, hb2⟩
              have B2 := Lib.hid (HB1.out.trans (hb2.mono HB1.out.size))
              clear HB1 hb2 NB1 c0 c1' c2 c3 c4 d0
              go_wp2
              go_ret
              exact ⟨by rw [HE.out]; rfl, B2.out⟩
            | true =>
              have HI2 := Lib.hid (okUp_succ HI.out HR.out hx)
              go_wp2_with fail
              (with_reducible refine (formed_c true _ T n i p _ (HT.out.on HB1.out) hx).mono ?_)
              rintro e w2 ⟨rfl, hb2⟩
              have HB2 := Lib.hid (HB1.out.trans (hb2.mono HB1.out.size))
              have NB2 := Lib.hid (NB1.out.on hb2)
              clear HB1 hb2 NB1 c0 c1' c2 c3 c4 d0
              go_wp2
              go_roundg (L.length - (i + 1))
              case measure => omega
              case rel => exact ⟨i + 1, by omega, rfl, by go_num, HI2, NB2, HB2⟩
          · have hitz : ¬ (i : Int) < (L.length : Int) := by omega
            obtain rfl : i = L.length := by omega
            have HO2 := Lib.hid (okTo_succ HO.out HTL.out HI.out)
            go_wp2
            go_roundg (T.length - (n + 1))
            case measure => omega
            case rel => exact ⟨n + 1, by omega, rfl, by go_num, HO2, NB, HB⟩
      · have hntz : ¬ (n : Int) < (T.length : Int) := by omega
        obtain rfl : n = T.length := by omega
        have HE := Lib.hid (sTp_ok hs HO.out)
        clear HC HO
        go_wp2
        go_ret
        exact ⟨by rw [HE.out]; rfl, HB.out⟩
end Go.Proofs

namespace Go.Proofs.Hd
/-- A switch, and the cost of a way to it. -/
abbrev Rc := Nat × Nat
end Go.Proofs.Hd

namespace Go.Proofs.Hd
open Go.RowKit
/-- Spots as cells. -/
def flS : List Rc → List Value
  | [] => []
  | x :: E => .int .i64 x.1 :: .int .i64 x.2 :: flS E
theorem flS_append (A B : List Rc) : flS (A ++ B) = flS A ++ flS B := by
  induction A with
  | nil => rfl
  | cons x A ih => simp [flS, ih]
theorem flS_get : ∀ {E : List Rc} {k : Nat} {x : Rc}, E[k]? = some x → (flS E)[k * 2]? = some (.int .i64 x.1) ∧ (flS E)[k * 2 + 1]? = some (.int .i64 x.2)
  | [], k, x, h => by simp at h
  | y :: E, 0, x, h => by simp at h; subst h; exact ⟨rfl, rfl⟩
  | y :: E, k + 1, x, h => by
    have h' : E[k]? = some x := by simpa using h
    have := flS_get h'
    rw [show (k + 1) * 2 = k * 2 + 1 + 1 from by omega]
    exact this
/-- The edges among the first j ports of switch n. -/
def eUp (n : Nat) (L : List Pt) (j : Nat) : List Rc := (List.range j).filterMap fun i => match L[i]? with
  | some p => if p.kind = 1 then some (n, i) else none
  | none => none
/-- The edges of the first k switches. -/
def eTo (T : List (List Pt)) (k : Nat) : List Rc := (List.range k).flatMap fun n => match T[n]? with
  | some L => eUp n L L.length
  | none => []
theorem eUp_succ {n : Nat} {L : List Pt} {j : Nat} {p : Pt} (h : L[j]? = some p) : eUp n L (j + 1) = eUp n L j ++ (if p.kind = 1 then [(n, j)] else []) := by
  unfold eUp
  rw [List.range_succ, List.filterMap_append]
  congr 1
  by_cases hk : p.kind = 1 <;> simp [h, hk]
theorem eTo_succ {T : List (List Pt)} {k : Nat} {L : List Pt} (h : T[k]? = some L) : eTo T (k + 1) = eTo T k ++ eUp k L L.length := by
  unfold eTo
  rw [List.range_succ, List.flatMap_append]
  simp [h]
theorem eUp_len (n : Nat) (L : List Pt) (j : Nat) : (eUp n L j).length ≤ j := by
  unfold eUp
  exact Nat.le_trans (List.length_filterMap_le _ _) (by simp)
/-- How many ports there are. -/
def ports (T : List (List Pt)) : Nat := (T.map List.length).sum
theorem take_sum {T : List (List Pt)} {k : Nat} {L : List Pt} (h : T[k]? = some L) : ((T.take (k + 1)).map List.length).sum = ((T.take k).map List.length).sum + L.length := by
  rw [List.take_add_one, h, List.map_append, List.sum_append]
  simp
theorem eTo_len (T : List (List Pt)) : ∀ k, k ≤ T.length → (eTo T k).length ≤ ((T.take k).map List.length).sum
  | 0, _ => by simp [eTo]
  | k + 1, h => by
    have hL : T[k]? = some T[k] := List.getElem?_eq_getElem (by omega)
    rw [eTo_succ hL, List.length_append, take_sum hL]
    have h1 := eTo_len T k (by omega)
    have h2 := eUp_len k T[k] T[k].length
    omega
theorem take_le (T : List (List Pt)) (k : Nat) : ((T.take k).map List.length).sum ≤ ports T := by
  unfold ports
  conv => rhs; rw [← List.take_append_drop k T]
  rw [List.map_append, List.sum_append]
  omega
theorem edges_le {T : List (List Pt)} {n i : Nat} {L : List Pt} (hL : T[n]? = some L) (hi : i ≤ L.length) : (eTo T n ++ eUp n L i).length ≤ ports T := by
  have hn := (List.getElem?_eq_some_iff.1 hL).1
  rw [List.length_append]
  have h1 := eTo_len T n (by omega)
  have h2 := eUp_len n L i
  have h3 := take_le T (n + 1)
  rw [take_sum hL] at h3
  omega
theorem src_spot {w : World} {b : Nat} {x y : Int} (h : Blk w b 56 #[.int .i64 x, .int .i64 y]) : Src w 2 (.slice (some ⟨b, 0, none⟩) 1 1) 1 [.int .i64 x, .int .i64 y] := by
  refine ⟨rfl, by intro u hu; simp at hu; rcases hu with rfl | rfl <;> rfl, .inr ⟨_, 1, rfl, fun j u hu => ?_⟩⟩
  have e : (⟨b, 0, none⟩ : Addr).add j = ⟨b, j, none⟩ := by unfold Addr.add; by_cases h0 : j = 0 <;> simp [h0]
  rw [e, h.cell]
  simpa using hu
theorem infoSpot : (Try.prog.info? 56).map (fun i => (i.zero, i.size, i.bytes)) = some (some (.agg #[.int .i64 0, .int .i64 0]), 2, 16) := by kernel_rfl
/-- Spots were returned, in memory of the call's own. -/
def GotE (w : World) (E : List Rc) (e : Ending) (w' : World) : Prop := ∃ v, e = .returned v ∧ w'.ownsRow w.heap.size 56 2 v E.length (flS E) ∧ Below w.heap.size w w'
end Go.Proofs.Hd
namespace Go.Proofs
open Go.RowKit Go.Proofs.Hd Go.Lib
set_option maxRecDepth 100000 in
set_option maxHeartbeats 2000000 in
theorem edges_c (tv : Value) (T : List (List Pt)) (w : World) (hT : PsT w tv T) (hP : ports T ≤ 2000000) : Calls Try.prog 21 #[.agg #[tv]] w (GotE w (eTo T T.length)) := by
  obtain ⟨i2, hi2, hz0, hz1, hz2⟩ := info_parts infoSpot
  obtain ⟨A, cap, rfl, htm, hA⟩ := hT
  have htz : (T.length : Int) ≤ 9223372036854775807 := by unfold maxLen at htm; omega
  have HB := Lib.hid (below1 w (.cells #[.slice A T.length cap] 24))
  have HA := Lib.hid hA
  have O0 : Hid ((w.alloc (.cells #[.slice A T.length cap] 24)).ownsRow w.heap.size 56 2 (.slice none 0 0) (eTo T 0).length (flS (eTo T 0))) := World.ownsRow_nil _ _ _ _
  clear hA
  go_enter Try.func21, Try.ntmps21
  go_wp2
  go_loopg [3, 4, 5, 6, 7, 11, 18] T.length (fun gn s3 _ _ _ _ s11 _ wn => ∃ (n : Nat), n ≤ T.length ∧ gn = T.length - n ∧ s11 = .int .i64 n ∧ Hid (wn.ownsRow w.heap.size 56 2 s3 (eTo T n).length (flS (eTo T n))) ∧ Hid (Below w.heap.size w wn))
  case atStart => exact ⟨0, Nat.zero_le _, rfl, rfl, O0, HB⟩
  case round =>
    clear HB O0
    obtain ⟨n, hn, rfl, rfl, HO, HB⟩ := hrel
    by_cases hnt : n < T.length
    · have hntz : (n : Int) < (T.length : Int) := by omega
      obtain ⟨L, hTL⟩ : ∃ L, T[n]? = some L := ⟨_, List.getElem?_eq_getElem hnt⟩
      obtain ⟨b, o, rfl, _, hc⟩ := HA.out (by rintro rfl; simp at hnt)
      obtain ⟨s, hcell0, A1, c1, rfl, hLm, hA1⟩ := hc n L hTL
      have hcell := on_some HB.out hcell0
      have HA1 := Lib.hid hA1
      have HTL := Lib.hid hTL
      have hLz : (L.length : Int) ≤ 9223372036854775807 := by unfold maxLen at hLm; omega
      have HO1 := HO
      rw [show eTo T n = eTo T n ++ eUp n L 0 from (List.append_nil _).symm] at HO1
      clear hTL hcell0 hA1 hc HO
      go_wp2
      clear hcell
      go_loopg [3, 6, 7, 18] L.length (fun gi s3 _ _ s18 wi => ∃ (i : Nat), i ≤ L.length ∧ gi = L.length - i ∧ s18 = .int .i64 i ∧ Hid (wi.ownsRow w.heap.size 56 2 s3 (eTo T n ++ eUp n L i).length (flS (eTo T n ++ eUp n L i))) ∧ Hid (Below w.heap.size w wi))
      case atStart => exact ⟨0, Nat.zero_le _, rfl, rfl, HO1, HB⟩
      case round =>
        clear HB HO1
        obtain ⟨i, hi, rfl, rfl, HO, HB⟩ := hrel
        by_cases hit : i < L.length
        · have hitz : (i : Int) < (L.length : Int) := by omega
          obtain ⟨p, hp⟩ : ∃ p, L[i]? = some p := ⟨_, List.getElem?_eq_getElem hit⟩
          obtain ⟨b1, o1, rfl, _, hpc⟩ := HA1.out (by rintro rfl; simp at hit)
          have hap := (hpc i p hp).on HB.out
          have hes := eUp_succ (n := n) hp
          have hlen := edges_le HTL.out (Nat.le_of_lt hit)
          obtain ⟨E, hE⟩ : ∃ E, Hid (eTo T n ++ eUp n L i = E) := ⟨_, rfl⟩
          rw [hE.out] at HO hlen
          obtain ⟨kd, tn, pr, sp, co⟩ := p
          obtain ⟨d0, d1, d2, d3, d4⟩ := hap
          have hb1 := below1 wr (.cells #[.int .i64 kd, .int .i64 tn, .int .i64 pr, .int .i64 sp, .int .i64 co] 91)
          have HB1 := Lib.hid (HB.out.trans (hb1.mono HB.out.size))
          have HO1 := Lib.hid (own_on HO.out hb1)
          clear hp hpc HB HO hb1
          by_cases hk : kd = 1
          · simp only [hk, if_true] at hes
            subst hk
            have HE2 : Hid (eTo T n ++ eUp n L (i + 1) = E ++ [(n, i)]) := by show _ = _; rw [hes, ← List.append_assoc, hE.out]
            have hb2 := below1 (wr.alloc (.cells #[.int .i64 1, .int .i64 tn, .int .i64 pr, .int .i64 sp, .int .i64 co] 91)) (.cells #[.int .i64 n, .int .i64 i] 56)
            have HB2 := Lib.hid (HB1.out.trans (hb2.mono HB1.out.size))
            have O2 := own_on HO1.out hb2
            have SR := src_spot (Blk.new2 wr (.cells #[.int .i64 1, .int .i64 tn, .int .i64 pr, .int .i64 sp, .int .i64 co] 91) 56 #[.int .i64 n, .int .i64 i])
            have hz3 := HB2.out.size
            clear hes HO1 HB1 hb2
            go_wp2_with (at_builtin; refine wpList_app _ rfl (.tmp 26) (.tmp 30) 73 rfl w.heap.size 56 i2 _ 2 16 Try.underlying73 hi2 hz0 hz1 hz2 rfl (by decide) _ E.length (flS E) rfl O2 _ 1 [.int .i64 n, .int .i64 i] rfl SR (by unfold maxLen; omega) (by omega) hz3 ?_)
            intro v3 w3 O3 hg3
            have HB3 := Lib.hid (HB2.out.grown hg3 hz3 (fun j hj => (O2.lt j hj).1))
            have HO3 : Hid (w3.ownsRow w.heap.size 56 2 v3 (eTo T n ++ eUp n L (i + 1)).length (flS (eTo T n ++ eUp n L (i + 1)))) := by
              show World.ownsRow _ _ _ _ _ _ _
              rw [HE2.out, flS_append, List.length_append]; exact O3
            clear O2 SR O3 hg3 HB2 hz3 d0 d1 d2 d3 d4
            go_wp2
            go_roundg (L.length - (i + 1))
            case measure => omega
            case rel => exact ⟨i + 1, by omega, rfl, by go_num, HO3, HB3⟩
          · simp only [hk, if_false, List.append_nil] at hes
            have HO3 := HO1
            rw [show E = eTo T n ++ eUp n L (i + 1) from by rw [hes, hE.out]] at HO3
            clear hes HO1
            go_wp2
            go_roundg (L.length - (i + 1))
            case measure => omega
            case rel => exact ⟨i + 1, by omega, rfl, by go_num, HO3, HB1⟩
        · have hitz : ¬ (i : Int) < (L.length : Int) := by omega
          obtain rfl : i = L.length := by omega
          have HO2 := HO
          rw [← eTo_succ HTL.out] at HO2
          clear HO
          go_wp2
          go_roundg (T.length - (n + 1))
          case measure => omega
          case rel => exact ⟨n + 1, by omega, rfl, by go_num, HO2, HB⟩
    · have hntz : ¬ (n : Int) < (T.length : Int) := by omega
      obtain rfl : n = T.length := by omega
      go_wp2
      go_ret
      exact ⟨_, rfl, HO.out, HB.out⟩
end Go.Proofs

namespace Go.Proofs.Ytanliiopdhjhjaa
open Go.ChangeShapes Go.WideShapes Go.ChangeAt Go.RowKit Go.Joins Go.Deep Go.Proofs.Hd
theorem cellsPt : Try.prog.cellsOf 91 = 5 := by kernel_rfl
theorem cellsPts : Try.prog.cellsOf 89 = 1 := by kernel_rfl
theorem cellsPtt : Try.prog.cellsOf 22 = 1 := by kernel_rfl
theorem cellsTopo : Try.prog.cellsOf 24 = 1 := by kernel_rfl
theorem cellsI : Try.prog.cellsOf 3 = 1 := by kernel_rfl
theorem add_plainW (b o n : Nat) : (⟨b, o, none⟩ : Addr).add n = ⟨b, o + n, none⟩ := by unfold Addr.add; by_cases hn : n = 0 <;> simp [hn]
instance : Inhabited Pt := ⟨⟨0, 0, 0, 0, 0⟩⟩
section
variable {H : Type} {enc : TypeId × Value → H} {W : World} {base : Nat} {sp : Nat → Bool}
theorem int_of {n : Nat} {c : Value} {y : DataW H × List MemPlace} (h : DataW.trod enc Try.prog W base sp true n 3 [c] = some y) : ∃ k : Int, c = .int .i64 k := by
  obtain ⟨k, e0, _, _⟩ := DataW.trod_int Try.underlying3 h
  simp at e0
  exact ⟨k, e0⟩
set_option maxRecDepth 100000 in
theorem read_pt {n : Nat} {cs : List Value} {y : DataW H × List MemPlace} (hl : cs.length = 5) (h0 : DataW.trod enc Try.prog W base sp true n 91 cs = some y) : ∃ p : Pt, cs = p.cs := by
  obtain ⟨xs, m, _, _, _, hxs, hf⟩ := DataW.trod_struct Try.underlying91 h0
  have hx5 : xs.length = 5 := hxs
  match cs, hl with
  | [c0, c1, c2, c3, c4], _ =>
    match xs, hx5 with
    | [x0, x1, x2, x3, x4], _ =>
      have q0 := hf 0 _ rfl
      have q1 := hf 1 _ rfl
      have q2 := hf 2 _ rfl
      have q3 := hf 3 _ rfl
      have q4 := hf 4 _ rfl
      simp [cellsI] at q0 q1 q2 q3 q4
      obtain ⟨k0, rfl⟩ := int_of q0
      obtain ⟨k1, rfl⟩ := int_of q1
      obtain ⟨k2, rfl⟩ := int_of q2
      obtain ⟨k3, rfl⟩ := int_of q3
      obtain ⟨k4, rfl⟩ := int_of q4
      exact ⟨⟨k0, k1, k2, k3, k4⟩, rfl⟩
end
/-- How many values a datum of ports has. -/
def wide {H : Type} (d : DataW H) (n : Nat) : Prop := n = 0 ∨ ∃ el sp, d = .slice el sp ∧ el.length = n
end Go.Proofs.Ytanliiopdhjhjaa

namespace Go.Proofs.Hd
open Go.RowKit
/-- v is a slice that reads as the pairs P. -/
def Pe (w : World) (v : Value) (P : List (Int × Int)) : Prop := ∃ A cap, v = .slice A P.length cap ∧ P.length ≤ maxLen ∧ (P ≠ [] → ∃ b o, A = some ⟨b, o, none⟩ ∧ b < w.heap.size ∧ ∀ (k : Nat) (x : Int × Int), P[k]? = some x → w.cell? ⟨b, o + k * 2, none⟩ = some (.int .i64 x.1) ∧ w.cell? ⟨b, o + k * 2 + 1, none⟩ = some (.int .i64 x.2))
theorem Pe.on {w w' : World} {v : Value} {P : List (Int × Int)} (h : Pe w v P) (hb : Below w.heap.size w w') : Pe w' v P := by
  obtain ⟨A, cap, e, hl, h⟩ := h
  refine ⟨A, cap, e, hl, fun hne => ?_⟩
  obtain ⟨b, o, e2, hlt, hc⟩ := h hne
  exact ⟨b, o, e2, Nat.lt_of_lt_of_le hlt hb.size, fun k x hk => ⟨on_some hb (hc k x hk).1, on_some hb (hc k x hk).2⟩⟩
/-- A way that packets must take. -/
structure Wa where
  frm : Int
  too : Int
  via : Int
/-- v is a slice that reads as the ways Q. -/
def Wy (w : World) (v : Value) (Q : List Wa) : Prop := ∃ A cap, v = .slice A Q.length cap ∧ Q.length ≤ maxLen ∧ (Q ≠ [] → ∃ b o, A = some ⟨b, o, none⟩ ∧ b < w.heap.size ∧ ∀ (k : Nat) (x : Wa), Q[k]? = some x → w.cell? ⟨b, o + k * 3, none⟩ = some (.int .i64 x.frm) ∧ w.cell? ⟨b, o + k * 3 + 1, none⟩ = some (.int .i64 x.too) ∧ w.cell? ⟨b, o + k * 3 + 2, none⟩ = some (.int .i64 x.via))
theorem Wy.on {w w' : World} {v : Value} {Q : List Wa} (h : Wy w v Q) (hb : Below w.heap.size w w') : Wy w' v Q := by
  obtain ⟨A, cap, e, hl, h⟩ := h
  refine ⟨A, cap, e, hl, fun hne => ?_⟩
  obtain ⟨b, o, e2, hlt, hc⟩ := h hne
  exact ⟨b, o, e2, Nat.lt_of_lt_of_le hlt hb.size, fun k x hk => ⟨on_some hb (hc k x hk).1, on_some hb (hc k x hk).2.1, on_some hb (hc k x hk).2.2⟩⟩
theorem Blk.three {w : World} {g : Nat} {t : TypeId} {x0 x1 x2 : Value} (h : Blk w g t #[x0, x1, x2]) : w.cell? ⟨g, 0, none⟩ = some x0 ∧ w.cell? ⟨g, 1, none⟩ = some x1 ∧ w.cell? ⟨g, 2, none⟩ = some x2 := ⟨(h.cell 0).trans rfl, (h.cell 1).trans rfl, (h.cell 2).trans rfl⟩
end Go.Proofs.Hd
namespace Go.Proofs
open Go.RowKit Go.Proofs.Hd Go.Lib
theorem rtenant_c (x : Bool) (ten n : Int) (pv wv : Value) (w : World) (hx : inB n ten = x) : Calls Try.prog 64 #[.agg #[.int .i64 ten, pv, wv], .int .i64 n] w fun e w' => e = .returned (.bool x) ∧ Below w.heap.size w w' := by
  have B0 := below1 w (.cells #[.int .i64 ten, pv, wv] 28)
  unfold inB at hx
  by_cases h0 : 0 ≤ n
  · by_cases h1 : n < ten
    · rw [decide_eq_true h0, decide_eq_true h1] at hx
      subst hx
      go_enter Try.func64, Try.ntmps64
      go_wp2
      go_ret
      exact ⟨rfl, B0⟩
    · rw [decide_eq_true h0, decide_eq_false h1] at hx
      subst hx
      go_enter Try.func64, Try.ntmps64
      go_wp2
      go_ret
      exact ⟨rfl, B0⟩
  · rw [decide_eq_false h0] at hx
    subst hx
    go_enter Try.func64, Try.ntmps64
    go_wp2
    go_ret
    exact ⟨rfl, B0⟩
end Go.Proofs

namespace Go.Proofs.Hd
open Go.RowKit
/-- The tenant at a spot; -1 where there is no edge. -/
def edgT (T : List (List Pt)) (n i : Int) : Int := match ptAt T n i with
  | some p => if p.kind = 1 then p.ten else -1
  | none => -1
theorem edgT_none {T : List (List Pt)} {n i : Int} (h : ptAt T n i = none) : edgT T n i = -1 := by unfold edgT; rw [h]
theorem Blk.duo {w : World} {g : Nat} {t : TypeId} {x0 x1 : Value} (h : Blk w g t #[x0, x1]) : w.cell? ⟨g, 0, none⟩ = some x0 ∧ w.cell? ⟨g, 1, none⟩ = some x1 := ⟨(h.cell 0).trans rfl, (h.cell 1).trans rfl⟩
theorem Blk.single {w : World} {g : Nat} {t : TypeId} {x0 : Value} (h : Blk w g t #[x0]) : w.cell? ⟨g, 0, none⟩ = some x0 := (h.cell 0).trans rfl
end Go.Proofs.Hd
namespace Go.Proofs
open Go.RowKit Go.Proofs.Hd Go.Lib
set_option maxRecDepth 100000 in
set_option maxHeartbeats 2000000 in
theorem redge_c (tv : Value) (T : List (List Pt)) (n i : Int) (w : World) (hT : PsT w tv T) : Calls Try.prog 16 #[.agg #[tv], .agg #[.int .i64 n, .int .i64 i]] w fun e w' => e = .returned (.int .i64 (edgT T n i)) ∧ Below w.heap.size w w' := by
  obtain ⟨A, cap, rfl, htm, hA⟩ := hT
  have B0 : Below w.heap.size w ((w.alloc (.cells #[.slice A T.length cap] 24)).alloc (.cells #[.int .i64 n, .int .i64 i] 56)) := below2 w _ _
  have N0 : Blk ((w.alloc (.cells #[.slice A T.length cap] 24)).alloc (.cells #[.int .i64 n, .int .i64 i] 56)) w.heap.size 24 #[.slice A T.length cap] := (Blk.new w _ _).on (below1 _ _)
  have M0 : Blk ((w.alloc (.cells #[.slice A T.length cap] 24)).alloc (.cells #[.int .i64 n, .int .i64 i] 56)) (w.heap.size + 1) 56 #[.int .i64 n, .int .i64 i] := Blk.new2 w _ _ _
  have t0 := N0.single
  obtain ⟨s0, s1⟩ := M0.duo
  by_cases a1 : n < 0
  · have a1b : decide (n < 0) = true := decide_eq_true a1
    have HE := Lib.hid (edgT_none (T := T) (n := n) (i := i) (ptAt_far1 (by simp [inB]; omega)))
    clear hA N0 M0
    go_enter Try.func16, Try.ntmps16
    go_wp2_with fail
    go_quiet (fail)
    go_wp2
    go_ret
    exact ⟨by rw [HE.out]; rfl, bldrewN B0 _⟩
  have a1b : decide (n < 0) = false := decide_eq_false a1
  by_cases a2 : (T.length : Int) ≤ n
  · have a2b : decide ((T.length : Int) ≤ n) = true := decide_eq_true a2
    have HE := Lib.hid (edgT_none (T := T) (n := n) (i := i) (ptAt_far1 (by simp [inB]; omega)))
    clear hA N0 M0
    go_enter Try.func16, Try.ntmps16
    go_wp2_with fail
    go_quiet (fail)
    go_wp2
    go_ret
    exact ⟨by rw [HE.out]; rfl, bldrewN B0 _⟩
  obtain ⟨n', rfl⟩ : ∃ n' : Nat, n = (n' : Int) := ⟨n.toNat, by omega⟩
  have hn : n' < T.length := by omega
  have hnz : (n' : Int) < (T.length : Int) := by omega
  have a2b : decide ((T.length : Int) ≤ (n' : Int)) = false := decide_eq_false a2
  have a2c : decide (T.length ≤ n') = false := decide_eq_false (by omega)
  obtain ⟨L, hL⟩ : ∃ L, T[n']? = some L := ⟨_, List.getElem?_eq_getElem hn⟩
  obtain ⟨tb, tof, rfl, _, hcc⟩ := hA (by rintro rfl; simp at hn)
  obtain ⟨s, hs, A3, c3, rfl, hLm, hA3⟩ := hcc n' L hL
  have cs := on_some B0 hs
  by_cases a3 : i < 0
  · have a3b : decide (i < 0) = true := decide_eq_true a3
    have HE := Lib.hid (edgT_none (T := T) (n := n') (i := i) (ptAt_far2 hL (by simp [inB]; omega)))
    clear hA N0 M0 hs hcc hA3 hL
    go_enter Try.func16, Try.ntmps16
    go_wp2_with fail
    go_quiet (fail)
    go_wp2
    go_ret
    exact ⟨by rw [HE.out]; rfl, bldrewN B0 _⟩
  have a3b : decide (i < 0) = false := decide_eq_false a3
  by_cases a4 : (L.length : Int) ≤ i
  · have a4b : decide ((L.length : Int) ≤ i) = true := decide_eq_true a4
    have HE := Lib.hid (edgT_none (T := T) (n := n') (i := i) (ptAt_far2 hL (by simp [inB]; omega)))
    clear hA N0 M0 hs hcc hA3 hL
    go_enter Try.func16, Try.ntmps16
    go_wp2_with fail
    go_quiet (fail)
    go_wp2
    go_ret
    exact ⟨by rw [HE.out]; rfl, bldrewN B0 _⟩
  obtain ⟨i', rfl⟩ : ∃ i' : Nat, i = (i' : Int) := ⟨i.toNat, by omega⟩
  have hi : i' < L.length := by omega
  have hiz : (i' : Int) < (L.length : Int) := by omega
  have a4b : decide ((L.length : Int) ≤ (i' : Int)) = false := decide_eq_false a4
  have a4c : decide (L.length ≤ i') = false := decide_eq_false (by omega)
  obtain ⟨p, hp⟩ : ∃ p, L[i']? = some p := ⟨_, List.getElem?_eq_getElem hi⟩
  obtain ⟨b3, o3, rfl, _, hpc⟩ := hA3 (by rintro rfl; simp at hp)
  have hpt := ptAt_nat hL hp
  have hap := hpc i' p hp
  obtain ⟨kd, tn, pr, sp, co⟩ := p
  obtain ⟨u0, u1, u2, u3, u4⟩ := hap.on B0
  by_cases a5 : kd = 1
  · subst a5
    have HE : Hid (edgT T n' i' = tn) := by show _ = _; unfold edgT; rw [hpt]; rfl
    have HN := Lib.hid N0
    have HM := Lib.hid M0
    have HCS := Lib.hid hs
    have HAP := Lib.hid hap
    clear hA N0 M0 hs hcc hA3 hL hp hpc hap hpt
    go_enter Try.func16, Try.ntmps16
    go_wp2_with fail
    go_quiet (fail)
    have HB1 := Lib.hid (bldrewN B0 nq)
    have N1 := HN.out.drewN nq
    have M1 := HM.out.drewN nq
    clear t0 s0 s1 cs u0 u1 u2 u3 u4 B0 HN HM
    generalize ((w.alloc (.cells #[.slice (some ⟨tb, tof, none⟩) T.length cap] 24)).alloc (.cells #[.int .i64 (n' : Int), .int .i64 (i' : Int)] 56)).drewN nq = w1 at HB1 N1 M1 ⊢
    have t0 := N1.single
    obtain ⟨s0, s1⟩ := M1.duo
    have cs := on_some HB1.out HCS.out
    obtain ⟨u0, u1, u2, u3, u4⟩ := HAP.out.on HB1.out
    clear N1 M1 nq
    go_wp2_with fail
    go_quiet (fail)
    go_wp2
    go_ret
    exact ⟨by rw [HE.out]; rfl, bldrewN HB1.out _⟩
  · have HE : Hid (edgT T n' i' = -1) := by show _ = _; unfold edgT; rw [hpt]; simp only; rw [if_neg a5]
    have a5b : (kd != 1) = true := by simp [a5]
    clear hA N0 M0 hs hcc hA3 hL hp hpc hap hpt
    go_enter Try.func16, Try.ntmps16
    go_wp2_with fail
    go_quiet (fail)
    go_wp2
    go_ret
    exact ⟨by rw [HE.out]; rfl, bldrewN B0 _⟩
end Go.Proofs

namespace Go.Proofs
open Go.RowKit Go.Proofs.Hd Go.Lib
set_option maxRecDepth 100000 in
set_option maxHeartbeats 2000000 in
theorem redges_c (tv : Value) (T : List (List Pt)) (w : World) (hT : PsT w tv T) (hP : ports T ≤ 2000000) : Calls Try.prog 27 #[.agg #[tv]] w (GotE w (eTo T T.length)) := by
  obtain ⟨i2, hi2, hz0, hz1, hz2⟩ := info_parts infoSpot
  obtain ⟨A, cap, rfl, htm, hA⟩ := hT
  have htz : (T.length : Int) ≤ 9223372036854775807 := by unfold maxLen at htm; omega
  have HB := Lib.hid (below2 w (.cells #[.slice A T.length cap] 24) (.cells #[] 56))
  have NB : Hid (Blk ((w.alloc (.cells #[.slice A T.length cap] 24)).alloc (.cells #[] 56)) w.heap.size 24 #[.slice A T.length cap]) := (Blk.new w _ _).on (below1 _ _)
  have HA := Lib.hid hA
  have O0 : Hid (((w.alloc (.cells #[.slice A T.length cap] 24)).alloc (.cells #[] 56)).ownsRow w.heap.size 56 2 (.slice (some ⟨w.heap.size + 1, 0, none⟩) 0 0) (eTo T 0).length (flS (eTo T 0))) := by
    have h : ((w.alloc (.cells #[.slice A T.length cap] 24)).alloc (.cells #[] 56)).ownsRow w.heap.size 56 2 (.slice (some ⟨(w.alloc (.cells #[.slice A T.length cap] 24)).heap.size, 0, none⟩) 0 0) (eTo T 0).length (flS (eTo T 0)) := World.ownsRow_made (w.alloc (.cells #[.slice A T.length cap] 24)) #[] 0 (below1 _ _).size (Nat.zero_le _) rfl
    have e : (w.alloc (.cells #[.slice A T.length cap] 24)).heap.size = w.heap.size + 1 := by simp
    rw [e] at h
    exact h
  clear hA
  go_enter Try.func27, Try.ntmps27
  go_wp2
  go_loopg [3, 4, 5] T.length (fun gn s3 s4 _ wn => ∃ (n : Nat), n ≤ T.length ∧ gn = T.length - n ∧ s4 = .int .i64 n ∧ Hid (Blk wn w.heap.size 24 #[.slice A T.length cap]) ∧ Hid (wn.ownsRow w.heap.size 56 2 s3 (eTo T n).length (flS (eTo T n))) ∧ Hid (Below w.heap.size w wn))
  case atStart => exact ⟨0, Nat.zero_le _, rfl, rfl, NB, O0, HB⟩
  case round =>
    clear HB O0 NB
    obtain ⟨n, hn, rfl, rfl, NB, HO, HB⟩ := hrel
    have cb := NB.out.one
    by_cases hnt : n < T.length
    · have hntz : (n : Int) < (T.length : Int) := by omega
      obtain ⟨L, hTL⟩ : ∃ L, T[n]? = some L := ⟨_, List.getElem?_eq_getElem hnt⟩
      obtain ⟨b, o, rfl, _, hc⟩ := HA.out (by rintro rfl; simp at hnt)
      obtain ⟨s, hcell0, A1, c1, rfl, hLm, hA1⟩ := hc n L hTL
      have HCE := Lib.hid hcell0
      have HA1 := Lib.hid hA1
      have HTL := Lib.hid hTL
      have hLz : (L.length : Int) ≤ 9223372036854775807 := by unfold maxLen at hLm; omega
      have HO1 := HO
      rw [show eTo T n = eTo T n ++ eUp n L 0 from (List.append_nil _).symm] at HO1
      clear hTL hcell0 hA1 hc HO
      go_wp2
      clear cb
      go_loopg [3, 5] L.length (fun gi s3 s5 wi => ∃ (i : Nat), i ≤ L.length ∧ gi = L.length - i ∧ s5 = .int .i64 i ∧ Hid (Blk wi w.heap.size 24 #[.slice (some ⟨b, o, none⟩) T.length cap]) ∧ Hid (wi.ownsRow w.heap.size 56 2 s3 (eTo T n ++ eUp n L i).length (flS (eTo T n ++ eUp n L i))) ∧ Hid (Below w.heap.size w wi))
      case atStart => exact ⟨0, Nat.zero_le _, rfl, rfl, NB, HO1, HB⟩
      case round =>
        clear HB HO1 NB
        obtain ⟨i, hi, rfl, rfl, NB, HO, HB⟩ := hrel
        have cb := NB.out.one
        have hcell := on_some HB.out HCE.out
        by_cases hit : i < L.length
        · have hitz : (i : Int) < (L.length : Int) := by omega
          obtain ⟨p, hp⟩ : ∃ p, L[i]? = some p := ⟨_, List.getElem?_eq_getElem hit⟩
          obtain ⟨b1, o1, rfl, _, hpc⟩ := HA1.out (by rintro rfl; simp at hit)
          have hap := (hpc i p hp).on HB.out
          have hes := eUp_succ (n := n) hp
          have hlen := edges_le HTL.out (Nat.le_of_lt hit)
          obtain ⟨E, hE⟩ : ∃ E, Hid (eTo T n ++ eUp n L i = E) := ⟨_, rfl⟩
          rw [hE.out] at HO hlen
          obtain ⟨kd, tn, pr, sp, co⟩ := p
          obtain ⟨d0, d1, d2, d3, d4⟩ := hap
          have HB1 := HB
          have HO1 := HO
          clear hp hpc HB HO
          by_cases hk : kd = 1
          · simp only [hk, if_true] at hes
            subst hk
            have HE2 : Hid (eTo T n ++ eUp n L (i + 1) = E ++ [(n, i)]) := by show _ = _; rw [hes, ← List.append_assoc, hE.out]
            have hb2 := below1 wr (.cells #[.int .i64 n, .int .i64 i] 56)
            have HB2 := Lib.hid (HB1.out.trans (hb2.mono HB1.out.size))
            have O2 := own_on HO1.out hb2
            have SR := src_spot (Blk.new wr 56 #[.int .i64 n, .int .i64 i])
            have NB2 := NB.out.on hb2
            have hz3 := HB2.out.size
            clear hes HO1 HB1 hb2
            go_wp2_with (at_builtin; refine wpList_app _ rfl (.tmp 34) (.tmp 38) 73 rfl w.heap.size 56 i2 _ 2 16 Try.underlying73 hi2 hz0 hz1 hz2 rfl (by decide) _ E.length (flS E) rfl O2 _ 1 [.int .i64 n, .int .i64 i] rfl SR (by unfold maxLen; omega) (by omega) hz3 ?_)
            intro v3 w3 O3 hg3
            have NB3 := Lib.hid (NB2.grown hg3 (own_apart O2 NB2 (by decide)))
            have HB3 := Lib.hid (HB2.out.grown hg3 hz3 (fun j hj => (O2.lt j hj).1))
            have HO3 : Hid (w3.ownsRow w.heap.size 56 2 v3 (eTo T n ++ eUp n L (i + 1)).length (flS (eTo T n ++ eUp n L (i + 1)))) := by
              show World.ownsRow _ _ _ _ _ _ _
              rw [HE2.out, flS_append, List.length_append]; exact O3
            clear O2 SR O3 hg3 HB2 hz3 d0 d1 d2 d3 d4 NB2
            go_wp2
            go_roundg (L.length - (i + 1))
            case measure => omega
            case rel => exact ⟨i + 1, by omega, rfl, by go_num, NB3, HO3, HB3⟩
          · simp only [hk, if_false, List.append_nil] at hes
            have HO3 := HO1
            rw [show E = eTo T n ++ eUp n L (i + 1) from by rw [hes, hE.out]] at HO3
            clear hes HO1
            go_wp2
            go_roundg (L.length - (i + 1))
            case measure => omega
            case rel => exact ⟨i + 1, by omega, rfl, by go_num, NB, HO3, HB1⟩
        · have hitz : ¬ (i : Int) < (L.length : Int) := by omega
          obtain rfl : i = L.length := by omega
          have HO2 := HO
          rw [← eTo_succ HTL.out] at HO2
          clear HO
          go_wp2
          go_roundg (T.length - (n + 1))
          case measure => omega
          case rel => exact ⟨n + 1, by omega, rfl, by go_num, NB, HO2, HB⟩
    · have hntz : ¬ (n : Int) < (T.length : Int) := by omega
      obtain rfl : n = T.length := by omega
      go_wp2
      go_ret
      exact ⟨_, rfl, HO.out, HB.out⟩
end Go.Proofs
