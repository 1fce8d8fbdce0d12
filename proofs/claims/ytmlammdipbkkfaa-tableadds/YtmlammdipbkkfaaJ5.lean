/-
  Contracts of rule.Sound and of the reference's Sound. No conditions.
  Contract of the reference's Sound of layer 5. No conditions.
  Tables in memory; contracts of table.Sound and of the reference's Sound of layer 6. Conditions as each theorem lists them.
  How a slice of slices of rules reads; a slice of rules is no longer than its capacity. No conditions.
  Numbers in memory: rows of ints. No conditions.
  Contracts of rule.Before and of the comparison of two places of a table, with what they add to memory. Conditions as each theorem lists them.
  Contract of math/bits.LeadingZeros64, out of the library's own contract, which is proved over any program: the function's bodies are compared by the kernel. No conditions.
  Contract of cube.highest: the header with the highest bit alone. No conditions.
  What memory holds at the head of the loop of cube.Less, and how it is carried on: plain facts on worlds. No conditions.
-/
import Derived.Test.YtmlammdipbkkfaaJ4
import Derived.BigQuiet
import Derived.Deep.LoopGhost
import Derived.Lib.Hide
import Derived.OrdersHeld
import Derived.Deep.DeepCutAuto
import Derived.Shelf.Small.Bits
import Derived.Shelf.Strconv.Itoa0
import Derived.Test.YtmlammdipbkkfaaProg
import Derived.Deep.AppendLies
import Derived.Laws.OwnMore
import Derived.OneCell
import Derived.Deep.Onto
namespace Go.Proofs
open Go.RowKit Go.Proofs.Hd Go.Sort
attribute [local go_sem] uv_nonneg
theorem csnd_c (x : Bool) (c : Cb) (w : World) (h : c.snd = x) : Calls Try.prog 40 #[.agg #[.int .u64 (uv c.vh), .int .u64 (uv c.vl), .int .u64 (uv c.ch), .int .u64 (uv c.cl)]] w fun e w' => e = .returned (.bool x) ∧ Below w.heap.size w w' := by
  subst h; exact sound_c _ _ _ _ _
theorem rule_stays {w w1 : World} {r : Rl} (hb : Below (w.alloc (.cells #[.int .i64 r.pri, .int .u64 (uv r.m.vh), .int .u64 (uv r.m.vl), .int .u64 (uv r.m.ch), .int .u64 (uv r.m.cl), .int .i64 r.kind, .int .i64 r.port, .int .i64 r.tab, .int .u64 (uv r.s.vh), .int .u64 (uv r.s.vl), .int .u64 (uv r.s.ch), .int .u64 (uv r.s.cl)] 55)).heap.size (w.alloc (.cells #[.int .i64 r.pri, .int .u64 (uv r.m.vh), .int .u64 (uv r.m.vl), .int .u64 (uv r.m.ch), .int .u64 (uv r.m.cl), .int .i64 r.kind, .int .i64 r.port, .int .i64 r.tab, .int .u64 (uv r.s.vh), .int .u64 (uv r.s.vl), .int .u64 (uv r.s.ch), .int .u64 (uv r.s.cl)] 55)) w1) : Blk w1 w.heap.size 55 #[.int .i64 r.pri, .int .u64 (uv r.m.vh), .int .u64 (uv r.m.vl), .int .u64 (uv r.m.ch), .int .u64 (uv r.m.cl), .int .i64 r.kind, .int .i64 r.port, .int .i64 r.tab, .int .u64 (uv r.s.vh), .int .u64 (uv r.s.vl), .int .u64 (uv r.s.ch), .int .u64 (uv r.s.cl)] := (Blk.new w _ _).on hb
set_option maxRecDepth 100000 in
set_option maxHeartbeats 4000000 in
theorem sound_r (x : Bool) (r : Rl) (table : Int) (v : Value) (K : List Int) (w : World) (hx : sndR r table K = x) (hv : Po w v K) : Calls Try.prog 26 #[.agg #[.int .i64 r.pri, .int .u64 (uv r.m.vh), .int .u64 (uv r.m.vl), .int .u64 (uv r.m.ch), .int .u64 (uv r.m.cl), .int .i64 r.kind, .int .i64 r.port, .int .i64 r.tab, .int .u64 (uv r.s.vh), .int .u64 (uv r.s.vl), .int .u64 (uv r.s.ch), .int .u64 (uv r.s.cl)], .int .i64 table, v] w fun e w' => e = .returned (.bool x) ∧ Below w.heap.size w w' := by
  have B0 := below1 w (.cells #[.int .i64 r.pri, .int .u64 (uv r.m.vh), .int .u64 (uv r.m.vl), .int .u64 (uv r.m.ch), .int .u64 (uv r.m.cl), .int .i64 r.kind, .int .i64 r.port, .int .i64 r.tab, .int .u64 (uv r.s.vh), .int .u64 (uv r.s.vl), .int .u64 (uv r.s.ch), .int .u64 (uv r.s.cl)] 55)
  have N0 : Blk (w.alloc (.cells #[.int .i64 r.pri, .int .u64 (uv r.m.vh), .int .u64 (uv r.m.vl), .int .u64 (uv r.m.ch), .int .u64 (uv r.m.cl), .int .i64 r.kind, .int .i64 r.port, .int .i64 r.tab, .int .u64 (uv r.s.vh), .int .u64 (uv r.s.vl), .int .u64 (uv r.s.ch), .int .u64 (uv r.s.cl)] 55)) w.heap.size 55 #[.int .i64 r.pri, .int .u64 (uv r.m.vh), .int .u64 (uv r.m.vl), .int .u64 (uv r.m.ch), .int .u64 (uv r.m.cl), .int .i64 r.kind, .int .i64 r.port, .int .i64 r.tab, .int .u64 (uv r.s.vh), .int .u64 (uv r.s.vl), .int .u64 (uv r.s.ch), .int .u64 (uv r.s.cl)] := Blk.new w _ _
  have HV := Lib.hid hv
  clear hv
  unfold sndR at hx
  by_cases h1 : 0 ≤ r.pri
  · by_cases h2 : r.pri ≤ 1048576
    · cases h3 : r.m.snd with
      | false =>
        simp [h3] at hx
        subst hx
        go_enter Try.func26, Try.ntmps26
        go_wp2_with fail
        (with_reducible refine (csnd_c _ r.m _ h3).mono ?_)
        rintro e w1 ⟨rfl, hb⟩
        have B := B0.trans (hb.mono B0.size)
        clear B0 hb N0
        go_wp2
        go_ret
        exact ⟨by simp, B⟩
      | true =>
        cases h4 : r.s.snd with
        | false =>
          simp [h4] at hx
          subst hx
          go_enter Try.func26, Try.ntmps26
          go_wp2_with fail
          (with_reducible refine (csnd_c _ r.m _ h3).mono ?_)
          rintro e w1 ⟨rfl, hb⟩
          have B := B0.trans (hb.mono B0.size)
          have N1 := N0.on hb
          have c8 := N1.cell 8
          have c9 := N1.cell 9
          have c10 := N1.cell 10
          have c11 := N1.cell 11
          simp at c8 c9 c10 c11
          clear B0 hb N0
          go_wp2_with fail
          (with_reducible refine (csnd_c _ r.s _ h4).mono ?_)
          rintro e w2 ⟨rfl, hb2⟩
          have B2 := B.trans (hb2.mono B.size)
          clear B hb2 N1 c8 c9 c10 c11
          go_wp2
          go_ret
          exact ⟨by simp, B2⟩
        | true =>
          have h5 : leads r.kind r.port r.tab table K = x := by simpa [h1, h2, h3, h4] using hx
          have H5 := Lib.hid h5
          clear hx h5
          go_enter Try.func26, Try.ntmps26
          go_wp2_with fail
          (with_reducible refine (csnd_c _ r.m _ h3).mono ?_)
          rintro e w1 ⟨rfl, hb⟩
          have B := B0.trans (hb.mono B0.size)
          have N1 := N0.on hb
          have c8 := N1.cell 8
          have c9 := N1.cell 9
          have c10 := N1.cell 10
          have c11 := N1.cell 11
          simp at c8 c9 c10 c11
          clear B0 hb N0
          go_wp2_with fail
          (with_reducible refine (csnd_c _ r.s _ h4).mono ?_)
          rintro e w2 ⟨rfl, hb2⟩
          have B2 := B.trans (hb2.mono B.size)
          have N2 := N1.on hb2
          clear B hb2 N1 c8 c9 c10 c11
          have c0 := N2.cell 0
          have c1 := N2.cell 1
          have c2 := N2.cell 2
          have c3 := N2.cell 3
          have c4 := N2.cell 4
          have c5 := N2.cell 5
          have c6 := N2.cell 6
          have c7 := N2.cell 7
          have c8 := N2.cell 8
          have c9 := N2.cell 9
          have c10 := N2.cell 10
          have c11 := N2.cell 11
          simp at c0 c1 c2 c3 c4 c5 c6 c7 c8 c9 c10 c11
          go_wp2_with fail
          (with_reducible refine (leads_c x r table v K _ H5.out (HV.out.on B2)).mono ?_)
          rintro e w3 ⟨rfl, hb3⟩
          have B3 := B2.trans (hb3.mono B2.size)
          clear B2 hb3 N2 c0 c1 c2 c3 c4 c5 c6 c7 c8 c9 c10 c11
          go_wp2
          go_ret
          exact ⟨rfl, B3⟩
    · simp [h2] at hx
      subst hx
      go_enter Try.func26, Try.ntmps26
      go_wp2
      go_ret
      exact ⟨by simp, B0⟩
  · simp [h1] at hx
    subst hx
    go_enter Try.func26, Try.ntmps26
    go_wp2
    go_ret
    exact ⟨by simp, B0⟩
end Go.Proofs

namespace Go.Proofs
open Go.RowKit Go.Proofs.Hd Go.Sort
attribute [local go_sem] uv_nonneg
theorem text_any (x : Bool) (c : Cb) (w : World) (hs : c.snd = x) : Calls Try.prog 22 #[.agg #[.int .u64 (uv c.vh), .int .u64 (uv c.vl), .int .u64 (uv c.ch), .int .u64 (uv c.cl)]] w fun e w' => ∃ s, e = .returned (.tuple #[.string s, .bool x]) ∧ Below w.heap.size w w' := by
  cases x with
  | true => exact (text_yes c w hs).mono fun e w' h => ⟨_, h.1, h.2⟩
  | false => exact (text_no c w hs).mono fun e w' h => ⟨_, h.1, h.2⟩
set_option maxRecDepth 100000 in
set_option maxHeartbeats 8000000 in
theorem rsound_r (x : Bool) (r : Rl) (table : Int) (v : Value) (K : List Int) (w : World) (hx : sndR r table K = x) (hv : Po w v K) : Calls Try.prog 27 #[.agg #[.int .i64 r.pri, .int .u64 (uv r.m.vh), .int .u64 (uv r.m.vl), .int .u64 (uv r.m.ch), .int .u64 (uv r.m.cl), .int .i64 r.kind, .int .i64 r.port, .int .i64 r.tab, .int .u64 (uv r.s.vh), .int .u64 (uv r.s.vl), .int .u64 (uv r.s.ch), .int .u64 (uv r.s.cl)], .int .i64 table, v] w fun e w' => e = .returned (.bool x) ∧ Below w.heap.size w w' := by
  have B0 := below1 w (.cells #[.int .i64 r.pri, .int .u64 (uv r.m.vh), .int .u64 (uv r.m.vl), .int .u64 (uv r.m.ch), .int .u64 (uv r.m.cl), .int .i64 r.kind, .int .i64 r.port, .int .i64 r.tab, .int .u64 (uv r.s.vh), .int .u64 (uv r.s.vl), .int .u64 (uv r.s.ch), .int .u64 (uv r.s.cl)] 55)
  have N0 : Blk (w.alloc (.cells #[.int .i64 r.pri, .int .u64 (uv r.m.vh), .int .u64 (uv r.m.vl), .int .u64 (uv r.m.ch), .int .u64 (uv r.m.cl), .int .i64 r.kind, .int .i64 r.port, .int .i64 r.tab, .int .u64 (uv r.s.vh), .int .u64 (uv r.s.vl), .int .u64 (uv r.s.ch), .int .u64 (uv r.s.cl)] 55)) w.heap.size 55 #[.int .i64 r.pri, .int .u64 (uv r.m.vh), .int .u64 (uv r.m.vl), .int .u64 (uv r.m.ch), .int .u64 (uv r.m.cl), .int .i64 r.kind, .int .i64 r.port, .int .i64 r.tab, .int .u64 (uv r.s.vh), .int .u64 (uv r.s.vl), .int .u64 (uv r.s.ch), .int .u64 (uv r.s.cl)] := Blk.new w _ _
  have HV := Lib.hid hv
  have HX := Lib.hid hx
  clear hv hx
  obtain ⟨ym, hm⟩ : ∃ y, r.m.snd = y := ⟨_, rfl⟩
  obtain ⟨ys, hs⟩ : ∃ y, r.s.snd = y := ⟨_, rfl⟩
  go_enter Try.func27, Try.ntmps27
  go_wp2_with fail
  (with_reducible refine (text_any _ r.m _ hm).mono ?_)
  rintro e w1 ⟨s1, rfl, hb⟩
  have B1 := B0.trans (hb.mono B0.size)
  have N1 := N0.on hb
  have c8 := N1.cell 8
  have c9 := N1.cell 9
  have c10 := N1.cell 10
  have c11 := N1.cell 11
  simp at c8 c9 c10 c11
  clear B0 hb N0
  go_wp2_with fail
  (with_reducible refine (text_any _ r.s _ hs).mono ?_)
  rintro e w2 ⟨s2, rfl, hb2⟩
  have B2 := B1.trans (hb2.mono B1.size)
  have N2 := N1.on hb2
  have V2 := Lib.hid (HV.out.on B2)
  clear B1 hb2 N1 c8 c9 c10 c11 HV
  have c0 := N2.cell 0
  have c5 := N2.cell 5
  have c6 := N2.cell 6
  have c7 := N2.cell 7
  simp at c0 c5 c6 c7
  clear N2
  cases ym with
  | false =>
    have e0 : x = false := by rw [← HX.out]; simp [sndR, hm]
    subst e0
    clear HX
    go_wp2
    go_ret
    exact ⟨rfl, B2⟩
  | true =>
  cases ys with
  | false =>
    have e0 : x = false := by rw [← HX.out]; simp [sndR, hs]
    subst e0
    clear HX
    go_wp2
    go_ret
    exact ⟨rfl, B2⟩
  | true =>
  by_cases p1 : r.pri < 0
  · have e0 : x = false := by
      rw [← HX.out]
      have : ¬ 0 ≤ r.pri := by omega
      simp [sndR, this]
    subst e0
    clear HX
    go_wp2
    go_ret
    exact ⟨rfl, B2⟩
  by_cases p2 : 1048576 < r.pri
  · have e0 : x = false := by
      rw [← HX.out]
      have : ¬ r.pri ≤ 1048576 := by omega
      simp [sndR, this]
    subst e0
    clear HX
    go_wp2
    go_ret
    exact ⟨rfl, B2⟩
  have hL : leads r.kind r.port r.tab table K = x := by
    rw [← HX.out]
    have q1 : 0 ≤ r.pri := by omega
    have q2 : r.pri ≤ 1048576 := by omega
    simp [sndR, hm, hs, q1, q2]
  clear HX
  generalize r.port = port at c6 hL
  generalize r.tab = tab at c7 hL
  generalize r.kind = kind at c5 hL
  have HL := Lib.hid hL
  clear hL
  go_wp2_with fail
  go_quiet (fail)
  have B3 : Below w.heap.size w (w2.drewN nq) := ⟨B2.os, B2.tape, B2.output, B2.size, B2.block⟩
  have V3 := Lib.hid (V2.out.on (w' := w2.drewN nq) ⟨rfl, rfl, rfl, Nat.le_refl _, fun _ _ => rfl⟩)
  have d5 : (w2.drewN nq).cell? ⟨w.heap.size, 5, none⟩ = some (.int .i64 kind) := c5
  clear B2 V2 c0 c5 c6 c7
  generalize w2.drewN nq = w3 at B3 V3 d5 ⊢
  by_cases k1 : kind = 1
  · subst k1
    have HL2 : Hid ((decide (port = 0) && decide (tab = 0)) = x) := Lib.hid (by rw [← HL.out]; simp [leads])
    clear HL V3
    by_cases p0 : port = 0
    · subst p0
      by_cases t0 : tab = 0
      · subst t0
        have e0 : x = true := by rw [← HL2.out]; simp
        subst e0
        clear HL2
        go_wp2
        go_ret
        exact ⟨by simp, B3⟩
      · have e0 : x = false := by rw [← HL2.out]; simp [t0]
        subst e0
        clear HL2
        go_wp2
        go_ret
        exact ⟨by simp [t0], B3⟩
    · have e0 : x = false := by rw [← HL2.out]; simp [p0]
      subst e0
      clear HL2
      go_wp2
      go_ret
      exact ⟨by simp, B3⟩
  by_cases k2 : kind = 2
  · subst k2
    have HL2 : Hid ((isP K port 1 && decide (tab = 0)) = x) := Lib.hid (by rw [← HL.out]; simp [leads])
    clear HL
    by_cases t0 : tab = 0
    · subst t0
      have HP : Hid (isP K port 1 = x) := Lib.hid (by rw [← HL2.out]; simp)
      clear HL2
      have hv := V3.out
      obtain ⟨A, cap, hA⟩ : ∃ A cap, v = .slice A K.length cap := by
        rcases hv with ⟨rfl, A, cap, rfl⟩ | ⟨b, off, cap, rfl, _⟩ <;> exact ⟨_, _, rfl⟩
      clear V3
      by_cases h0 : 0 ≤ port
      · by_cases h1 : port < (K.length : Int)
        · obtain ⟨k, rfl⟩ : ∃ k : Nat, port = (k : Int) := ⟨port.toNat, by omega⟩
          have hk : k < K.length := by omega
          obtain ⟨y, hy⟩ : ∃ y, K[k]? = some y := ⟨_, List.getElem?_eq_getElem hk⟩
          rcases hv with ⟨rfl, _⟩ | ⟨b, off, cap, rfl, hl, hb, hc⟩
          · simp at hk
          have c := hc k y hy
          have HP2 := Lib.hid ((isP_at hy 1).symm.trans HP.out)
          have hl2 : (K.length : Int) ≤ 9223372036854775807 := by unfold maxLen at hl; omega
          clear hc hy hA HP
          go_wp2
          go_ret
          exact ⟨by rw [← HP2.out]; rfl, B3⟩
        · have e0 : x = false := by rw [← HP.out]; exact isP_far h1 _
          subst e0 hA
          clear hv HP
          go_wp2
          go_ret
          exact ⟨by simp, B3⟩
      · have e0 : x = false := by rw [← HP.out]; exact isP_neg h0 _
        subst e0 hA
        clear hv HP
        go_wp2
        go_ret
        exact ⟨by simp, B3⟩
    · have e0 : x = false := by rw [← HL2.out]; simp [t0]
      subst e0
      clear HL2 V3
      go_wp2
      go_ret
      exact ⟨by simp, B3⟩
  by_cases k3 : kind = 3
  · subst k3
    have HL2 : Hid ((isP K port 2 && decide (tab = 0)) = x) := Lib.hid (by rw [← HL.out]; simp [leads])
    clear HL
    by_cases t0 : tab = 0
    · subst t0
      have HP : Hid (isP K port 2 = x) := Lib.hid (by rw [← HL2.out]; simp)
      clear HL2
      have hv := V3.out
      obtain ⟨A, cap, hA⟩ : ∃ A cap, v = .slice A K.length cap := by
        rcases hv with ⟨rfl, A, cap, rfl⟩ | ⟨b, off, cap, rfl, _⟩ <;> exact ⟨_, _, rfl⟩
      clear V3
      by_cases h0 : 0 ≤ port
      · by_cases h1 : port < (K.length : Int)
        · obtain ⟨k, rfl⟩ : ∃ k : Nat, port = (k : Int) := ⟨port.toNat, by omega⟩
          have hk : k < K.length := by omega
          obtain ⟨y, hy⟩ : ∃ y, K[k]? = some y := ⟨_, List.getElem?_eq_getElem hk⟩
          rcases hv with ⟨rfl, _⟩ | ⟨b, off, cap, rfl, hl, hb, hc⟩
          · simp at hk
          have c := hc k y hy
          have HP2 := Lib.hid ((isP_at hy 2).symm.trans HP.out)
          have hl2 : (K.length : Int) ≤ 9223372036854775807 := by unfold maxLen at hl; omega
          clear hc hy hA HP
          go_wp2
          go_ret
          exact ⟨by rw [← HP2.out]; rfl, B3⟩
        · have e0 : x = false := by rw [← HP.out]; exact isP_far h1 _
          subst e0 hA
          clear hv HP
          go_wp2
          go_ret
          exact ⟨by simp, B3⟩
      · have e0 : x = false := by rw [← HP.out]; exact isP_neg h0 _
        subst e0 hA
        clear hv HP
        go_wp2
        go_ret
        exact ⟨by simp, B3⟩
    · have e0 : x = false := by rw [← HL2.out]; simp [t0]
      subst e0
      clear HL2 V3
      go_wp2
      go_ret
      exact ⟨by simp, B3⟩
  by_cases k4 : kind = 4
  · subst k4
    have HL2 : Hid ((decide (table < tab) && decide (tab < 3) && decide (port = 0)) = x) := Lib.hid (by rw [← HL.out]; simp [leads])
    clear HL V3
    by_cases p0 : port = 0
    · subst p0
      by_cases t0 : table < tab
      · by_cases t1 : tab < 3
        · have e0 : x = true := by rw [← HL2.out]; simp [t0, t1]
          subst e0
          clear HL2
          go_wp2
          go_ret
          exact ⟨by simp, B3⟩
        · have e0 : x = false := by rw [← HL2.out]; simp [t1]
          subst e0
          clear HL2
          go_wp2
          go_ret
          exact ⟨by simp, B3⟩
      · have e0 : x = false := by rw [← HL2.out]; simp [t0]
        subst e0
        clear HL2
        go_wp2
        go_ret
        exact ⟨by simp, B3⟩
    · have e0 : x = false := by rw [← HL2.out]; simp [p0]
      subst e0
      clear HL2
      go_wp2
      go_ret
      exact ⟨by simp, B3⟩
  have e0 : x = false := by rw [← HL.out]; simp [leads, k1, k2, k3, k4]
  subst e0
  clear HL V3
  go_wp2
  go_ret
  exact ⟨by simp, B3⟩
end Go.Proofs

namespace Go.Proofs.Hd
open Go.RowKit
/-- v is a slice of slices that read as the tables T. -/
def RuT (w : World) (v : Value) (T : List (List Rl)) : Prop := ∃ A cap, v = .slice A T.length cap ∧ T.length ≤ maxLen ∧ (∀ L ∈ T, L.length ≤ maxLen) ∧ (T ≠ [] → ∃ b o, A = some ⟨b, o, none⟩ ∧ b < w.heap.size ∧ ∀ k L, T[k]? = some L → ∃ s, w.cell? ⟨b, o + k, none⟩ = some s ∧ Ru w s L)
theorem RuT.on {w w' : World} {v : Value} {T : List (List Rl)} (h : RuT w v T) (hb : Below w.heap.size w w') : RuT w' v T := by
  obtain ⟨A, cap, e, h1, h2, h⟩ := h
  refine ⟨A, cap, e, h1, h2, fun hne => ?_⟩
  obtain ⟨b, o, e2, hl, hc⟩ := h hne
  refine ⟨b, o, e2, Nat.lt_of_lt_of_le hl hb.size, fun k L hk => ?_⟩
  obtain ⟨s, h3, h4⟩ := hc k L hk
  exact ⟨s, on_some hb h3, h4.on hb⟩
/-- How many rules the first k tables have, as an int counts. -/
def cntT (T : List (List Rl)) (k : Nat) : Int := (T.take k).foldl (fun c L => IntKind.i64.wrap (c + (L.length : Int))) 0
theorem cntT_succ {T : List (List Rl)} {k : Nat} {L : List Rl} (h : T[k]? = some L) : cntT T (k + 1) = IntKind.i64.wrap (cntT T k + (L.length : Int)) := by
  unfold cntT
  rw [List.take_add_one, h]
  simp
/-- Is a rule sound in table n of m? -/
def okR (m : Nat) (K : List Int) (n : Nat) (r : Rl) : Bool := sndR r (n : Int) K && decide (r.tab < (m : Int))
/-- Are the rules of the first k tables sound? -/
def okT (T : List (List Rl)) (K : List Int) (k : Nat) : Bool := (List.range k).all fun n => (T[n]!).all (okR T.length K n)
theorem okT_succ {T : List (List Rl)} {K : List Int} {k : Nat} {L : List Rl} (h : T[k]? = some L) : okT T K (k + 1) = (okT T K k && L.all (okR T.length K k)) := by
  obtain ⟨hl, e⟩ := List.getElem?_eq_some_iff.1 h
  unfold okT
  rw [List.range_succ, List.all_append]
  simp [hl, e]
theorem okT_no {T : List (List Rl)} {K : List Int} {k j : Nat} {L : List Rl} {r : Rl} (h : T[k]? = some L) (hj : L[j]? = some r) (hr : okR T.length K k r = false) : okT T K T.length = false := by
  cases hc : okT T K T.length with
  | false => rfl
  | true =>
    obtain ⟨hl, e⟩ := List.getElem?_eq_some_iff.1 h
    unfold okT at hc
    rw [List.all_eq_true] at hc
    have h1 := hc k (by simpa using hl)
    rw [getElem!_pos T k hl, e, List.all_eq_true] at h1
    rw [h1 r (List.mem_of_getElem? hj)] at hr
    cases hr
/-- What table.Sound says. -/
def sT (T : List (List Rl)) (K : List Int) : Int := if T.length = 0 ∨ 3 < T.length then 4 else if 96 < cntT T T.length then 12 else if okT T K T.length = true then 0 else 2
theorem all_takeR {L : List Rl} {f : Rl → Bool} {k : Nat} {r : Rl} (h : L[k]? = some r) (ha : (L.take k).all f = true) (hr : f r = true) : (L.take (k + 1)).all f = true := by
  rw [List.take_add_one, h, List.all_append, ha]
  simp [hr]
end Go.Proofs.Hd
namespace Go.Proofs
open Go.RowKit Go.Proofs.Hd Go.Sort Go.Lib
attribute [local go_sem] uv_nonneg
set_option maxHeartbeats 8000000 in
set_option maxRecDepth 100000 in
theorem tabs_c (v pv : Value) (T : List (List Rl)) (KK : List Int) (w : World) (hv : RuT w v T) (hp : Po w pv KK) : Calls Try.prog 12 #[v, pv] w fun e w' => e = .returned (.int .i64 (sT T KK)) ∧ Below w.heap.size w w' := by
  obtain ⟨A, cap, rfl, ht, hL, hA⟩ := hv
  have htz : (T.length : Int) ≤ 9223372036854775807 := by unfold maxLen at ht; omega
  by_cases h1 : T.length = 0 ∨ 3 < T.length
  · have hsT : sT T KK = 4 := by unfold sT; rw [if_pos h1]
    rw [hsT]
    clear hA hL hp hsT
    rcases h1 with h1 | h1
    · rw [h1]
      go_enter Try.func12, Try.ntmps12
      go_wp2
      go_ret
      exact ⟨rfl, Below.refl _ _⟩
    · have hz0 : ¬ (T.length : Int) = 0 := by omega
      have hz0' : ¬ T.length = 0 := by omega
      have hz3 : (3 : Int) < (T.length : Int) := by omega
      have hd0 : decide ((T.length : Int) = 0) = false := decide_eq_false hz0
      go_enter Try.func12, Try.ntmps12
      go_wp2
      go_ret
      exact ⟨rfl, Below.refl _ _⟩
  · have hz0 : ¬ (T.length : Int) = 0 := by omega
    have hz0' : ¬ T.length = 0 := by omega
    have hz3 : ¬ (3 : Int) < (T.length : Int) := by omega
    have hz3' : (T.length : Int) ≤ 3 := by omega
    have hsT : sT T KK = if 96 < cntT T T.length then 12 else if okT T KK T.length = true then 0 else 2 := by unfold sT; rw [if_neg h1]
    obtain ⟨b, o, rfl, hb0, hc⟩ := hA (by intro e; rw [e] at hz0'; exact hz0' rfl)
    have HC := Lib.hid hc
    have HP := Lib.hid hp
    have HL := Lib.hid hL
    have HS := Lib.hid hsT
    clear hc hp hA hL hsT
    go_enter Try.func12, Try.ntmps12
    go_wp2
    go_loopg [5, 7, 22] T.length (fun gk s5 _ s22 wr => ∃ (k : Nat) (cn : Int), k ≤ T.length ∧ gk = T.length - k ∧ s22 = .int .i64 k ∧ s5 = .int .i64 cn ∧ Hid (cn = cntT T k) ∧ Hid (Below w.heap.size w wr))
    case atStart => exact ⟨0, 0, Nat.zero_le _, rfl, rfl, rfl, rfl, Below.refl _ _⟩
    case round =>
      obtain ⟨k, cn, hk, rfl, rfl, rfl, HN, HW⟩ := hrel
      by_cases hlt : k < T.length
      · have hltz : (k : Int) < (T.length : Int) := by omega
        obtain ⟨L, hTL⟩ : ∃ L, T[k]? = some L := ⟨_, List.getElem?_eq_getElem hlt⟩
        obtain ⟨s, hcell0, hru⟩ := HC.out k L hTL
        obtain ⟨A1, c1, rfl, _⟩ := hru.form
        have hcell := on_some HW.out hcell0
        obtain ⟨cm, hcm⟩ : ∃ cm, IntKind.i64.wrap (cn + (L.length : Int)) = cm := ⟨_, rfl⟩
        have HN2 : Hid (cm = cntT T (k + 1)) := by show _ = _; rw [cntT_succ hTL, ← HN.out, hcm]
        clear hTL hru HN hcell0
        go_wp2
        go_roundg (T.length - (k + 1))
        case measure => omega
        case rel => exact ⟨k + 1, cm, by omega, rfl, by go_num, rfl, HN2, HW⟩
      · have hltz : ¬ (k : Int) < (T.length : Int) := by omega
        obtain rfl : k = T.length := by omega
        by_cases h96 : 96 < cn
        · have HE : Hid (sT T KK = 12) := by show _ = _; rw [HS.out, if_pos (by rw [← HN.out]; exact h96)]
          clear HS HC HN
          go_wp2
          go_ret
          exact ⟨by rw [HE.out]; rfl, HW.out⟩
        · have HS2 : Hid (sT T KK = if okT T KK T.length = true then 0 else 2) := by show _ = _; rw [HS.out, if_neg (by rw [← HN.out]; exact h96)]
          clear HS HN
          go_wp2
          go_loopg [8, 9, 11, 35, 42] T.length (fun gn s8 s9 s11 s35 s42 wn => ∃ (n : Nat), n ≤ T.length ∧ gn = T.length - n ∧ s35 = .int .i64 n ∧ Hid (okT T KK n = true) ∧ Hid (Below w.heap.size w wn))
          case atStart => exact ⟨0, Nat.zero_le _, rfl, rfl, rfl, HW⟩
          case round =>
            clear HW
            obtain ⟨n, hn, rfl, rfl, HO, HB⟩ := hrel
            by_cases hnt : n < T.length
            · have hntz : (n : Int) < (T.length : Int) := by omega
              obtain ⟨L, hTL⟩ : ∃ L, T[n]? = some L := ⟨_, List.getElem?_eq_getElem hnt⟩
              obtain ⟨s, hcell0, hru⟩ := HC.out n L hTL
              obtain ⟨A1, c1, rfl, hA1⟩ := hru.form
              have hcell := on_some HB.out hcell0
              have HA1 := Lib.hid hA1
              have HTL := Lib.hid hTL
              have hLz : (L.length : Int) ≤ 9223372036854775807 := by have := HL.out L (List.mem_of_getElem? hTL); unfold maxLen at this; omega
              clear hTL hru hcell0 hA1
              go_wp2
              go_loopg [11, 42] L.length (fun gi s11 s42 wi => ∃ (i : Nat), i ≤ L.length ∧ gi = L.length - i ∧ s42 = .int .i64 i ∧ Hid ((L.take i).all (okR T.length KK n) = true) ∧ Hid (Below w.heap.size w wi))
              case atStart => exact ⟨0, Nat.zero_le _, rfl, rfl, rfl, HB⟩
              case round =>
                clear HB hcell
                obtain ⟨i, hi, rfl, rfl, HI, HB⟩ := hrel
                by_cases hit : i < L.length
                · have hitz : (i : Int) < (L.length : Int) := by omega
                  obtain ⟨r, hr⟩ : ∃ r, L[i]? = some r := ⟨_, List.getElem?_eq_getElem hit⟩
                  obtain ⟨b1, o1, rfl, _, hpc⟩ := HA1.out (by intro h; rw [h] at hit; simp at hit)
                  obtain ⟨c0, c1', c2, c3, c4, c5, c6, c7, c8, c9, c10, c11⟩ := ((hpc i r hr).on HB.out).out
                  have hb1 := below1 wr (.cells #[.int .i64 r.pri, .int .u64 (uv r.m.vh), .int .u64 (uv r.m.vl), .int .u64 (uv r.m.ch), .int .u64 (uv r.m.cl), .int .i64 r.kind, .int .i64 r.port, .int .i64 r.tab, .int .u64 (uv r.s.vh), .int .u64 (uv r.s.vl), .int .u64 (uv r.s.ch), .int .u64 (uv r.s.cl)] 55)
                  have N1 : Hid (Blk (wr.alloc (.cells #[.int .i64 r.pri, .int .u64 (uv r.m.vh), .int .u64 (uv r.m.vl), .int .u64 (uv r.m.ch), .int .u64 (uv r.m.cl), .int .i64 r.kind, .int .i64 r.port, .int .i64 r.tab, .int .u64 (uv r.s.vh), .int .u64 (uv r.s.vl), .int .u64 (uv r.s.ch), .int .u64 (uv r.s.cl)] 55)) wr.heap.size 55 #[.int .i64 r.pri, .int .u64 (uv r.m.vh), .int .u64 (uv r.m.vl), .int .u64 (uv r.m.ch), .int .u64 (uv r.m.cl), .int .i64 r.kind, .int .i64 r.port, .int .i64 r.tab, .int .u64 (uv r.s.vh), .int .u64 (uv r.s.vl), .int .u64 (uv r.s.ch), .int .u64 (uv r.s.cl)]) := Blk.new wr _ _
                  have HB1 := Lib.hid (HB.out.trans (hb1.mono HB.out.size))
                  have HR := Lib.hid hr
                  clear hr hpc hb1 HB
                  cases hs : sndR r (n : Int) KK with
                  | false =>
                    have HE : Hid (sT T KK = 2) := by show _ = _; rw [HS2.out, okT_no HTL.out HR.out (by unfold okR; rw [hs]; rfl)]; rfl
                    go_wp2_with fail
                    (with_reducible refine (sound_r false r (n : Int) pv KK _ hs (HP.out.on HB1.out)).mono ?_)
                    rintro e w2 ⟨rfl, hb2⟩
                    have B2 := HB1.out.trans (hb2.mono HB1.out.size)
                    clear HB1 hb2 N1 c0 c1' c2 c3 c4 c5 c6 c7 c8 c9 c10 c11
                    go_wp2
                    go_ret
                    exact ⟨by rw [HE.out]; rfl, B2⟩
                  | true =>
                    by_cases htab : r.tab < (T.length : Int)
                    · have HI2 : Hid ((L.take (i + 1)).all (okR T.length KK n) = true) := all_takeR HR.out HI.out (by unfold okR; rw [hs, decide_eq_true htab]; rfl)
                      have hge : ¬ (T.length : Int) ≤ r.tab := by omega
                      go_wp2_with fail
                      (with_reducible refine (sound_r true r (n : Int) pv KK _ hs (HP.out.on HB1.out)).mono ?_)
                      rintro e w2 ⟨rfl, hb2⟩
                      have HB2 := Lib.hid (HB1.out.trans (hb2.mono HB1.out.size))
                      have d7 := (N1.out.on hb2).cell 7
                      simp at d7
                      clear HB1 hb2 N1 c0 c1' c2 c3 c4 c5 c6 c7 c8 c9 c10 c11
                      go_wp2
                      go_roundg (L.length - (i + 1))
                      case measure => omega
                      case rel => exact ⟨i + 1, by omega, rfl, by go_num, HI2, HB2⟩
                    · have HE : Hid (sT T KK = 2) := by show _ = _; rw [HS2.out, okT_no HTL.out HR.out (by unfold okR; rw [hs, decide_eq_false htab]; rfl)]; rfl
                      have hge : (T.length : Int) ≤ r.tab := by omega
                      go_wp2_with fail
                      (with_reducible refine (sound_r true r (n : Int) pv KK _ hs (HP.out.on HB1.out)).mono ?_)
                      rintro e w2 ⟨rfl, hb2⟩
                      have B2 := HB1.out.trans (hb2.mono HB1.out.size)
                      have d7 := (N1.out.on hb2).cell 7
                      simp at d7
                      clear HB1 hb2 N1 c0 c1' c2 c3 c4 c5 c6 c7 c8 c9 c10 c11
                      go_wp2
                      go_ret
                      exact ⟨by rw [HE.out]; rfl, B2⟩
                · have hitz : ¬ (i : Int) < (L.length : Int) := by omega
                  have HO2 : Hid (okT T KK (n + 1) = true) := by
                    have e := HI.out
                    rw [List.take_of_length_le (by omega)] at e
                    show _ = _
                    rw [okT_succ HTL.out, HO.out, e]
                    rfl
                  go_wp2
                  go_roundg (T.length - (n + 1))
                  case measure => omega
                  case rel => exact ⟨n + 1, by omega, rfl, by go_num, HO2, HB⟩
            · have hntz : ¬ (n : Int) < (T.length : Int) := by omega
              obtain rfl : n = T.length := by omega
              have HE : Hid (sT T KK = 0) := by show _ = _; rw [HS2.out, HO.out]; rfl
              clear HC HO
              go_wp2
              go_ret
              exact ⟨by rw [HE.out]; rfl, HB.out⟩
set_option maxHeartbeats 8000000 in
set_option maxRecDepth 100000 in
theorem rtabs_c (v pv : Value) (T : List (List Rl)) (KK : List Int) (w : World) (hv : RuT w v T) (hp : Po w pv KK) : Calls Try.prog 13 #[v, pv] w fun e w' => e = .returned (.int .i64 (sT T KK)) ∧ Below w.heap.size w w' := by
  obtain ⟨A, cap, rfl, ht, hL, hA⟩ := hv
  have htz : (T.length : Int) ≤ 9223372036854775807 := by unfold maxLen at ht; omega
  by_cases h1 : T.length = 0 ∨ 3 < T.length
  · have hsT : sT T KK = 4 := by unfold sT; rw [if_pos h1]
    rw [hsT]
    clear hA hL hp hsT
    rcases h1 with h1 | h1
    · rw [h1]
      go_enter Try.func13, Try.ntmps13
      go_wp2
      go_ret
      exact ⟨rfl, Below.refl _ _⟩
    · have hz0 : ¬ (T.length : Int) = 0 := by omega
      have hz0' : ¬ T.length = 0 := by omega
      have hz3 : (3 : Int) < (T.length : Int) := by omega
      have hz1 : ¬ (T.length : Int) < 1 := by omega
      go_enter Try.func13, Try.ntmps13
      go_wp2
      go_ret
      exact ⟨rfl, Below.refl _ _⟩
  · have hz0 : ¬ (T.length : Int) = 0 := by omega
    have hz0' : ¬ T.length = 0 := by omega
    have hz3 : ¬ (3 : Int) < (T.length : Int) := by omega
    have hz3' : (T.length : Int) ≤ 3 := by omega
    have hz1 : ¬ (T.length : Int) < 1 := by omega
    have hsT : sT T KK = if 96 < cntT T T.length then 12 else if okT T KK T.length = true then 0 else 2 := by unfold sT; rw [if_neg h1]
    obtain ⟨b, o, rfl, hb0, hc⟩ := hA (by intro e; rw [e] at hz0'; exact hz0' rfl)
    have HC := Lib.hid hc
    have HP := Lib.hid hp
    have HL := Lib.hid hL
    have HS := Lib.hid hsT
    clear hc hp hA hL hsT
    go_enter Try.func13, Try.ntmps13
    go_wp2
    go_loopg [5, 6] T.length (fun gk s5 s22 wr => ∃ (k : Nat) (cn : Int), k ≤ T.length ∧ gk = T.length - k ∧ s22 = .int .i64 k ∧ s5 = .int .i64 cn ∧ Hid (cn = cntT T k) ∧ Hid (Below w.heap.size w wr))
    case atStart => exact ⟨0, 0, Nat.zero_le _, rfl, rfl, rfl, rfl, Below.refl _ _⟩
    case round =>
      obtain ⟨k, cn, hk, rfl, rfl, rfl, HN, HW⟩ := hrel
      by_cases hlt : k < T.length
      · have hltz : (k : Int) < (T.length : Int) := by omega
        obtain ⟨L, hTL⟩ : ∃ L, T[k]? = some L := ⟨_, List.getElem?_eq_getElem hlt⟩
        obtain ⟨s, hcell0, hru⟩ := HC.out k L hTL
        obtain ⟨A1, c1, rfl, _⟩ := hru.form
        have hcell := on_some HW.out hcell0
        obtain ⟨cm, hcm⟩ : ∃ cm, IntKind.i64.wrap (cn + (L.length : Int)) = cm := ⟨_, rfl⟩
        have HN2 : Hid (cm = cntT T (k + 1)) := by show _ = _; rw [cntT_succ hTL, ← HN.out, hcm]
        clear hTL hru HN hcell0
        go_wp2
        go_roundg (T.length - (k + 1))
        case measure => omega
        case rel => exact ⟨k + 1, cm, by omega, rfl, by go_num, rfl, HN2, HW⟩
      · have hltz : ¬ (k : Int) < (T.length : Int) := by omega
        obtain rfl : k = T.length := by omega
        by_cases h96 : 96 < cn
        · have HE : Hid (sT T KK = 12) := by show _ = _; rw [HS.out, if_pos (by rw [← HN.out]; exact h96)]
          clear HS HC HN
          go_wp2
          go_ret
          exact ⟨by rw [HE.out]; rfl, HW.out⟩
        · have HS2 : Hid (sT T KK = if okT T KK T.length = true then 0 else 2) := by show _ = _; rw [HS.out, if_neg (by rw [← HN.out]; exact h96)]
          clear HS HN
          go_wp2
          go_loopg [7, 8] T.length (fun gn s35 s8 wn => ∃ (n : Nat), n ≤ T.length ∧ gn = T.length - n ∧ s35 = .int .i64 n ∧ Hid (okT T KK n = true) ∧ Hid (Below w.heap.size w wn))
          case atStart => exact ⟨0, Nat.zero_le _, rfl, rfl, rfl, HW⟩
          case round =>
            clear HW
            obtain ⟨n, hn, rfl, rfl, HO, HB⟩ := hrel
            by_cases hnt : n < T.length
            · have hntz : (n : Int) < (T.length : Int) := by omega
              obtain ⟨L, hTL⟩ : ∃ L, T[n]? = some L := ⟨_, List.getElem?_eq_getElem hnt⟩
              obtain ⟨s, hcell0, hru⟩ := HC.out n L hTL
              obtain ⟨A1, c1, rfl, hA1⟩ := hru.form
              have hcell := on_some HB.out hcell0
              have HC0 := Lib.hid hcell0
              have HA1 := Lib.hid hA1
              have HTL := Lib.hid hTL
              have hLz : (L.length : Int) ≤ 9223372036854775807 := by have := HL.out L (List.mem_of_getElem? hTL); unfold maxLen at this; omega
              clear hTL hru hcell0 hA1
              go_wp2
              go_loopg [8] L.length (fun gi s42 wi => ∃ (i : Nat), i ≤ L.length ∧ gi = L.length - i ∧ s42 = .int .i64 i ∧ Hid ((L.take i).all (okR T.length KK n) = true) ∧ Hid (Below w.heap.size w wi))
              case atStart => exact ⟨0, Nat.zero_le _, rfl, rfl, rfl, HB⟩
              case round =>
                clear HB hcell
                obtain ⟨i, hi, rfl, rfl, HI, HB⟩ := hrel
                have hcell := on_some HB.out HC0.out
                by_cases hit : i < L.length
                · have hitz : (i : Int) < (L.length : Int) := by omega
                  obtain ⟨r, hr⟩ : ∃ r, L[i]? = some r := ⟨_, List.getElem?_eq_getElem hit⟩
                  obtain ⟨b1, o1, rfl, _, hpc⟩ := HA1.out (by intro h; rw [h] at hit; simp at hit)
                  obtain ⟨c0, c1', c2, c3, c4, c5, c6, c7, c8, c9, c10, c11⟩ := ((hpc i r hr).on HB.out).out
                  have HB1 := HB
                  have HR := Lib.hid hr
                  have HAT := Lib.hid (hpc i r hr)
                  clear hr hpc HB
                  cases hs : sndR r (n : Int) KK with
                  | false =>
                    have HE : Hid (sT T KK = 2) := by show _ = _; rw [HS2.out, okT_no HTL.out HR.out (by unfold okR; rw [hs]; rfl)]; rfl
                    go_wp2_with fail
                    (with_reducible refine (rsound_r false r (n : Int) pv KK _ hs (HP.out.on HB1.out)).mono ?_)
                    rintro e w2 ⟨rfl, hb2⟩
                    have B2 := HB1.out.trans (hb2.mono HB1.out.size)
                    clear HB1 hb2 HAT hcell c0 c1' c2 c3 c4 c5 c6 c7 c8 c9 c10 c11
                    go_wp2
                    go_ret
                    exact ⟨by rw [HE.out]; rfl, B2⟩
                  | true =>
                    by_cases htab : r.tab < (T.length : Int)
                    · have HI2 : Hid ((L.take (i + 1)).all (okR T.length KK n) = true) := all_takeR HR.out HI.out (by unfold okR; rw [hs, decide_eq_true htab]; rfl)
                      have hge : ¬ (T.length : Int) ≤ r.tab := by omega
                      go_wp2_with fail
                      (with_reducible refine (rsound_r true r (n : Int) pv KK _ hs (HP.out.on HB1.out)).mono ?_)
                      rintro e w2 ⟨rfl, hb2⟩
                      have HB2 := Lib.hid (HB1.out.trans (hb2.mono HB1.out.size))
                      have d7 := (HAT.out.on (HB1.out.trans (hb2.mono HB1.out.size))).out.2.2.2.2.2.2.2.1
                      have hcell2 := on_some (HB1.out.trans (hb2.mono HB1.out.size)) HC0.out
                      clear HB1 hb2 HAT hcell c0 c1' c2 c3 c4 c5 c6 c7 c8 c9 c10 c11
                      go_wp2
                      go_roundg (L.length - (i + 1))
                      case measure => omega
                      case rel => exact ⟨i + 1, by omega, rfl, by go_num, HI2, HB2⟩
                    · have HE : Hid (sT T KK = 2) := by show _ = _; rw [HS2.out, okT_no HTL.out HR.out (by unfold okR; rw [hs, decide_eq_false htab]; rfl)]; rfl
                      have hge : (T.length : Int) ≤ r.tab := by omega
                      go_wp2_with fail
                      (with_reducible refine (rsound_r true r (n : Int) pv KK _ hs (HP.out.on HB1.out)).mono ?_)
                      rintro e w2 ⟨rfl, hb2⟩
                      have B2 := HB1.out.trans (hb2.mono HB1.out.size)
                      have d7 := (HAT.out.on (HB1.out.trans (hb2.mono HB1.out.size))).out.2.2.2.2.2.2.2.1
                      have hcell2 := on_some (HB1.out.trans (hb2.mono HB1.out.size)) HC0.out
                      clear HB1 hb2 HAT hcell c0 c1' c2 c3 c4 c5 c6 c7 c8 c9 c10 c11
                      go_wp2
                      go_ret
                      exact ⟨by rw [HE.out]; rfl, B2⟩
                · have hitz : ¬ (i : Int) < (L.length : Int) := by omega
                  have HO2 : Hid (okT T KK (n + 1) = true) := by
                    have e := HI.out
                    rw [List.take_of_length_le (by omega)] at e
                    show _ = _
                    rw [okT_succ HTL.out, HO.out, e]
                    rfl
                  go_wp2
                  go_roundg (T.length - (n + 1))
                  case measure => omega
                  case rel => exact ⟨n + 1, by omega, rfl, by go_num, HO2, HB⟩
            · have hntz : ¬ (n : Int) < (T.length : Int) := by omega
              obtain rfl : n = T.length := by omega
              have HE : Hid (sT T KK = 0) := by show _ = _; rw [HS2.out, HO.out]; rfl
              clear HC HO
              go_wp2
              go_ret
              exact ⟨by rw [HE.out]; rfl, HB.out⟩
end Go.Proofs

namespace Go.Proofs.Ytmlammdipbkkfaa
open Go.ChangeShapes Go.WideShapes Go.ChangeAt Go.RowKit Go.Joins Go.Deep Go.Proofs.Hd
theorem cellsRules : Try.prog.cellsOf 22 = 1 := by kernel_rfl
set_option maxRecDepth 100000 in
/-- A slice of rules that lies in memory. -/
theorem read_rules {H : Type} {enc : TypeId × Value → H} {W : World} {n : Nat} {cs : List Value} {y : DataW H × List MemPlace} (hf : DataW.trod enc Try.prog W 0 (fun _ => true) true n 22 cs = some y) :
    ∃ (A : Option Addr) (cap : Nat) (L : List Rl), cs = [.slice A L.length cap] ∧ Ru W (.slice A L.length cap) L ∧ L.length ≤ cap ∧ L.length ≤ maxLen := by
  rcases open_slice Try.underlying22 hf with ⟨h1, _⟩ | ⟨a, len, cap, m, n, D, Pl, hcs, _, hlc, hcm, hm, hx, hel⟩
  · exact ⟨none, 0, [], h1, .inl ⟨rfl, none, 0, rfl⟩, Nat.le_refl _, Nat.zero_le _⟩
  · rw [cellsRule] at hel
    have hm' : m = cap := by simpa using hm
    subst hm'
    obtain ⟨f, hfr⟩ := choose_lt (α := Rl) (p := fun i r => ∀ (j : Nat) (u : Value), r.cs[j]? = some u → W.cell? ((a.add (i * 12)).add j) = some u) (fun i (hi : i < m) => by
      obtain ⟨cs', hc, ht⟩ := hel i hi
      obtain ⟨_, hl, hat⟩ := World.cells?_some hc
      obtain ⟨r, rfl⟩ := read_rule hl ht
      refine ⟨r, fun j u hj => ?_⟩
      have hj' : j < 12 := by have := (List.getElem?_eq_some_iff.1 hj).1; rwa [Rl.cs_len] at this
      exact (hat j hj').trans hj)
    have hlen : ((List.range len).map f).length = len := by simp
    refine ⟨some a, m, (List.range len).map f, by rw [hlen]; exact hcs, ?_, by rw [hlen]; exact hlc, by rw [hlen]; exact Nat.le_trans hlc hcm⟩
    by_cases h0 : len = 0
    · subst h0
      exact .inl ⟨by simp, _, _, rfl⟩
    · have h1 := hfr 0 (by omega) 0 _ rfl
      obtain ⟨b, off, spot⟩ := a
      have hs : spot = none := by
        have := World.cell?_spot h1
        simpa [Addr.add] using this
      subst hs
      have hlt := World.block_lt_of_cell? W _ h1
      rw [add_plainR, add_plainR] at hlt
      refine .inr ⟨b, off, m, rfl, hlt, fun k r hk j u hj => ?_⟩
      obtain ⟨hkl, rfl⟩ := List.getElem?_eq_some_iff.1 hk
      simp only [List.length_map, List.length_range] at hkl
      simp only [List.getElem_map, List.getElem_range] at hj
      have := hfr k (by omega) j u hj
      rw [add_plainR, add_plainR] at this
      exact this
set_option maxRecDepth 100000 in
/-- A slice of rules is no longer than its capacity. -/
theorem open_rcap {H : Type} {enc : TypeId × Value → H} {W : World} {base : Nat} {v : Value} {d : DataW H} {p : List MemPlace} (hok : Value.okWide Try.prog W .any base 22 v)
    (h0 : DataW.Trod enc Try.prog W 0 (fun _ => true) true 22 v d p) : ∀ A n c, v = .slice A n c → n ≤ c := by
  obtain ⟨fuel, hf⟩ := h0
  obtain ⟨va, vl, vc, rfl⟩ := okWide_slice Try.underlying22 hok
  obtain ⟨A, cap, L, e, _, h, _⟩ := read_rules hf
  have e2 : va = A ∧ vl = L.length ∧ vc = cap := by simpa [Value.cells] using e
  intro A' n c e'
  injection e' with e1 e3 e4
  omega
set_option maxRecDepth 100000 in
/-- A slice of slices of rules. -/
theorem open_tables {H : Type} {enc : TypeId × Value → H} {W : World} {base : Nat} {v : Value} {d : DataW H} {p : List MemPlace} (hok : Value.okWide Try.prog W .any base 30 v)
    (h0 : DataW.Trod enc Try.prog W 0 (fun _ => true) true 30 v d p) : ∃ T : List (List Rl), RuT W v T := by
  obtain ⟨fuel, hf⟩ := h0
  obtain ⟨va, vl, vc, rfl⟩ := okWide_slice Try.underlying30 hok
  rcases open_slice Try.underlying30 hf with ⟨h1, _⟩ | ⟨a, len, cap, m, n, D, Pl, hcs, _, hlc, hcm, hm, hx, hel⟩
  · have : va = none ∧ vl = 0 ∧ vc = 0 := by simpa [Value.cells] using h1
    obtain ⟨rfl, rfl, rfl⟩ := this
    exact ⟨[], none, 0, rfl, Nat.zero_le _, fun L hL => absurd hL (List.not_mem_nil), fun h => absurd rfl h⟩
  · have hv : va = some a ∧ vl = len ∧ vc = cap := by simpa [Value.cells] using hcs
    obtain ⟨rfl, rfl, rfl⟩ := hv
    rw [cellsRules] at hel
    have hm' : m = vc := by simpa using hm
    subst hm'
    obtain ⟨f, hfr⟩ := choose_lt (α := List Rl) (p := fun i L => L.length ≤ maxLen ∧ ∃ s, W.cell? ((a.add (i * 1)).add 0) = some s ∧ Ru W s L) (fun i (hi : i < m) => by
      obtain ⟨cs', hc, ht⟩ := hel i hi
      obtain ⟨_, hl, hat⟩ := World.cells?_some hc
      obtain ⟨A, cap, L, rfl, hr, _, hmx⟩ := read_rules ht
      exact ⟨L, hmx, _, hat 0 (by omega), hr⟩)
    have hlen : ((List.range vl).map f).length = vl := by simp
    refine ⟨(List.range vl).map f, some a, m, by rw [hlen], by rw [hlen]; exact Nat.le_trans hlc hcm, fun L hL => ?_, fun hne => ?_⟩
    · obtain ⟨i, hi, rfl⟩ := List.mem_map.1 hL
      exact (hfr i (by have := List.mem_range.1 hi; omega)).1
    · have h0 : 0 < vl := by
        rcases Nat.eq_zero_or_pos vl with h | h
        · subst h; exact absurd (by simp) hne
        · exact h
      obtain ⟨_, s, h1, _⟩ := hfr 0 (by omega)
      obtain ⟨b, off, spot⟩ := a
      have hs : spot = none := by
        have := World.cell?_spot h1
        simpa [Addr.add] using this
      subst hs
      have hlt := World.block_lt_of_cell? W _ h1
      rw [add_plainR, add_plainR] at hlt
      refine ⟨b, off, rfl, hlt, fun k L hk => ?_⟩
      obtain ⟨hkl, rfl⟩ := List.getElem?_eq_some_iff.1 hk
      simp only [List.length_map, List.length_range] at hkl
      simp only [List.getElem_map, List.getElem_range]
      obtain ⟨_, s, h2, h3⟩ := hfr k (by omega)
      rw [add_plainR, add_plainR, Nat.add_zero, Nat.mul_one] at h2
      exact ⟨s, h2, h3⟩
end Go.Proofs.Ytmlammdipbkkfaa

namespace Go.Proofs.Hd
open Go.RowKit
/-- Numbers as cells. -/
def ints (ks : List Nat) : List Value := ks.map fun (k : Nat) => Value.int .i64 (k : Int)
theorem ints_len (ks : List Nat) : (ints ks).length = ks.length := by simp [ints]
theorem ints_snoc (ks : List Nat) (k : Nat) : ints (ks ++ [k]) = ints ks ++ [.int .i64 (k : Int)] := by simp [ints]
/-- v is a slice that reads as the numbers ks. -/
def PlI (w : World) (v : Value) (ks : List Nat) : Prop := (ks = [] ∧ ∃ A cap, v = .slice A 0 cap) ∨ ∃ g cap, v = .slice (some ⟨g, 0, none⟩) ks.length cap ∧ g < w.heap.size ∧ ∀ (j k : Nat), ks[j]? = some k → w.cell? ⟨g, j, none⟩ = some (.int .i64 (k : Int))
theorem PlI.on {w w' : World} {v : Value} {ks : List Nat} (h : PlI w v ks) (hb : Below w.heap.size w w') : PlI w' v ks := by
  rcases h with h | ⟨g, cap, e, hg, h⟩
  · exact .inl h
  · exact .inr ⟨g, cap, e, Nat.lt_of_lt_of_le hg hb.size, fun j k hk => on_some hb (h j k hk)⟩
end Go.Proofs.Hd

namespace Go.Proofs.Hd
open Go.RowKit Go.Sort
/-- How the places i and j of rules p and q are compared. -/
def cfP (p q : Rl) (i j : Nat) : Int := if q.pri < p.pri then -1 else if p.pri < q.pri then 1 else icmp (i : Int) (j : Int)
/-- How two places of a table are compared. -/
def cfB (L : List Rl) (i j : Nat) : Int := cfP L[i]! L[j]! i j
theorem cfP_lt (p q : Rl) (i j : Nat) : decide (cfP p q i j < 0) = decide (q.pri < p.pri ∨ (p.pri = q.pri ∧ i < j)) := by
  unfold cfP icmp
  by_cases h1 : q.pri < p.pri
  · simp [h1]
  · by_cases h2 : p.pri < q.pri
    · have : ¬ p.pri = q.pri := by omega
      simp [h1, h2, this]
    · have : p.pri = q.pri := by omega
      by_cases h3 : i < j
      · simp [this, h3]
      · by_cases h4 : j < i <;> simp [this, h3, h4]
theorem cfB_lt (L : List Rl) (i j : Nat) : decide (cfB L i j < 0) = decide (L[j]!.pri < L[i]!.pri ∨ (L[i]!.pri = L[j]!.pri ∧ i < j)) := cfP_lt _ _ _ _
end Go.Proofs.Hd
namespace Go.Proofs
open Go.RowKit Go.Proofs.Hd Go.Sort Go.Lib
attribute [local go_sem] uv_nonneg
set_option maxRecDepth 100000 in
theorem before_g (a b : Rl) (x : Bool) (w : World) (hx : decide (b.pri < a.pri) = x) : Calls Try.prog 37 #[.agg #[.int .i64 a.pri, .int .u64 (uv a.m.vh), .int .u64 (uv a.m.vl), .int .u64 (uv a.m.ch), .int .u64 (uv a.m.cl), .int .i64 a.kind, .int .i64 a.port, .int .i64 a.tab, .int .u64 (uv a.s.vh), .int .u64 (uv a.s.vl), .int .u64 (uv a.s.ch), .int .u64 (uv a.s.cl)], .agg #[.int .i64 b.pri, .int .u64 (uv b.m.vh), .int .u64 (uv b.m.vl), .int .u64 (uv b.m.ch), .int .u64 (uv b.m.cl), .int .i64 b.kind, .int .i64 b.port, .int .i64 b.tab, .int .u64 (uv b.s.vh), .int .u64 (uv b.s.vl), .int .u64 (uv b.s.ch), .int .u64 (uv b.s.cl)]] w fun e w' => e = .returned (.bool x) ∧ Grew w w' := by
  have B0 : Grew w ((w.alloc (.cells #[.int .i64 a.pri, .int .u64 (uv a.m.vh), .int .u64 (uv a.m.vl), .int .u64 (uv a.m.ch), .int .u64 (uv a.m.cl), .int .i64 a.kind, .int .i64 a.port, .int .i64 a.tab, .int .u64 (uv a.s.vh), .int .u64 (uv a.s.vl), .int .u64 (uv a.s.ch), .int .u64 (uv a.s.cl)] 55)).alloc (.cells #[.int .i64 b.pri, .int .u64 (uv b.m.vh), .int .u64 (uv b.m.vl), .int .u64 (uv b.m.ch), .int .u64 (uv b.m.cl), .int .i64 b.kind, .int .i64 b.port, .int .i64 b.tab, .int .u64 (uv b.s.vh), .int .u64 (uv b.s.vl), .int .u64 (uv b.s.ch), .int .u64 (uv b.s.cl)] 55)) := (Grew.alloc1 _ _).trans (Grew.alloc1 _ _)
  obtain ⟨r, hr⟩ : ∃ r, icmp b.pri a.pri = r := ⟨_, rfl⟩
  have hrx : decide (r < 0) = x := by
    rw [← hx, ← hr]
    unfold icmp
    by_cases h1 : b.pri < a.pri
    · rw [if_pos h1]; simp [h1]
    · rw [if_neg h1]; by_cases h2 : a.pri < b.pri <;> simp [h1, h2]
  clear hx
  go_enter Try.func37, Try.ntmps37
  go_wp2_with fail
  refine (comp_g a b r _ hr).mono ?_
  rintro e w' ⟨rfl, hb⟩
  have B := B0.trans hb
  clear B0 hb
  go_wp2
  go_ret
  exact ⟨by subst hrx; rfl, B⟩
set_option maxHeartbeats 4000000 in
set_option maxRecDepth 100000 in
theorem tcmp_lt (p q : Rl) (i j n b o cap : Nat) (w : World) (hi : i < n) (hj : j < n) (hn : n ≤ 4611686018427387904) (hp : AtR w b (o + i * 12) p) (hq : AtR w b (o + j * 12) q) (h1 : decide (q.pri < p.pri) = true) : Calls Try.prog 24 #[.slice (some ⟨b, o, none⟩) n cap, .int .i64 i, .int .i64 j] w fun e w' => e = .returned (.int .i64 (-1)) ∧ Grew w w' := by
  have H1 := h1
  clear h1
  have hiz : (i : Int) < (n : Int) := by omega
  have hjz : (j : Int) < (n : Int) := by omega
  have hnz : (n : Int) ≤ 4611686018427387904 := by omega
  have KP : ∀ W, Grew w W → (Grew w W ∧ W.cell? ⟨b, o + i * 12, none⟩ = some (.int .i64 p.pri) ∧ W.cell? ⟨b, o + i * 12 + 1, none⟩ = some (.int .u64 (uv p.m.vh)) ∧ W.cell? ⟨b, o + i * 12 + 2, none⟩ = some (.int .u64 (uv p.m.vl)) ∧ W.cell? ⟨b, o + i * 12 + 3, none⟩ = some (.int .u64 (uv p.m.ch)) ∧ W.cell? ⟨b, o + i * 12 + 4, none⟩ = some (.int .u64 (uv p.m.cl)) ∧ W.cell? ⟨b, o + i * 12 + 5, none⟩ = some (.int .i64 p.kind) ∧ W.cell? ⟨b, o + i * 12 + 6, none⟩ = some (.int .i64 p.port) ∧ W.cell? ⟨b, o + i * 12 + 7, none⟩ = some (.int .i64 p.tab) ∧ W.cell? ⟨b, o + i * 12 + 8, none⟩ = some (.int .u64 (uv p.s.vh)) ∧ W.cell? ⟨b, o + i * 12 + 9, none⟩ = some (.int .u64 (uv p.s.vl)) ∧ W.cell? ⟨b, o + i * 12 + 10, none⟩ = some (.int .u64 (uv p.s.ch)) ∧ W.cell? ⟨b, o + i * 12 + 11, none⟩ = some (.int .u64 (uv p.s.cl)) ∧ W.cell? ⟨b, o + j * 12, none⟩ = some (.int .i64 q.pri) ∧ W.cell? ⟨b, o + j * 12 + 1, none⟩ = some (.int .u64 (uv q.m.vh)) ∧ W.cell? ⟨b, o + j * 12 + 2, none⟩ = some (.int .u64 (uv q.m.vl)) ∧ W.cell? ⟨b, o + j * 12 + 3, none⟩ = some (.int .u64 (uv q.m.ch)) ∧ W.cell? ⟨b, o + j * 12 + 4, none⟩ = some (.int .u64 (uv q.m.cl)) ∧ W.cell? ⟨b, o + j * 12 + 5, none⟩ = some (.int .i64 q.kind) ∧ W.cell? ⟨b, o + j * 12 + 6, none⟩ = some (.int .i64 q.port) ∧ W.cell? ⟨b, o + j * 12 + 7, none⟩ = some (.int .i64 q.tab) ∧ W.cell? ⟨b, o + j * 12 + 8, none⟩ = some (.int .u64 (uv q.s.vh)) ∧ W.cell? ⟨b, o + j * 12 + 9, none⟩ = some (.int .u64 (uv q.s.vl)) ∧ W.cell? ⟨b, o + j * 12 + 10, none⟩ = some (.int .u64 (uv q.s.ch)) ∧ W.cell? ⟨b, o + j * 12 + 11, none⟩ = some (.int .u64 (uv q.s.cl))) := fun W hb => by
    obtain ⟨x0, x1, x2, x3, x4, x5, x6, x7, x8, x9, x10, x11⟩ := (hp.on hb.below).out
    obtain ⟨y0, y1, y2, y3, y4, y5, y6, y7, y8, y9, y10, y11⟩ := (hq.on hb.below).out
    exact ⟨hb, x0, x1, x2, x3, x4, x5, x6, x7, x8, x9, x10, x11, y0, y1, y2, y3, y4, y5, y6, y7, y8, y9, y10, y11⟩
  have HKP := Lib.hid KP
  clear KP hp hq
  go_enter Try.func24, Try.ntmps24
  go_upto_region 1 with (fail)
  refine wp_region_held_drew (S := fun w' => Grew w w' ∧ w'.cell? ⟨b, o + i * 12, none⟩ = some (.int .i64 p.pri) ∧ w'.cell? ⟨b, o + i * 12 + 1, none⟩ = some (.int .u64 (uv p.m.vh)) ∧ w'.cell? ⟨b, o + i * 12 + 2, none⟩ = some (.int .u64 (uv p.m.vl)) ∧ w'.cell? ⟨b, o + i * 12 + 3, none⟩ = some (.int .u64 (uv p.m.ch)) ∧ w'.cell? ⟨b, o + i * 12 + 4, none⟩ = some (.int .u64 (uv p.m.cl)) ∧ w'.cell? ⟨b, o + i * 12 + 5, none⟩ = some (.int .i64 p.kind) ∧ w'.cell? ⟨b, o + i * 12 + 6, none⟩ = some (.int .i64 p.port) ∧ w'.cell? ⟨b, o + i * 12 + 7, none⟩ = some (.int .i64 p.tab) ∧ w'.cell? ⟨b, o + i * 12 + 8, none⟩ = some (.int .u64 (uv p.s.vh)) ∧ w'.cell? ⟨b, o + i * 12 + 9, none⟩ = some (.int .u64 (uv p.s.vl)) ∧ w'.cell? ⟨b, o + i * 12 + 10, none⟩ = some (.int .u64 (uv p.s.ch)) ∧ w'.cell? ⟨b, o + i * 12 + 11, none⟩ = some (.int .u64 (uv p.s.cl)) ∧ w'.cell? ⟨b, o + j * 12, none⟩ = some (.int .i64 q.pri) ∧ w'.cell? ⟨b, o + j * 12 + 1, none⟩ = some (.int .u64 (uv q.m.vh)) ∧ w'.cell? ⟨b, o + j * 12 + 2, none⟩ = some (.int .u64 (uv q.m.vl)) ∧ w'.cell? ⟨b, o + j * 12 + 3, none⟩ = some (.int .u64 (uv q.m.ch)) ∧ w'.cell? ⟨b, o + j * 12 + 4, none⟩ = some (.int .u64 (uv q.m.cl)) ∧ w'.cell? ⟨b, o + j * 12 + 5, none⟩ = some (.int .i64 q.kind) ∧ w'.cell? ⟨b, o + j * 12 + 6, none⟩ = some (.int .i64 q.port) ∧ w'.cell? ⟨b, o + j * 12 + 7, none⟩ = some (.int .i64 q.tab) ∧ w'.cell? ⟨b, o + j * 12 + 8, none⟩ = some (.int .u64 (uv q.s.vh)) ∧ w'.cell? ⟨b, o + j * 12 + 9, none⟩ = some (.int .u64 (uv q.s.vl)) ∧ w'.cell? ⟨b, o + j * 12 + 10, none⟩ = some (.int .u64 (uv q.s.ch)) ∧ w'.cell? ⟨b, o + j * 12 + 11, none⟩ = some (.int .u64 (uv q.s.cl))) (by kernel_rfl) (HKP.out _ (Grew.drew1 w)) (fun hHeld => ?_)
  refine wpAnyH_take (i := 0) (oi := ⟨some 8, _, _, _, _, _⟩) (v := ?vf0) rfl (by kernel_rfl) (by kernel_rfl) (by kernel_rfl) (fun _ _ _ h => h) (Or.inl ⟨by rfl, ?yf0⟩) hHeld ?rf0
  case yf0 => (intro w' hSw; (try dsimp only at hSw); go_simp; try (with_reducible rfl))
  simp only [Act.put, List.setIfInBounds_toArray, List.set_cons_zero, List.set_cons_succ]
  refine wpAnyH_take (i := 1) (oi := ⟨some 9, _, _, _, _, _⟩) (v := ?vf1) rfl (by kernel_rfl) (by kernel_rfl) (by kernel_rfl) (fun _ _ _ h => h) (Or.inl ⟨by rfl, ?yf1⟩) hHeld ?rf1
  case yf1 => (intro w' hSw; (try dsimp only at hSw); go_simp; try (with_reducible rfl))
  simp only [Act.put, List.setIfInBounds_toArray, List.set_cons_zero, List.set_cons_succ]
  refine wpAnyH_take (i := 2) (oi := ⟨some 10, _, _, _, _, _⟩) (v := ?vf2) rfl (by kernel_rfl) (by kernel_rfl) (by kernel_rfl) (fun _ _ _ h => h) (Or.inl ⟨by rfl, ?yf2⟩) hHeld ?rf2
  case yf2 => (intro w' hSw; (try dsimp only at hSw); go_simp; try (with_reducible rfl))
  simp only [Act.put, List.setIfInBounds_toArray, List.set_cons_zero, List.set_cons_succ]
  refine wpAnyH_take (i := 3) (oi := ⟨some 11, _, _, _, _, _⟩) (v := ?vf3) rfl (by kernel_rfl) (by kernel_rfl) (by kernel_rfl) (fun _ _ _ h => h) (Or.inl ⟨by rfl, ?yf3⟩) hHeld ?rf3
  case yf3 => (intro w' hSw; (try dsimp only at hSw); go_simp; try (with_reducible rfl))
  simp only [Act.put, List.setIfInBounds_toArray, List.set_cons_zero, List.set_cons_succ]
  refine wpAnyH_take (i := 4) (oi := ⟨some 12, _, _, _, _, _⟩) (v := ?vf4) rfl (by kernel_rfl) (by kernel_rfl) (by kernel_rfl) (fun _ _ _ h => h) (Or.inl ⟨by rfl, ?yf4⟩) hHeld ?rf4
  case yf4 => (intro w' hSw; (try dsimp only at hSw); go_simp; try (with_reducible rfl))
  simp only [Act.put, List.setIfInBounds_toArray, List.set_cons_zero, List.set_cons_succ]
  refine wpAnyH_take (i := 5) (oi := ⟨some 13, _, _, _, _, _⟩) (v := ?vf5) rfl (by kernel_rfl) (by kernel_rfl) (by kernel_rfl) (fun _ _ _ h => h) (Or.inl ⟨by rfl, ?yf5⟩) hHeld ?rf5
  case yf5 => (intro w' hSw; (try dsimp only at hSw); go_simp; try (with_reducible rfl))
  simp only [Act.put, List.setIfInBounds_toArray, List.set_cons_zero, List.set_cons_succ]
  refine wpAnyH_take (i := 6) (oi := ⟨some 14, _, _, _, _, _⟩) (v := ?vf6) rfl (by kernel_rfl) (by kernel_rfl) (by kernel_rfl) (fun _ _ _ h => h) (Or.inl ⟨by rfl, ?yf6⟩) hHeld ?rf6
  case yf6 => (intro w' hSw; (try dsimp only at hSw); go_simp; try (with_reducible rfl))
  simp only [Act.put, List.setIfInBounds_toArray, List.set_cons_zero, List.set_cons_succ]
  refine wpAnyH_take (i := 7) (oi := ⟨some 15, _, _, _, _, _⟩) (v := ?vf7) rfl (by kernel_rfl) (by kernel_rfl) (by kernel_rfl) (fun _ _ _ h => h) (Or.inl ⟨by rfl, ?yf7⟩) hHeld ?rf7
  case yf7 => (intro w' hSw; (try dsimp only at hSw); go_simp; try (with_reducible rfl))
  simp only [Act.put, List.setIfInBounds_toArray, List.set_cons_zero, List.set_cons_succ]
  refine wpAnyH_ready (rs := [8]) (by kernel_rfl) (by simp) ?_
  refine AllReadyH.cons (o := ⟨some 16, _, _, _, _, _⟩) rfl (fun K hK => ?_) AllReadyH.nil
  go_simp
  (with_reducible refine (before_g p q true _ H1).mono ?_)
  rintro e w5 ⟨rfl, hb⟩
  (try dsimp only)
  refine hK.out _ _ (HKP.out _ (hHeld.1.trans hb)) (fun hNext => ?_)
  clear hK K hHeld
  have hHeld := hNext
  clear hNext
  try simp only [Act.put, List.setIfInBounds_toArray, List.set_cons_zero, List.set_cons_succ]
  refine wpAnyH_take (i := 9) (oi := ⟨some 7, _, _, _, _, _⟩) (v := ?vf9) rfl (by kernel_rfl) (by kernel_rfl) (by kernel_rfl) (fun _ _ _ h => h) (Or.inl ⟨by rfl, ?yf9⟩) hHeld ?rf9
  case yf9 => (intro w' hSw; (try dsimp only at hSw); go_simp; try (with_reducible rfl))
  simp only [Act.put, List.setIfInBounds_toArray, List.set_cons_zero, List.set_cons_succ]
  refine wpAnyH_done (by kernel_rfl) ?_ _
  have hL := hHeld.1
  clear hHeld HKP
  go_wp2
  go_ret
  exact ⟨rfl, hL⟩
set_option maxHeartbeats 4000000 in
set_option maxRecDepth 100000 in
theorem tcmp_gt (p q : Rl) (i j n b o cap : Nat) (w : World) (hi : i < n) (hj : j < n) (hn : n ≤ 4611686018427387904) (hp : AtR w b (o + i * 12) p) (hq : AtR w b (o + j * 12) q) (h1 : decide (q.pri < p.pri) = false) (h2 : decide (p.pri < q.pri) = true) : Calls Try.prog 24 #[.slice (some ⟨b, o, none⟩) n cap, .int .i64 i, .int .i64 j] w fun e w' => e = .returned (.int .i64 1) ∧ Grew w w' := by
  have H1 := h1
  have H2 := h2
  clear h1 h2
  have hiz : (i : Int) < (n : Int) := by omega
  have hjz : (j : Int) < (n : Int) := by omega
  have hnz : (n : Int) ≤ 4611686018427387904 := by omega
  have KP : ∀ W, Grew w W → (Grew w W ∧ W.cell? ⟨b, o + i * 12, none⟩ = some (.int .i64 p.pri) ∧ W.cell? ⟨b, o + i * 12 + 1, none⟩ = some (.int .u64 (uv p.m.vh)) ∧ W.cell? ⟨b, o + i * 12 + 2, none⟩ = some (.int .u64 (uv p.m.vl)) ∧ W.cell? ⟨b, o + i * 12 + 3, none⟩ = some (.int .u64 (uv p.m.ch)) ∧ W.cell? ⟨b, o + i * 12 + 4, none⟩ = some (.int .u64 (uv p.m.cl)) ∧ W.cell? ⟨b, o + i * 12 + 5, none⟩ = some (.int .i64 p.kind) ∧ W.cell? ⟨b, o + i * 12 + 6, none⟩ = some (.int .i64 p.port) ∧ W.cell? ⟨b, o + i * 12 + 7, none⟩ = some (.int .i64 p.tab) ∧ W.cell? ⟨b, o + i * 12 + 8, none⟩ = some (.int .u64 (uv p.s.vh)) ∧ W.cell? ⟨b, o + i * 12 + 9, none⟩ = some (.int .u64 (uv p.s.vl)) ∧ W.cell? ⟨b, o + i * 12 + 10, none⟩ = some (.int .u64 (uv p.s.ch)) ∧ W.cell? ⟨b, o + i * 12 + 11, none⟩ = some (.int .u64 (uv p.s.cl)) ∧ W.cell? ⟨b, o + j * 12, none⟩ = some (.int .i64 q.pri) ∧ W.cell? ⟨b, o + j * 12 + 1, none⟩ = some (.int .u64 (uv q.m.vh)) ∧ W.cell? ⟨b, o + j * 12 + 2, none⟩ = some (.int .u64 (uv q.m.vl)) ∧ W.cell? ⟨b, o + j * 12 + 3, none⟩ = some (.int .u64 (uv q.m.ch)) ∧ W.cell? ⟨b, o + j * 12 + 4, none⟩ = some (.int .u64 (uv q.m.cl)) ∧ W.cell? ⟨b, o + j * 12 + 5, none⟩ = some (.int .i64 q.kind) ∧ W.cell? ⟨b, o + j * 12 + 6, none⟩ = some (.int .i64 q.port) ∧ W.cell? ⟨b, o + j * 12 + 7, none⟩ = some (.int .i64 q.tab) ∧ W.cell? ⟨b, o + j * 12 + 8, none⟩ = some (.int .u64 (uv q.s.vh)) ∧ W.cell? ⟨b, o + j * 12 + 9, none⟩ = some (.int .u64 (uv q.s.vl)) ∧ W.cell? ⟨b, o + j * 12 + 10, none⟩ = some (.int .u64 (uv q.s.ch)) ∧ W.cell? ⟨b, o + j * 12 + 11, none⟩ = some (.int .u64 (uv q.s.cl))) := fun W hb => by
    obtain ⟨x0, x1, x2, x3, x4, x5, x6, x7, x8, x9, x10, x11⟩ := (hp.on hb.below).out
    obtain ⟨y0, y1, y2, y3, y4, y5, y6, y7, y8, y9, y10, y11⟩ := (hq.on hb.below).out
    exact ⟨hb, x0, x1, x2, x3, x4, x5, x6, x7, x8, x9, x10, x11, y0, y1, y2, y3, y4, y5, y6, y7, y8, y9, y10, y11⟩
  have HKP := Lib.hid KP
  clear KP hp hq
  go_enter Try.func24, Try.ntmps24
  go_upto_region 1 with (fail)
  refine wp_region_held_drew (S := fun w' => Grew w w' ∧ w'.cell? ⟨b, o + i * 12, none⟩ = some (.int .i64 p.pri) ∧ w'.cell? ⟨b, o + i * 12 + 1, none⟩ = some (.int .u64 (uv p.m.vh)) ∧ w'.cell? ⟨b, o + i * 12 + 2, none⟩ = some (.int .u64 (uv p.m.vl)) ∧ w'.cell? ⟨b, o + i * 12 + 3, none⟩ = some (.int .u64 (uv p.m.ch)) ∧ w'.cell? ⟨b, o + i * 12 + 4, none⟩ = some (.int .u64 (uv p.m.cl)) ∧ w'.cell? ⟨b, o + i * 12 + 5, none⟩ = some (.int .i64 p.kind) ∧ w'.cell? ⟨b, o + i * 12 + 6, none⟩ = some (.int .i64 p.port) ∧ w'.cell? ⟨b, o + i * 12 + 7, none⟩ = some (.int .i64 p.tab) ∧ w'.cell? ⟨b, o + i * 12 + 8, none⟩ = some (.int .u64 (uv p.s.vh)) ∧ w'.cell? ⟨b, o + i * 12 + 9, none⟩ = some (.int .u64 (uv p.s.vl)) ∧ w'.cell? ⟨b, o + i * 12 + 10, none⟩ = some (.int .u64 (uv p.s.ch)) ∧ w'.cell? ⟨b, o + i * 12 + 11, none⟩ = some (.int .u64 (uv p.s.cl)) ∧ w'.cell? ⟨b, o + j * 12, none⟩ = some (.int .i64 q.pri) ∧ w'.cell? ⟨b, o + j * 12 + 1, none⟩ = some (.int .u64 (uv q.m.vh)) ∧ w'.cell? ⟨b, o + j * 12 + 2, none⟩ = some (.int .u64 (uv q.m.vl)) ∧ w'.cell? ⟨b, o + j * 12 + 3, none⟩ = some (.int .u64 (uv q.m.ch)) ∧ w'.cell? ⟨b, o + j * 12 + 4, none⟩ = some (.int .u64 (uv q.m.cl)) ∧ w'.cell? ⟨b, o + j * 12 + 5, none⟩ = some (.int .i64 q.kind) ∧ w'.cell? ⟨b, o + j * 12 + 6, none⟩ = some (.int .i64 q.port) ∧ w'.cell? ⟨b, o + j * 12 + 7, none⟩ = some (.int .i64 q.tab) ∧ w'.cell? ⟨b, o + j * 12 + 8, none⟩ = some (.int .u64 (uv q.s.vh)) ∧ w'.cell? ⟨b, o + j * 12 + 9, none⟩ = some (.int .u64 (uv q.s.vl)) ∧ w'.cell? ⟨b, o + j * 12 + 10, none⟩ = some (.int .u64 (uv q.s.ch)) ∧ w'.cell? ⟨b, o + j * 12 + 11, none⟩ = some (.int .u64 (uv q.s.cl))) (by kernel_rfl) (HKP.out _ (Grew.drew1 w)) (fun hHeld => ?_)
  refine wpAnyH_take (i := 0) (oi := ⟨some 8, _, _, _, _, _⟩) (v := ?vf0) rfl (by kernel_rfl) (by kernel_rfl) (by kernel_rfl) (fun _ _ _ h => h) (Or.inl ⟨by rfl, ?yf0⟩) hHeld ?rf0
  case yf0 => (intro w' hSw; (try dsimp only at hSw); go_simp; try (with_reducible rfl))
  simp only [Act.put, List.setIfInBounds_toArray, List.set_cons_zero, List.set_cons_succ]
  refine wpAnyH_take (i := 1) (oi := ⟨some 9, _, _, _, _, _⟩) (v := ?vf1) rfl (by kernel_rfl) (by kernel_rfl) (by kernel_rfl) (fun _ _ _ h => h) (Or.inl ⟨by rfl, ?yf1⟩) hHeld ?rf1
  case yf1 => (intro w' hSw; (try dsimp only at hSw); go_simp; try (with_reducible rfl))
  simp only [Act.put, List.setIfInBounds_toArray, List.set_cons_zero, List.set_cons_succ]
  refine wpAnyH_take (i := 2) (oi := ⟨some 10, _, _, _, _, _⟩) (v := ?vf2) rfl (by kernel_rfl) (by kernel_rfl) (by kernel_rfl) (fun _ _ _ h => h) (Or.inl ⟨by rfl, ?yf2⟩) hHeld ?rf2
  case yf2 => (intro w' hSw; (try dsimp only at hSw); go_simp; try (with_reducible rfl))
  simp only [Act.put, List.setIfInBounds_toArray, List.set_cons_zero, List.set_cons_succ]
  refine wpAnyH_take (i := 3) (oi := ⟨some 11, _, _, _, _, _⟩) (v := ?vf3) rfl (by kernel_rfl) (by kernel_rfl) (by kernel_rfl) (fun _ _ _ h => h) (Or.inl ⟨by rfl, ?yf3⟩) hHeld ?rf3
  case yf3 => (intro w' hSw; (try dsimp only at hSw); go_simp; try (with_reducible rfl))
  simp only [Act.put, List.setIfInBounds_toArray, List.set_cons_zero, List.set_cons_succ]
  refine wpAnyH_take (i := 4) (oi := ⟨some 12, _, _, _, _, _⟩) (v := ?vf4) rfl (by kernel_rfl) (by kernel_rfl) (by kernel_rfl) (fun _ _ _ h => h) (Or.inl ⟨by rfl, ?yf4⟩) hHeld ?rf4
  case yf4 => (intro w' hSw; (try dsimp only at hSw); go_simp; try (with_reducible rfl))
  simp only [Act.put, List.setIfInBounds_toArray, List.set_cons_zero, List.set_cons_succ]
  refine wpAnyH_take (i := 5) (oi := ⟨some 13, _, _, _, _, _⟩) (v := ?vf5) rfl (by kernel_rfl) (by kernel_rfl) (by kernel_rfl) (fun _ _ _ h => h) (Or.inl ⟨by rfl, ?yf5⟩) hHeld ?rf5
  case yf5 => (intro w' hSw; (try dsimp only at hSw); go_simp; try (with_reducible rfl))
  simp only [Act.put, List.setIfInBounds_toArray, List.set_cons_zero, List.set_cons_succ]
  refine wpAnyH_take (i := 6) (oi := ⟨some 14, _, _, _, _, _⟩) (v := ?vf6) rfl (by kernel_rfl) (by kernel_rfl) (by kernel_rfl) (fun _ _ _ h => h) (Or.inl ⟨by rfl, ?yf6⟩) hHeld ?rf6
  case yf6 => (intro w' hSw; (try dsimp only at hSw); go_simp; try (with_reducible rfl))
  simp only [Act.put, List.setIfInBounds_toArray, List.set_cons_zero, List.set_cons_succ]
  refine wpAnyH_take (i := 7) (oi := ⟨some 15, _, _, _, _, _⟩) (v := ?vf7) rfl (by kernel_rfl) (by kernel_rfl) (by kernel_rfl) (fun _ _ _ h => h) (Or.inl ⟨by rfl, ?yf7⟩) hHeld ?rf7
  case yf7 => (intro w' hSw; (try dsimp only at hSw); go_simp; try (with_reducible rfl))
  simp only [Act.put, List.setIfInBounds_toArray, List.set_cons_zero, List.set_cons_succ]
  refine wpAnyH_ready (rs := [8]) (by kernel_rfl) (by simp) ?_
  refine AllReadyH.cons (o := ⟨some 16, _, _, _, _, _⟩) rfl (fun K hK => ?_) AllReadyH.nil
  go_simp
  (with_reducible refine (before_g p q false _ H1).mono ?_)
  rintro e w5 ⟨rfl, hb⟩
  (try dsimp only)
  refine hK.out _ _ (HKP.out _ (hHeld.1.trans hb)) (fun hNext => ?_)
  clear hK K hHeld
  have hHeld := hNext
  clear hNext
  try simp only [Act.put, List.setIfInBounds_toArray, List.set_cons_zero, List.set_cons_succ]
  refine wpAnyH_take (i := 9) (oi := ⟨some 7, _, _, _, _, _⟩) (v := ?vf9) rfl (by kernel_rfl) (by kernel_rfl) (by kernel_rfl) (fun _ _ _ h => h) (Or.inl ⟨by rfl, ?yf9⟩) hHeld ?rf9
  case yf9 => (intro w' hSw; (try dsimp only at hSw); go_simp; try (with_reducible rfl))
  simp only [Act.put, List.setIfInBounds_toArray, List.set_cons_zero, List.set_cons_succ]
  refine wpAnyH_done (by kernel_rfl) ?_ _
  go_upto_region 3 with (fail)
  refine wp_region_held_drew (S := fun w' => Grew w w' ∧ w'.cell? ⟨b, o + i * 12, none⟩ = some (.int .i64 p.pri) ∧ w'.cell? ⟨b, o + i * 12 + 1, none⟩ = some (.int .u64 (uv p.m.vh)) ∧ w'.cell? ⟨b, o + i * 12 + 2, none⟩ = some (.int .u64 (uv p.m.vl)) ∧ w'.cell? ⟨b, o + i * 12 + 3, none⟩ = some (.int .u64 (uv p.m.ch)) ∧ w'.cell? ⟨b, o + i * 12 + 4, none⟩ = some (.int .u64 (uv p.m.cl)) ∧ w'.cell? ⟨b, o + i * 12 + 5, none⟩ = some (.int .i64 p.kind) ∧ w'.cell? ⟨b, o + i * 12 + 6, none⟩ = some (.int .i64 p.port) ∧ w'.cell? ⟨b, o + i * 12 + 7, none⟩ = some (.int .i64 p.tab) ∧ w'.cell? ⟨b, o + i * 12 + 8, none⟩ = some (.int .u64 (uv p.s.vh)) ∧ w'.cell? ⟨b, o + i * 12 + 9, none⟩ = some (.int .u64 (uv p.s.vl)) ∧ w'.cell? ⟨b, o + i * 12 + 10, none⟩ = some (.int .u64 (uv p.s.ch)) ∧ w'.cell? ⟨b, o + i * 12 + 11, none⟩ = some (.int .u64 (uv p.s.cl)) ∧ w'.cell? ⟨b, o + j * 12, none⟩ = some (.int .i64 q.pri) ∧ w'.cell? ⟨b, o + j * 12 + 1, none⟩ = some (.int .u64 (uv q.m.vh)) ∧ w'.cell? ⟨b, o + j * 12 + 2, none⟩ = some (.int .u64 (uv q.m.vl)) ∧ w'.cell? ⟨b, o + j * 12 + 3, none⟩ = some (.int .u64 (uv q.m.ch)) ∧ w'.cell? ⟨b, o + j * 12 + 4, none⟩ = some (.int .u64 (uv q.m.cl)) ∧ w'.cell? ⟨b, o + j * 12 + 5, none⟩ = some (.int .i64 q.kind) ∧ w'.cell? ⟨b, o + j * 12 + 6, none⟩ = some (.int .i64 q.port) ∧ w'.cell? ⟨b, o + j * 12 + 7, none⟩ = some (.int .i64 q.tab) ∧ w'.cell? ⟨b, o + j * 12 + 8, none⟩ = some (.int .u64 (uv q.s.vh)) ∧ w'.cell? ⟨b, o + j * 12 + 9, none⟩ = some (.int .u64 (uv q.s.vl)) ∧ w'.cell? ⟨b, o + j * 12 + 10, none⟩ = some (.int .u64 (uv q.s.ch)) ∧ w'.cell? ⟨b, o + j * 12 + 11, none⟩ = some (.int .u64 (uv q.s.cl))) (by kernel_rfl) (HKP.out _ (hHeld.1.trans (Grew.drew1 _))) (fun hHeld => ?_)
  refine wpAnyH_take (i := 0) (oi := ⟨some 18, _, _, _, _, _⟩) (v := ?vg0) rfl (by kernel_rfl) (by kernel_rfl) (by kernel_rfl) (fun _ _ _ h => h) (Or.inl ⟨by rfl, ?yg0⟩) hHeld ?rg0
  case yg0 => (intro w' hSw; (try dsimp only at hSw); go_simp; try (with_reducible rfl))
  simp only [Act.put, List.setIfInBounds_toArray, List.set_cons_zero, List.set_cons_succ]
  refine wpAnyH_take (i := 1) (oi := ⟨some 19, _, _, _, _, _⟩) (v := ?vg1) rfl (by kernel_rfl) (by kernel_rfl) (by kernel_rfl) (fun _ _ _ h => h) (Or.inl ⟨by rfl, ?yg1⟩) hHeld ?rg1
  case yg1 => (intro w' hSw; (try dsimp only at hSw); go_simp; try (with_reducible rfl))
  simp only [Act.put, List.setIfInBounds_toArray, List.set_cons_zero, List.set_cons_succ]
  refine wpAnyH_take (i := 2) (oi := ⟨some 20, _, _, _, _, _⟩) (v := ?vg2) rfl (by kernel_rfl) (by kernel_rfl) (by kernel_rfl) (fun _ _ _ h => h) (Or.inl ⟨by rfl, ?yg2⟩) hHeld ?rg2
  case yg2 => (intro w' hSw; (try dsimp only at hSw); go_simp; try (with_reducible rfl))
  simp only [Act.put, List.setIfInBounds_toArray, List.set_cons_zero, List.set_cons_succ]
  refine wpAnyH_take (i := 3) (oi := ⟨some 21, _, _, _, _, _⟩) (v := ?vg3) rfl (by kernel_rfl) (by kernel_rfl) (by kernel_rfl) (fun _ _ _ h => h) (Or.inl ⟨by rfl, ?yg3⟩) hHeld ?rg3
  case yg3 => (intro w' hSw; (try dsimp only at hSw); go_simp; try (with_reducible rfl))
  simp only [Act.put, List.setIfInBounds_toArray, List.set_cons_zero, List.set_cons_succ]
  refine wpAnyH_take (i := 4) (oi := ⟨some 22, _, _, _, _, _⟩) (v := ?vg4) rfl (by kernel_rfl) (by kernel_rfl) (by kernel_rfl) (fun _ _ _ h => h) (Or.inl ⟨by rfl, ?yg4⟩) hHeld ?rg4
  case yg4 => (intro w' hSw; (try dsimp only at hSw); go_simp; try (with_reducible rfl))
  simp only [Act.put, List.setIfInBounds_toArray, List.set_cons_zero, List.set_cons_succ]
  refine wpAnyH_take (i := 5) (oi := ⟨some 23, _, _, _, _, _⟩) (v := ?vg5) rfl (by kernel_rfl) (by kernel_rfl) (by kernel_rfl) (fun _ _ _ h => h) (Or.inl ⟨by rfl, ?yg5⟩) hHeld ?rg5
  case yg5 => (intro w' hSw; (try dsimp only at hSw); go_simp; try (with_reducible rfl))
  simp only [Act.put, List.setIfInBounds_toArray, List.set_cons_zero, List.set_cons_succ]
  refine wpAnyH_take (i := 6) (oi := ⟨some 24, _, _, _, _, _⟩) (v := ?vg6) rfl (by kernel_rfl) (by kernel_rfl) (by kernel_rfl) (fun _ _ _ h => h) (Or.inl ⟨by rfl, ?yg6⟩) hHeld ?rg6
  case yg6 => (intro w' hSw; (try dsimp only at hSw); go_simp; try (with_reducible rfl))
  simp only [Act.put, List.setIfInBounds_toArray, List.set_cons_zero, List.set_cons_succ]
  refine wpAnyH_take (i := 7) (oi := ⟨some 25, _, _, _, _, _⟩) (v := ?vg7) rfl (by kernel_rfl) (by kernel_rfl) (by kernel_rfl) (fun _ _ _ h => h) (Or.inl ⟨by rfl, ?yg7⟩) hHeld ?rg7
  case yg7 => (intro w' hSw; (try dsimp only at hSw); go_simp; try (with_reducible rfl))
  simp only [Act.put, List.setIfInBounds_toArray, List.set_cons_zero, List.set_cons_succ]
  refine wpAnyH_ready (rs := [8]) (by kernel_rfl) (by simp) ?_
  refine AllReadyH.cons (o := ⟨some 26, _, _, _, _, _⟩) rfl (fun K hK => ?_) AllReadyH.nil
  go_simp
  (with_reducible refine (before_g q p true _ H2).mono ?_)
  rintro e w6 ⟨rfl, hb⟩
  (try dsimp only)
  refine hK.out _ _ (HKP.out _ (hHeld.1.trans hb)) (fun hNext => ?_)
  clear hK K hHeld
  have hHeld := hNext
  clear hNext
  try simp only [Act.put, List.setIfInBounds_toArray, List.set_cons_zero, List.set_cons_succ]
  refine wpAnyH_take (i := 9) (oi := ⟨some 17, _, _, _, _, _⟩) (v := ?vg9) rfl (by kernel_rfl) (by kernel_rfl) (by kernel_rfl) (fun _ _ _ h => h) (Or.inl ⟨by rfl, ?yg9⟩) hHeld ?rg9
  case yg9 => (intro w' hSw; (try dsimp only at hSw); go_simp; try (with_reducible rfl))
  simp only [Act.put, List.setIfInBounds_toArray, List.set_cons_zero, List.set_cons_succ]
  refine wpAnyH_done (by kernel_rfl) ?_ _
  have hL := hHeld.1
  clear hHeld HKP
  go_wp2
  go_ret
  exact ⟨rfl, hL⟩
set_option maxHeartbeats 4000000 in
set_option maxRecDepth 100000 in
theorem tcmp_eq (p q : Rl) (i j n b o cap : Nat) (w : World) (hi : i < n) (hj : j < n) (hn : n ≤ 4611686018427387904) (hp : AtR w b (o + i * 12) p) (hq : AtR w b (o + j * 12) q) (r : Int) (h1 : decide (q.pri < p.pri) = false) (h2 : decide (p.pri < q.pri) = false) (h3 : icmp (i : Int) (j : Int) = r) : Calls Try.prog 24 #[.slice (some ⟨b, o, none⟩) n cap, .int .i64 i, .int .i64 j] w fun e w' => e = .returned (.int .i64 r) ∧ Grew w w' := by
  have H1 := h1
  have H2 := h2
  clear h1 h2
  have hiz : (i : Int) < (n : Int) := by omega
  have hjz : (j : Int) < (n : Int) := by omega
  have hnz : (n : Int) ≤ 4611686018427387904 := by omega
  have KP : ∀ W, Grew w W → (Grew w W ∧ W.cell? ⟨b, o + i * 12, none⟩ = some (.int .i64 p.pri) ∧ W.cell? ⟨b, o + i * 12 + 1, none⟩ = some (.int .u64 (uv p.m.vh)) ∧ W.cell? ⟨b, o + i * 12 + 2, none⟩ = some (.int .u64 (uv p.m.vl)) ∧ W.cell? ⟨b, o + i * 12 + 3, none⟩ = some (.int .u64 (uv p.m.ch)) ∧ W.cell? ⟨b, o + i * 12 + 4, none⟩ = some (.int .u64 (uv p.m.cl)) ∧ W.cell? ⟨b, o + i * 12 + 5, none⟩ = some (.int .i64 p.kind) ∧ W.cell? ⟨b, o + i * 12 + 6, none⟩ = some (.int .i64 p.port) ∧ W.cell? ⟨b, o + i * 12 + 7, none⟩ = some (.int .i64 p.tab) ∧ W.cell? ⟨b, o + i * 12 + 8, none⟩ = some (.int .u64 (uv p.s.vh)) ∧ W.cell? ⟨b, o + i * 12 + 9, none⟩ = some (.int .u64 (uv p.s.vl)) ∧ W.cell? ⟨b, o + i * 12 + 10, none⟩ = some (.int .u64 (uv p.s.ch)) ∧ W.cell? ⟨b, o + i * 12 + 11, none⟩ = some (.int .u64 (uv p.s.cl)) ∧ W.cell? ⟨b, o + j * 12, none⟩ = some (.int .i64 q.pri) ∧ W.cell? ⟨b, o + j * 12 + 1, none⟩ = some (.int .u64 (uv q.m.vh)) ∧ W.cell? ⟨b, o + j * 12 + 2, none⟩ = some (.int .u64 (uv q.m.vl)) ∧ W.cell? ⟨b, o + j * 12 + 3, none⟩ = some (.int .u64 (uv q.m.ch)) ∧ W.cell? ⟨b, o + j * 12 + 4, none⟩ = some (.int .u64 (uv q.m.cl)) ∧ W.cell? ⟨b, o + j * 12 + 5, none⟩ = some (.int .i64 q.kind) ∧ W.cell? ⟨b, o + j * 12 + 6, none⟩ = some (.int .i64 q.port) ∧ W.cell? ⟨b, o + j * 12 + 7, none⟩ = some (.int .i64 q.tab) ∧ W.cell? ⟨b, o + j * 12 + 8, none⟩ = some (.int .u64 (uv q.s.vh)) ∧ W.cell? ⟨b, o + j * 12 + 9, none⟩ = some (.int .u64 (uv q.s.vl)) ∧ W.cell? ⟨b, o + j * 12 + 10, none⟩ = some (.int .u64 (uv q.s.ch)) ∧ W.cell? ⟨b, o + j * 12 + 11, none⟩ = some (.int .u64 (uv q.s.cl))) := fun W hb => by
    obtain ⟨x0, x1, x2, x3, x4, x5, x6, x7, x8, x9, x10, x11⟩ := (hp.on hb.below).out
    obtain ⟨y0, y1, y2, y3, y4, y5, y6, y7, y8, y9, y10, y11⟩ := (hq.on hb.below).out
    exact ⟨hb, x0, x1, x2, x3, x4, x5, x6, x7, x8, x9, x10, x11, y0, y1, y2, y3, y4, y5, y6, y7, y8, y9, y10, y11⟩
  have HKP := Lib.hid KP
  clear KP hp hq
  go_enter Try.func24, Try.ntmps24
  go_upto_region 1 with (fail)
  refine wp_region_held_drew (S := fun w' => Grew w w' ∧ w'.cell? ⟨b, o + i * 12, none⟩ = some (.int .i64 p.pri) ∧ w'.cell? ⟨b, o + i * 12 + 1, none⟩ = some (.int .u64 (uv p.m.vh)) ∧ w'.cell? ⟨b, o + i * 12 + 2, none⟩ = some (.int .u64 (uv p.m.vl)) ∧ w'.cell? ⟨b, o + i * 12 + 3, none⟩ = some (.int .u64 (uv p.m.ch)) ∧ w'.cell? ⟨b, o + i * 12 + 4, none⟩ = some (.int .u64 (uv p.m.cl)) ∧ w'.cell? ⟨b, o + i * 12 + 5, none⟩ = some (.int .i64 p.kind) ∧ w'.cell? ⟨b, o + i * 12 + 6, none⟩ = some (.int .i64 p.port) ∧ w'.cell? ⟨b, o + i * 12 + 7, none⟩ = some (.int .i64 p.tab) ∧ w'.cell? ⟨b, o + i * 12 + 8, none⟩ = some (.int .u64 (uv p.s.vh)) ∧ w'.cell? ⟨b, o + i * 12 + 9, none⟩ = some (.int .u64 (uv p.s.vl)) ∧ w'.cell? ⟨b, o + i * 12 + 10, none⟩ = some (.int .u64 (uv p.s.ch)) ∧ w'.cell? ⟨b, o + i * 12 + 11, none⟩ = some (.int .u64 (uv p.s.cl)) ∧ w'.cell? ⟨b, o + j * 12, none⟩ = some (.int .i64 q.pri) ∧ w'.cell? ⟨b, o + j * 12 + 1, none⟩ = some (.int .u64 (uv q.m.vh)) ∧ w'.cell? ⟨b, o + j * 12 + 2, none⟩ = some (.int .u64 (uv q.m.vl)) ∧ w'.cell? ⟨b, o + j * 12 + 3, none⟩ = some (.int .u64 (uv q.m.ch)) ∧ w'.cell? ⟨b, o + j * 12 + 4, none⟩ = some (.int .u64 (uv q.m.cl)) ∧ w'.cell? ⟨b, o + j * 12 + 5, none⟩ = some (.int .i64 q.kind) ∧ w'.cell? ⟨b, o + j * 12 + 6, none⟩ = some (.int .i64 q.port) ∧ w'.cell? ⟨b, o + j * 12 + 7, none⟩ = some (.int .i64 q.tab) ∧ w'.cell? ⟨b, o + j * 12 + 8, none⟩ = some (.int .u64 (uv q.s.vh)) ∧ w'.cell? ⟨b, o + j * 12 + 9, none⟩ = some (.int .u64 (uv q.s.vl)) ∧ w'.cell? ⟨b, o + j * 12 + 10, none⟩ = some (.int .u64 (uv q.s.ch)) ∧ w'.cell? ⟨b, o + j * 12 + 11, none⟩ = some (.int .u64 (uv q.s.cl))) (by kernel_rfl) (HKP.out _ (Grew.drew1 w)) (fun hHeld => ?_)
  refine wpAnyH_take (i := 0) (oi := ⟨some 8, _, _, _, _, _⟩) (v := ?vf0) rfl (by kernel_rfl) (by kernel_rfl) (by kernel_rfl) (fun _ _ _ h => h) (Or.inl ⟨by rfl, ?yf0⟩) hHeld ?rf0
  case yf0 => (intro w' hSw; (try dsimp only at hSw); go_simp; try (with_reducible rfl))
  simp only [Act.put, List.setIfInBounds_toArray, List.set_cons_zero, List.set_cons_succ]
  refine wpAnyH_take (i := 1) (oi := ⟨some 9, _, _, _, _, _⟩) (v := ?vf1) rfl (by kernel_rfl) (by kernel_rfl) (by kernel_rfl) (fun _ _ _ h => h) (Or.inl ⟨by rfl, ?yf1⟩) hHeld ?rf1
  case yf1 => (intro w' hSw; (try dsimp only at hSw); go_simp; try (with_reducible rfl))
  simp only [Act.put, List.setIfInBounds_toArray, List.set_cons_zero, List.set_cons_succ]
  refine wpAnyH_take (i := 2) (oi := ⟨some 10, _, _, _, _, _⟩) (v := ?vf2) rfl (by kernel_rfl) (by kernel_rfl) (by kernel_rfl) (fun _ _ _ h => h) (Or.inl ⟨by rfl, ?yf2⟩) hHeld ?rf2
  case yf2 => (intro w' hSw; (try dsimp only at hSw); go_simp; try (with_reducible rfl))
  simp only [Act.put, List.setIfInBounds_toArray, List.set_cons_zero, List.set_cons_succ]
  refine wpAnyH_take (i := 3) (oi := ⟨some 11, _, _, _, _, _⟩) (v := ?vf3) rfl (by kernel_rfl) (by kernel_rfl) (by kernel_rfl) (fun _ _ _ h => h) (Or.inl ⟨by rfl, ?yf3⟩) hHeld ?rf3
  case yf3 => (intro w' hSw; (try dsimp only at hSw); go_simp; try (with_reducible rfl))
  simp only [Act.put, List.setIfInBounds_toArray, List.set_cons_zero, List.set_cons_succ]
  refine wpAnyH_take (i := 4) (oi := ⟨some 12, _, _, _, _, _⟩) (v := ?vf4) rfl (by kernel_rfl) (by kernel_rfl) (by kernel_rfl) (fun _ _ _ h => h) (Or.inl ⟨by rfl, ?yf4⟩) hHeld ?rf4
  case yf4 => (intro w' hSw; (try dsimp only at hSw); go_simp; try (with_reducible rfl))
  simp only [Act.put, List.setIfInBounds_toArray, List.set_cons_zero, List.set_cons_succ]
  refine wpAnyH_take (i := 5) (oi := ⟨some 13, _, _, _, _, _⟩) (v := ?vf5) rfl (by kernel_rfl) (by kernel_rfl) (by kernel_rfl) (fun _ _ _ h => h) (Or.inl ⟨by rfl, ?yf5⟩) hHeld ?rf5
  case yf5 => (intro w' hSw; (try dsimp only at hSw); go_simp; try (with_reducible rfl))
  simp only [Act.put, List.setIfInBounds_toArray, List.set_cons_zero, List.set_cons_succ]
  refine wpAnyH_take (i := 6) (oi := ⟨some 14, _, _, _, _, _⟩) (v := ?vf6) rfl (by kernel_rfl) (by kernel_rfl) (by kernel_rfl) (fun _ _ _ h => h) (Or.inl ⟨by rfl, ?yf6⟩) hHeld ?rf6
  case yf6 => (intro w' hSw; (try dsimp only at hSw); go_simp; try (with_reducible rfl))
  simp only [Act.put, List.setIfInBounds_toArray, List.set_cons_zero, List.set_cons_succ]
  refine wpAnyH_take (i := 7) (oi := ⟨some 15, _, _, _, _, _⟩) (v := ?vf7) rfl (by kernel_rfl) (by kernel_rfl) (by kernel_rfl) (fun _ _ _ h => h) (Or.inl ⟨by rfl, ?yf7⟩) hHeld ?rf7
  case yf7 => (intro w' hSw; (try dsimp only at hSw); go_simp; try (with_reducible rfl))
  simp only [Act.put, List.setIfInBounds_toArray, List.set_cons_zero, List.set_cons_succ]
  refine wpAnyH_ready (rs := [8]) (by kernel_rfl) (by simp) ?_
  refine AllReadyH.cons (o := ⟨some 16, _, _, _, _, _⟩) rfl (fun K hK => ?_) AllReadyH.nil
  go_simp
  (with_reducible refine (before_g p q false _ H1).mono ?_)
  rintro e w5 ⟨rfl, hb⟩
  (try dsimp only)
  refine hK.out _ _ (HKP.out _ (hHeld.1.trans hb)) (fun hNext => ?_)
  clear hK K hHeld
  have hHeld := hNext
  clear hNext
  try simp only [Act.put, List.setIfInBounds_toArray, List.set_cons_zero, List.set_cons_succ]
  refine wpAnyH_take (i := 9) (oi := ⟨some 7, _, _, _, _, _⟩) (v := ?vf9) rfl (by kernel_rfl) (by kernel_rfl) (by kernel_rfl) (fun _ _ _ h => h) (Or.inl ⟨by rfl, ?yf9⟩) hHeld ?rf9
  case yf9 => (intro w' hSw; (try dsimp only at hSw); go_simp; try (with_reducible rfl))
  simp only [Act.put, List.setIfInBounds_toArray, List.set_cons_zero, List.set_cons_succ]
  refine wpAnyH_done (by kernel_rfl) ?_ _
  go_upto_region 3 with (fail)
  refine wp_region_held_drew (S := fun w' => Grew w w' ∧ w'.cell? ⟨b, o + i * 12, none⟩ = some (.int .i64 p.pri) ∧ w'.cell? ⟨b, o + i * 12 + 1, none⟩ = some (.int .u64 (uv p.m.vh)) ∧ w'.cell? ⟨b, o + i * 12 + 2, none⟩ = some (.int .u64 (uv p.m.vl)) ∧ w'.cell? ⟨b, o + i * 12 + 3, none⟩ = some (.int .u64 (uv p.m.ch)) ∧ w'.cell? ⟨b, o + i * 12 + 4, none⟩ = some (.int .u64 (uv p.m.cl)) ∧ w'.cell? ⟨b, o + i * 12 + 5, none⟩ = some (.int .i64 p.kind) ∧ w'.cell? ⟨b, o + i * 12 + 6, none⟩ = some (.int .i64 p.port) ∧ w'.cell? ⟨b, o + i * 12 + 7, none⟩ = some (.int .i64 p.tab) ∧ w'.cell? ⟨b, o + i * 12 + 8, none⟩ = some (.int .u64 (uv p.s.vh)) ∧ w'.cell? ⟨b, o + i * 12 + 9, none⟩ = some (.int .u64 (uv p.s.vl)) ∧ w'.cell? ⟨b, o + i * 12 + 10, none⟩ = some (.int .u64 (uv p.s.ch)) ∧ w'.cell? ⟨b, o + i * 12 + 11, none⟩ = some (.int .u64 (uv p.s.cl)) ∧ w'.cell? ⟨b, o + j * 12, none⟩ = some (.int .i64 q.pri) ∧ w'.cell? ⟨b, o + j * 12 + 1, none⟩ = some (.int .u64 (uv q.m.vh)) ∧ w'.cell? ⟨b, o + j * 12 + 2, none⟩ = some (.int .u64 (uv q.m.vl)) ∧ w'.cell? ⟨b, o + j * 12 + 3, none⟩ = some (.int .u64 (uv q.m.ch)) ∧ w'.cell? ⟨b, o + j * 12 + 4, none⟩ = some (.int .u64 (uv q.m.cl)) ∧ w'.cell? ⟨b, o + j * 12 + 5, none⟩ = some (.int .i64 q.kind) ∧ w'.cell? ⟨b, o + j * 12 + 6, none⟩ = some (.int .i64 q.port) ∧ w'.cell? ⟨b, o + j * 12 + 7, none⟩ = some (.int .i64 q.tab) ∧ w'.cell? ⟨b, o + j * 12 + 8, none⟩ = some (.int .u64 (uv q.s.vh)) ∧ w'.cell? ⟨b, o + j * 12 + 9, none⟩ = some (.int .u64 (uv q.s.vl)) ∧ w'.cell? ⟨b, o + j * 12 + 10, none⟩ = some (.int .u64 (uv q.s.ch)) ∧ w'.cell? ⟨b, o + j * 12 + 11, none⟩ = some (.int .u64 (uv q.s.cl))) (by kernel_rfl) (HKP.out _ (hHeld.1.trans (Grew.drew1 _))) (fun hHeld => ?_)
  refine wpAnyH_take (i := 0) (oi := ⟨some 18, _, _, _, _, _⟩) (v := ?vg0) rfl (by kernel_rfl) (by kernel_rfl) (by kernel_rfl) (fun _ _ _ h => h) (Or.inl ⟨by rfl, ?yg0⟩) hHeld ?rg0
  case yg0 => (intro w' hSw; (try dsimp only at hSw); go_simp; try (with_reducible rfl))
  simp only [Act.put, List.setIfInBounds_toArray, List.set_cons_zero, List.set_cons_succ]
  refine wpAnyH_take (i := 1) (oi := ⟨some 19, _, _, _, _, _⟩) (v := ?vg1) rfl (by kernel_rfl) (by kernel_rfl) (by kernel_rfl) (fun _ _ _ h => h) (Or.inl ⟨by rfl, ?yg1⟩) hHeld ?rg1
  case yg1 => (intro w' hSw; (try dsimp only at hSw); go_simp; try (with_reducible rfl))
  simp only [Act.put, List.setIfInBounds_toArray, List.set_cons_zero, List.set_cons_succ]
  refine wpAnyH_take (i := 2) (oi := ⟨some 20, _, _, _, _, _⟩) (v := ?vg2) rfl (by kernel_rfl) (by kernel_rfl) (by kernel_rfl) (fun _ _ _ h => h) (Or.inl ⟨by rfl, ?yg2⟩) hHeld ?rg2
  case yg2 => (intro w' hSw; (try dsimp only at hSw); go_simp; try (with_reducible rfl))
  simp only [Act.put, List.setIfInBounds_toArray, List.set_cons_zero, List.set_cons_succ]
  refine wpAnyH_take (i := 3) (oi := ⟨some 21, _, _, _, _, _⟩) (v := ?vg3) rfl (by kernel_rfl) (by kernel_rfl) (by kernel_rfl) (fun _ _ _ h => h) (Or.inl ⟨by rfl, ?yg3⟩) hHeld ?rg3
  case yg3 => (intro w' hSw; (try dsimp only at hSw); go_simp; try (with_reducible rfl))
  simp only [Act.put, List.setIfInBounds_toArray, List.set_cons_zero, List.set_cons_succ]
  refine wpAnyH_take (i := 4) (oi := ⟨some 22, _, _, _, _, _⟩) (v := ?vg4) rfl (by kernel_rfl) (by kernel_rfl) (by kernel_rfl) (fun _ _ _ h => h) (Or.inl ⟨by rfl, ?yg4⟩) hHeld ?rg4
  case yg4 => (intro w' hSw; (try dsimp only at hSw); go_simp; try (with_reducible rfl))
  simp only [Act.put, List.setIfInBounds_toArray, List.set_cons_zero, List.set_cons_succ]
  refine wpAnyH_take (i := 5) (oi := ⟨some 23, _, _, _, _, _⟩) (v := ?vg5) rfl (by kernel_rfl) (by kernel_rfl) (by kernel_rfl) (fun _ _ _ h => h) (Or.inl ⟨by rfl, ?yg5⟩) hHeld ?rg5
  case yg5 => (intro w' hSw; (try dsimp only at hSw); go_simp; try (with_reducible rfl))
  simp only [Act.put, List.setIfInBounds_toArray, List.set_cons_zero, List.set_cons_succ]
  refine wpAnyH_take (i := 6) (oi := ⟨some 24, _, _, _, _, _⟩) (v := ?vg6) rfl (by kernel_rfl) (by kernel_rfl) (by kernel_rfl) (fun _ _ _ h => h) (Or.inl ⟨by rfl, ?yg6⟩) hHeld ?rg6
  case yg6 => (intro w' hSw; (try dsimp only at hSw); go_simp; try (with_reducible rfl))
  simp only [Act.put, List.setIfInBounds_toArray, List.set_cons_zero, List.set_cons_succ]
  refine wpAnyH_take (i := 7) (oi := ⟨some 25, _, _, _, _, _⟩) (v := ?vg7) rfl (by kernel_rfl) (by kernel_rfl) (by kernel_rfl) (fun _ _ _ h => h) (Or.inl ⟨by rfl, ?yg7⟩) hHeld ?rg7
  case yg7 => (intro w' hSw; (try dsimp only at hSw); go_simp; try (with_reducible rfl))
  simp only [Act.put, List.setIfInBounds_toArray, List.set_cons_zero, List.set_cons_succ]
  refine wpAnyH_ready (rs := [8]) (by kernel_rfl) (by simp) ?_
  refine AllReadyH.cons (o := ⟨some 26, _, _, _, _, _⟩) rfl (fun K hK => ?_) AllReadyH.nil
  go_simp
  (with_reducible refine (before_g q p false _ H2).mono ?_)
  rintro e w6 ⟨rfl, hb⟩
  (try dsimp only)
  refine hK.out _ _ (HKP.out _ (hHeld.1.trans hb)) (fun hNext => ?_)
  clear hK K hHeld
  have hHeld := hNext
  clear hNext
  try simp only [Act.put, List.setIfInBounds_toArray, List.set_cons_zero, List.set_cons_succ]
  refine wpAnyH_take (i := 9) (oi := ⟨some 17, _, _, _, _, _⟩) (v := ?vg9) rfl (by kernel_rfl) (by kernel_rfl) (by kernel_rfl) (fun _ _ _ h => h) (Or.inl ⟨by rfl, ?yg9⟩) hHeld ?rg9
  case yg9 => (intro w' hSw; (try dsimp only at hSw); go_simp; try (with_reducible rfl))
  simp only [Act.put, List.setIfInBounds_toArray, List.set_cons_zero, List.set_cons_succ]
  refine wpAnyH_done (by kernel_rfl) ?_ _
  have hL := hHeld.1
  clear hHeld HKP
  go_wp2_with fail
  (with_reducible refine (cmpI_g _ _ r _ h3).mono ?_)
  rintro e w7 ⟨rfl, hb⟩
  have hM := hL.trans hb
  clear hL hb
  go_wp2
  go_ret
  exact ⟨rfl, hM⟩
theorem tcmp_g (p q : Rl) (r : Int) (i j n b o cap : Nat) (w : World) (hi : i < n) (hj : j < n) (hn : n ≤ 4611686018427387904) (hp : AtR w b (o + i * 12) p) (hq : AtR w b (o + j * 12) q) (hr : cfP p q i j = r) : Calls Try.prog 24 #[.slice (some ⟨b, o, none⟩) n cap, .int .i64 i, .int .i64 j] w fun e w' => e = .returned (.int .i64 r) ∧ Grew w w' := by
  unfold cfP at hr
  by_cases h1 : q.pri < p.pri
  · rw [if_pos h1] at hr; subst hr
    exact tcmp_lt p q i j n b o cap w hi hj hn hp hq (decide_eq_true h1)
  · rw [if_neg h1] at hr
    by_cases h2 : p.pri < q.pri
    · rw [if_pos h2] at hr; subst hr
      exact tcmp_gt p q i j n b o cap w hi hj hn hp hq (decide_eq_false h1) (decide_eq_true h2)
    · rw [if_neg h2] at hr
      exact tcmp_eq p q i j n b o cap w hi hj hn hp hq r (decide_eq_false h1) (decide_eq_false h2) hr
end Go.Proofs

namespace Go.Proofs
open Go.Shelf Go.RowKit Go.Proofs.Hd
def lzRen : Go.Shelf.Ren := ⟨fun | 134 => 108 | 129 => 80 | n => n, fun | 53 => 23 | 3 => 3 | 4 => 4 | 46 => 89 | 5 => 5 | 9 => 9 | n => n, fun | n => n⟩
theorem lzLays : Go.Proofs.Lays.n134 Try.prog lzRen where
  mixed := by kernel_rfl
  f129 := Try.func80.trans (congrArg some (by kernel_rfl))
  f134 := Try.func108.trans (congrArg some (by kernel_rfl))
  t3 := Try.underlying3
  a3 := Try.isAgg3
  z3 := Try.sizeOf3
  v3 := Try.zeroValue3
  t4 := Try.underlying4
  a4 := Try.isAgg4
  z4 := Try.sizeOf4
  v4 := Try.zeroValue4
  t5 := Try.underlying5
  a5 := Try.isAgg5
  z5 := Try.sizeOf5
  v5 := Try.zeroValue5
  t9 := Try.underlying9
  a9 := Try.isAgg9
  z9 := Try.sizeOf9
  v9 := Try.zeroValue9
  t46 := Try.underlying89
  a46 := Try.isAgg89
  z46 := Try.sizeOf89
  v46 := Try.zeroValue89
  t53 := Try.underlying23
  a53 := Try.isAgg23
  z53 := Try.sizeOf23
  v53 := Try.zeroValue23
theorem lz_c (a : BitVec 64) (w : World) : Calls Try.prog 108 #[.int .u64 (uv a)] w fun e w' => e = .returned (.int .i64 ((64 - Lib.bitLen a.toNat : Nat) : Int)) ∧ w = w' := by
  have h := Any.bits_LeadingZeros64 lzLays (uv a) w (uv_nonneg a) (by have := uv_lt a; omega)
  have l := Lib.bitLen_le a.toNat 64 (Nat.le_refl _) a.isLt
  have e1 : (uv a).toNat = a.toNat := by unfold uv; omega
  rw [e1] at h
  have e2 : ((64 - Lib.bitLen a.toNat : Nat) : Int) = 64 - (Lib.bitLen a.toNat : Int) := by omega
  rw [e2]
  exact h.mono fun e w' h => ⟨h.1, h.2.symm⟩
end Go.Proofs

namespace Go.Proofs
open Go.RowKit Go.Proofs.Hd
theorem uv_big_shr (k : Nat) : (9223372036854775808 : Int) / 2 ^ k = uv (9223372036854775808#64 >>> k) := uv_shr 9223372036854775808#64 k
attribute [local go_sem] uv_nonneg uv_big_shr
theorem neq_zero (x : BitVec 64) (h : x ≠ 0#64) : (uv x != 0) = true := by
  rw [uv_zero]; unfold bne; rw [uv_beq]; simpa using h

theorem lz_n (a : BitVec 64) (w : World) (n : Nat) (h : 64 - Lib.bitLen a.toNat = n) : Calls Try.prog 108 #[.int .u64 (uv a)] w fun e w' => e = .returned (.int .i64 (n : Int)) ∧ w = w' := by
  subst h; exact lz_c a w

theorem highest_hi (hh hl : BitVec 64) (w : World) (c : hh ≠ 0#64) : Calls Try.prog 89 #[.agg #[.int .u64 (uv hh), .int .u64 (uv hl)]] w fun e w' => e = .returned (.agg #[.int .u64 (uv (hiT hh hl)), .int .u64 (uv (loT hh hl))]) ∧ Below w.heap.size w w' := by
  have c1 := neq_zero hh c
  rw [hiT, loT, if_neg c, if_neg c]
  unfold topW
  obtain ⟨n, hn⟩ : ∃ n, 64 - Lib.bitLen hh.toNat = n := ⟨_, rfl⟩
  rw [hn]
  have h64 : n ≤ 64 := by omega
  have HN := Lib.hid hn
  clear hn c
  go_enter Try.func89, Try.ntmps89
  go_wp2_with (go_at_call 108; refine (lz_n _ _ n HN.out).mono ?_; rintro e w' ⟨rfl, rfl⟩)
  exact bodyPost_ret (v := .agg #[.int .u64 (uv (9223372036854775808#64 >>> n)), .int .u64 (uv 0#64)]) (by simp [results, Try.results89, go_sem, ← uv_zero]) rfl ⟨rfl, below2 _ _ _⟩

theorem highest_lo (hh hl : BitVec 64) (w : World) (c : hh = 0#64) : Calls Try.prog 89 #[.agg #[.int .u64 (uv hh), .int .u64 (uv hl)]] w fun e w' => e = .returned (.agg #[.int .u64 (uv (hiT hh hl)), .int .u64 (uv (loT hh hl))]) ∧ Below w.heap.size w w' := by
  rw [hiT, loT, if_pos c, if_pos c]
  subst c
  rw [← uv_zero]
  unfold topW
  obtain ⟨n, hn⟩ : ∃ n, 64 - Lib.bitLen hl.toNat = n := ⟨_, rfl⟩
  rw [hn]
  have h64 : n ≤ 64 := by omega
  have HN := Lib.hid hn
  clear hn
  go_enter Try.func89, Try.ntmps89
  go_wp2_with (go_at_call 108; refine (lz_n _ _ n HN.out).mono ?_; rintro e w' ⟨rfl, rfl⟩)
  exact bodyPost_ret (v := .agg #[.int .u64 0, .int .u64 (uv (9223372036854775808#64 >>> n))]) (by simp [results, Try.results89, go_sem]) rfl ⟨rfl, below2 _ _ _⟩

theorem highest_c (hh hl : BitVec 64) (k : Nat) (ks : List Nat) (w : World) (h : bitsDown (hbit hh hl) 128 = k :: ks) : Calls Try.prog 89 #[.agg #[.int .u64 (uv hh), .int .u64 (uv hl)]] w fun e w' => e = .returned (.agg #[.int .u64 (uv (oneH k)), .int .u64 (uv (oneL k))]) ∧ Below w.heap.size w w' := by
  obtain ⟨e1, e2⟩ := highest_one h
  rw [← e1, ← e2]
  by_cases c : hh = 0#64
  · exact highest_lo hh hl w c
  · exact highest_hi hh hl w c
end Go.Proofs

namespace Go.Proofs.Hd
open Go.RowKit
def Cb.arr (c : Cb) : Array Value := #[.int .u64 (uv c.vh), .int .u64 (uv c.vl), .int .u64 (uv c.ch), .int .u64 (uv c.cl)]
def hArr (h l : BitVec 64) : Array Value := #[.int .u64 (uv h), .int .u64 (uv l)]
structure Lw (w wr : World) (a b : Cb) (g : Nat) (lh ll : BitVec 64) (v : Value) (L : List Cb) : Prop where
  bel : Below w.heap.size w wr
  ba : Blk wr w.heap.size 51 a.arr
  bb : Blk wr (w.heap.size + 1) 51 b.arr
  bg : Blk wr g 25 (hArr lh ll)
  gb : w.heap.size + 2 ≤ g
  own : wr.ownsRow (w.heap.size + 2) 51 4 v L.length (flat L)
theorem Lw.on {w wr w2 : World} {a b : Cb} {g : Nat} {lh ll : BitVec 64} {v : Value} {L : List Cb} (h : Lw w wr a b g lh ll v L) (hb : Below wr.heap.size wr w2) : Lw w w2 a b g lh ll v L :=
  ⟨h.bel.trans (hb.mono h.bel.size), h.ba.on hb, h.bb.on hb, h.bg.on hb, h.gb, own_on h.own hb⟩
theorem Lw.setL {w wr : World} {a b : Cb} {g : Nat} {lh ll : BitVec 64} {v : Value} {L : List Cb} (h : Lw w wr a b g lh ll v L) (p q : BitVec 64) :
    Lw w ((wr.setCell ⟨g, 0, none⟩ (.int .u64 (uv p))).setCell ⟨g, 1, none⟩ (.int .u64 (uv q))) a b g p q v L := by
  have hg := h.gb
  have n0 : v.ownBlock ≠ some g := fun e => own_apart h.own h.bg (by decide) e.symm
  refine ⟨(h.bel.setCell (by show _ ≤ g; omega) _).setCell (by show _ ≤ g; omega) _, (h.ba.far (by show _ ≠ g; omega) _).far (by show _ ≠ g; omega) _, (h.bb.far (by show _ ≠ g; omega) _).far (by show _ ≠ g; omega) _, ?_, h.gb, ownsRow_setCell_other (ownsRow_setCell_other h.own n0 _) n0 _⟩
  exact ((h.bg.set 0 (.int .u64 (uv p))).set 1 (.int .u64 (uv q)))
theorem Lw.setA {w wr : World} {a b : Cb} {g : Nat} {lh ll : BitVec 64} {v : Value} {L : List Cb} (h : Lw w wr a b g lh ll v L) (c : Cb) :
    Lw w ((((wr.setCell ⟨w.heap.size, 0, none⟩ (.int .u64 (uv c.vh))).setCell ⟨w.heap.size, 1, none⟩ (.int .u64 (uv c.vl))).setCell ⟨w.heap.size, 2, none⟩ (.int .u64 (uv c.ch))).setCell ⟨w.heap.size, 3, none⟩ (.int .u64 (uv c.cl))) c b g lh ll v L := by
  have hg := h.gb
  refine ⟨h.bel.trans ((sets4 _ _ _ _ _ _).mono (Nat.le_refl _)), ?_, ?_, ?_, h.gb, ?_⟩
  · exact (((h.ba.set 0 (.int .u64 (uv c.vh))).set 1 (.int .u64 (uv c.vl))).set 2 (.int .u64 (uv c.ch))).set 3 (.int .u64 (uv c.cl))
  · exact (((h.bb.far (by show _ ≠ w.heap.size; omega) _).far (by show _ ≠ w.heap.size; omega) _).far (by show _ ≠ w.heap.size; omega) _).far (by show _ ≠ w.heap.size; omega) _
  · exact (((h.bg.far (by show _ ≠ w.heap.size; omega) _).far (by show _ ≠ w.heap.size; omega) _).far (by show _ ≠ w.heap.size; omega) _).far (by show _ ≠ w.heap.size; omega) _
  · exact ownsRow_setCell_below (ownsRow_setCell_below (ownsRow_setCell_below (ownsRow_setCell_below h.own (by show w.heap.size < _; omega) _) (by show w.heap.size < _; omega) _) (by show w.heap.size < _; omega) _) (by show w.heap.size < _; omega) _
theorem Lw.newL {w wr : World} {a b : Cb} {g : Nat} {lh ll : BitVec 64} {v : Value} {L : List Cb} (h : Lw w wr a b g lh ll v L) (p q : BitVec 64) (hz : w.heap.size + 2 ≤ wr.heap.size) :
    Lw w (wr.alloc (.cells #[.int .u64 (uv p), .int .u64 (uv q)] 25)) a b wr.heap.size p q v L := by
  have hb : Below wr.heap.size wr (wr.alloc (.cells #[.int .u64 (uv p), .int .u64 (uv q)] 25)) := (Below.refl _ _).alloc (Nat.le_refl _) _
  have h2 := h.on hb
  exact ⟨h2.bel, h2.ba, h2.bb, Blk.new _ _ _, hz, h2.own⟩
theorem Lw.append {w wr w2 : World} {a b : Cb} {g : Nat} {lh ll : BitVec 64} {v v' : Value} {L : List Cb} {c : Cb} (h : Lw w wr a b g lh ll v L) (hg : wr.grownBy w2 v.ownBlock)
    (hown : w2.ownsRow (w.heap.size + 2) 51 4 v' (L.length + 1) (flat L ++ c.cells)) : Lw w w2 a b g lh ll v' (L ++ [c]) := by
  have hz := h.bel.size
  refine ⟨h.bel.grown hg hz (fun k hk => by have := (h.own.lt k hk).1; omega), h.ba.grown hg (own_base h.own (by omega)), h.bb.grown hg (own_base h.own (by omega)), h.bg.grown hg (own_apart h.own h.bg (by decide)), h.gb, ?_⟩
  rw [flat_snoc]
  simpa using hown
/-- Two cubes that were handed in lie in the first two blocks. -/
structure Tw (w wr : World) (a b : Cb) : Prop where
  bel : Below w.heap.size w wr
  ba : Blk wr w.heap.size 51 a.arr
  bb : Blk wr (w.heap.size + 1) 51 b.arr
theorem Tw.start (w : World) (a b : Cb) : Tw w ((w.alloc (.cells #[.int .u64 (uv a.vh), .int .u64 (uv a.vl), .int .u64 (uv a.ch), .int .u64 (uv a.cl)] 51)).alloc (.cells #[.int .u64 (uv b.vh), .int .u64 (uv b.vl), .int .u64 (uv b.ch), .int .u64 (uv b.cl)] 51)) a b := by
  have b1 : Below w.heap.size w (w.alloc (.cells #[.int .u64 (uv a.vh), .int .u64 (uv a.vl), .int .u64 (uv a.ch), .int .u64 (uv a.cl)] 51)) := (Below.refl _ _).alloc (Nat.le_refl _) _
  have k1 : Blk (w.alloc (.cells #[.int .u64 (uv a.vh), .int .u64 (uv a.vl), .int .u64 (uv a.ch), .int .u64 (uv a.cl)] 51)) w.heap.size 51 a.arr := Blk.new w _ _
  have k2 := Blk.new (w.alloc (.cells #[.int .u64 (uv a.vh), .int .u64 (uv a.vl), .int .u64 (uv a.ch), .int .u64 (uv a.cl)] 51)) 51 b.arr
  rw [World.size_alloc] at k2
  exact ⟨b1.alloc (by simp) _, k1.on ((Below.refl _ _).alloc (Nat.le_refl _) _), k2⟩
theorem Tw.on {w wr w2 : World} {a b : Cb} (h : Tw w wr a b) (hb : Below wr.heap.size wr w2) : Tw w w2 a b :=
  ⟨h.bel.trans (hb.mono h.bel.size), h.ba.on hb, h.bb.on hb⟩
theorem Tw.loop {w wr : World} {a b : Cb} (h : Tw w wr a b) (p q : BitVec 64) : Lw w (wr.alloc (.cells #[.int .u64 (uv p), .int .u64 (uv q)] 25)) a b wr.heap.size p q (.slice none 0 0) [] := by
  have h2 := h.on ((Below.refl wr.heap.size wr).alloc (Nat.le_refl _) (.cells #[.int .u64 (uv p), .int .u64 (uv q)] 25))
  exact ⟨h2.bel, h2.ba, h2.bb, Blk.new _ _ _, h.bb.lt, World.ownsRow_nil _ _ _ _⟩
theorem Tw.eqs {w wr : World} {a b : Cb} (h : Tw w wr a b) :
    (wr.cell? ⟨w.heap.size, 0, none⟩ = some (.int .u64 (uv a.vh)) ∧ wr.cell? ⟨w.heap.size, 1, none⟩ = some (.int .u64 (uv a.vl)) ∧ wr.cell? ⟨w.heap.size, 2, none⟩ = some (.int .u64 (uv a.ch)) ∧ wr.cell? ⟨w.heap.size, 3, none⟩ = some (.int .u64 (uv a.cl))) ∧
    (wr.cell? ⟨w.heap.size + 1, 0, none⟩ = some (.int .u64 (uv b.vh)) ∧ wr.cell? ⟨w.heap.size + 1, 1, none⟩ = some (.int .u64 (uv b.vl)) ∧ wr.cell? ⟨w.heap.size + 1, 2, none⟩ = some (.int .u64 (uv b.ch)) ∧ wr.cell? ⟨w.heap.size + 1, 3, none⟩ = some (.int .u64 (uv b.cl))) :=
  ⟨⟨h.ba.cell 0, h.ba.cell 1, h.ba.cell 2, h.ba.cell 3⟩, ⟨h.bb.cell 0, h.bb.cell 1, h.bb.cell 2, h.bb.cell 3⟩⟩
theorem pair_zero {lh ll : BitVec 64} (h : bitsDown (hbit lh ll) 128 = []) : eq2 (uv lh) (uv ll) 0 0 = true := by
  have hb := bitsDown_nil h
  obtain ⟨e1, e2⟩ := head_ext (h := lh) (l := ll) (h' := 0#64) (l' := 0#64) (fun j hj => by rw [hb j hj]; simp [hbit])
  rw [e1, e2]; exact eq2_self 0 0
theorem pair_some {lh ll : BitVec 64} {k : Nat} {ks : List Nat} (h : bitsDown (hbit lh ll) 128 = k :: ks) : eq2 (uv lh) (uv ll) 0 0 = false := by
  obtain ⟨h1, h2, _, _⟩ := bitsDown_cons h
  cases c : eq2 (uv lh) (uv ll) 0 0 with
  | false => rfl
  | true =>
    rw [uv_zero, eq2_uv] at c
    simp only [Bool.and_eq_true, beq_iff_eq] at c
    rw [c.1, c.2] at h2
    simp [hbit] at h2
theorem next_bits {lh ll : BitVec 64} {k : Nat} {ks : List Nat} (h : bitsDown (hbit lh ll) 128 = k :: ks) : bitsDown (hbit (lh &&& ~~~oneH k) (ll &&& ~~~oneL k)) 128 = ks := by
  obtain ⟨h1, h2, _, h4⟩ := bitsDown_cons h
  rw [← h4]
  exact bitsDown_congr 128 fun j hj => by rw [hbit_andNot _ _ _ _ _ hj, hbit_one _ _ h1 hj]
/-- What the walk reads. -/
theorem Lw.eqs {w wr : World} {a b : Cb} {g : Nat} {lh ll : BitVec 64} {v : Value} {L : List Cb} (h : Lw w wr a b g lh ll v L) :
    (wr.cell? ⟨w.heap.size, 0, none⟩ = some (.int .u64 (uv a.vh)) ∧ wr.cell? ⟨w.heap.size, 1, none⟩ = some (.int .u64 (uv a.vl)) ∧ wr.cell? ⟨w.heap.size, 2, none⟩ = some (.int .u64 (uv a.ch)) ∧ wr.cell? ⟨w.heap.size, 3, none⟩ = some (.int .u64 (uv a.cl))) ∧
    (wr.cell? ⟨w.heap.size + 1, 0, none⟩ = some (.int .u64 (uv b.vh)) ∧ wr.cell? ⟨w.heap.size + 1, 1, none⟩ = some (.int .u64 (uv b.vl)) ∧ wr.cell? ⟨w.heap.size + 1, 2, none⟩ = some (.int .u64 (uv b.ch)) ∧ wr.cell? ⟨w.heap.size + 1, 3, none⟩ = some (.int .u64 (uv b.cl))) ∧
    (wr.cell? ⟨g, 0, none⟩ = some (.int .u64 (uv lh)) ∧ wr.cell? ⟨g, 1, none⟩ = some (.int .u64 (uv ll))) ∧
    (wr.frozen? ⟨w.heap.size, 0, none⟩ = false ∧ wr.frozen? ⟨w.heap.size, 1, none⟩ = false ∧ wr.frozen? ⟨w.heap.size, 2, none⟩ = false ∧ wr.frozen? ⟨w.heap.size, 3, none⟩ = false) ∧
    (wr.frozen? ⟨g, 0, none⟩ = false ∧ wr.frozen? ⟨g, 1, none⟩ = false) :=
  ⟨⟨h.ba.cell 0, h.ba.cell 1, h.ba.cell 2, h.ba.cell 3⟩, ⟨h.bb.cell 0, h.bb.cell 1, h.bb.cell 2, h.bb.cell 3⟩, ⟨h.bg.cell 0, h.bg.cell 1⟩, ⟨h.ba.free 0, h.ba.free 1, h.ba.free 2, h.ba.free 3⟩, ⟨h.bg.free 0, h.bg.free 1⟩⟩
theorem Blk.two {w : World} {g : Nat} {t : TypeId} {p q : BitVec 64} (h : Blk w g t (hArr p q)) : w.cell? ⟨g, 0, none⟩ = some (.int .u64 (uv p)) ∧ w.cell? ⟨g, 1, none⟩ = some (.int .u64 (uv q)) := ⟨h.cell 0, h.cell 1⟩
theorem Blk.pair {w : World} {g : Nat} {t : TypeId} {x0 x1 : Value} (h : Blk w g t #[x0, x1]) : w.cell? ⟨g, 0, none⟩ = some x0 ∧ w.cell? ⟨g, 1, none⟩ = some x1 := ⟨h.cell 0, h.cell 1⟩
theorem Blk.four {w : World} {g : Nat} {t : TypeId} {x0 x1 x2 x3 : Value} (h : Blk w g t #[x0, x1, x2, x3]) : w.cell? ⟨g, 0, none⟩ = some x0 ∧ w.cell? ⟨g, 1, none⟩ = some x1 ∧ w.cell? ⟨g, 2, none⟩ = some x2 ∧ w.cell? ⟨g, 3, none⟩ = some x3 := ⟨h.cell 0, h.cell 1, h.cell 2, h.cell 3⟩
theorem Blk.fr2 {w : World} {g : Nat} {t : TypeId} {cs : Array Value} (h : Blk w g t cs) : w.frozen? ⟨g, 0, none⟩ = false ∧ w.frozen? ⟨g, 1, none⟩ = false := ⟨h.free 0, h.free 1⟩
theorem Blk.fr4 {w : World} {g : Nat} {t : TypeId} {cs : Array Value} (h : Blk w g t cs) : w.frozen? ⟨g, 0, none⟩ = false ∧ w.frozen? ⟨g, 1, none⟩ = false ∧ w.frozen? ⟨g, 2, none⟩ = false ∧ w.frozen? ⟨g, 3, none⟩ = false := ⟨h.free 0, h.free 1, h.free 2, h.free 3⟩
theorem Blk.set4 {w : World} {g : Nat} {t : TypeId} {x0 x1 x2 x3 : Value} (h : Blk w g t #[x0, x1, x2, x3]) (y0 y1 y2 y3 : Value) : Blk ((((w.setCell ⟨g, 0, none⟩ y0).setCell ⟨g, 1, none⟩ y1).setCell ⟨g, 2, none⟩ y2).setCell ⟨g, 3, none⟩ y3) g t #[y0, y1, y2, y3] := (((h.set 0 y0).set 1 y1).set 2 y2).set 3 y3
theorem Blk.far4 {w : World} {g r : Nat} {t : TypeId} {cs : Array Value} (h : Blk w g t cs) (hp : g ≠ r) (y0 y1 y2 y3 : Value) : Blk ((((w.setCell ⟨r, 0, none⟩ y0).setCell ⟨r, 1, none⟩ y1).setCell ⟨r, 2, none⟩ y2).setCell ⟨r, 3, none⟩ y3) g t cs := (((h.far hp y0).far hp y1).far hp y2).far hp y3
/-- A list of cubes was returned, in memory of the call's own; nothing that was there has changed. -/
def Got (w : World) (L : List Cb) (e : Ending) (w' : World) : Prop := ∃ v, e = .returned v ∧ w'.ownsRow w.heap.size 51 4 v L.length (flat L) ∧ Below w.heap.size w w'
end Go.Proofs.Hd
