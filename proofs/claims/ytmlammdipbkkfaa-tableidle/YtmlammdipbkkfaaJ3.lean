/-
  How a rule handed in by value, a slice of rules and a slice of ports read. No conditions.
  Contracts of the inner functions of package head (isField, isNumber, lowest, below, shiftedDown, shiftedUp), of cmp.Compare and OnesCount64, of Ones and of Bit outside 0..127. Conditions as each theorem lists them.
  Contracts of Bit, Mask and Get of package head and of cmp.Or at two values. Conditions as each theorem lists them.
  Contracts of Put of package head: the field is set, or ErrArg, or ErrRange. Conditions as each theorem lists them.
  Contract of Compare of package head, and the calls at the numbers that the laws begin with. No conditions.
  The function awake of the laws of layer 1 returns true. No conditions.
  Plain facts on arrays of 128 bools as values in memory: no program in sight. No conditions.
  Contract: Bits of the reference of layer 1 returns the 128 bits of a header. No conditions.
  Plain facts on the number that some bits are. No conditions.
  Contract: Head of the reference of layer 1 returns the header of 128 bits. No conditions.
  Plain facts on arrays of 128 bools that a statement makes in whatever order: that they are there, and what they hold. No conditions.
  Plain facts: a cube as a text of 128 signs, the highest bit first; rows of 128 bytes in memory. No program in sight. No conditions.
  Plain facts on comparing headers bit by bit. No conditions.
-/
import Derived.Test.YtmlammdipbkkfaaJ2
import Derived.Deep.Slices
import Derived.Deep.Strs
import Derived.Deep.RegionWith
import Derived.Deep.MidRow
import Derived.Deep.WholeRow
import Derived.Below
import Derived.Deep.DeepCutAuto
import Derived.Deep.LoopGhost
import Derived.Deep.Light
import Derived.Lib.Hide
import Derived.Laws.IdiomStrings
import Derived.Laws.MakeOwn
namespace Go.Proofs.Ytmlammdipbkkfaa
open Go.ChangeShapes Go.WideShapes Go.ChangeAt Go.RowKit Go.Joins Go.Deep Go.Proofs.Hd
theorem cellsRule : Try.prog.cellsOf 55 = 12 := by kernel_rfl
theorem cellsDo : Try.prog.cellsOf 53 = 7 := by kernel_rfl
theorem cellsPort : Try.prog.cellsOf 81 = 5 := by kernel_rfl
theorem cellsInt : Try.prog.cellsOf 3 = 1 := by kernel_rfl
section
variable {H : Type} {enc : TypeId × Value → H} {W : World} {base : Nat} {sp : Nat → Bool}
set_option maxRecDepth 100000 in
theorem read_cube4 {n : Nat} {c0 c1 c2 c3 : Value} {y : DataW H × List MemPlace} (h0 : DataW.trod enc Try.prog W base sp true n 51 [c0, c1, c2, c3] = some y) :
    ∃ c : Cb, c0 = .int .u64 (uv c.vh) ∧ c1 = .int .u64 (uv c.vl) ∧ c2 = .int .u64 (uv c.ch) ∧ c3 = .int .u64 (uv c.cl) := by
  obtain ⟨y0, y1, m, _, _, q0, q1⟩ := trod_struct2 Try.underlying51 h0
  have q0' : DataW.trod enc Try.prog W base sp true m 25 [c0, c1] = some y0 := by simpa [cellsHead] using q0
  have q1' : DataW.trod enc Try.prog W base sp true m 25 [c2, c3] = some y1 := by simpa [cellsHead] using q1
  obtain ⟨vh, vl, rfl, rfl, _⟩ := read_head q0'
  obtain ⟨ch, cl, rfl, rfl, _⟩ := read_head q1'
  exact ⟨⟨vh, vl, ch, cl⟩, rfl, rfl, rfl, rfl⟩
set_option maxRecDepth 100000 in
theorem read_rule {n : Nat} {cs : List Value} {y : DataW H × List MemPlace} (hl : cs.length = 12) (h0 : DataW.trod enc Try.prog W base sp true n 55 cs = some y) : ∃ r : Rl, cs = r.cs := by
  match cs, hl with
  | [c0, c1, c2, c3, c4, c5, c6, c7, c8, c9, c10, c11], _ =>
    obtain ⟨y0, y1, y2, m, _, _, q0, q1, q2⟩ := trod_struct3 Try.underlying55 h0
    have q0' : DataW.trod enc Try.prog W base sp true m 3 [c0] = some y0 := by simpa [cellsInt] using q0
    have q1' : DataW.trod enc Try.prog W base sp true m 51 [c1, c2, c3, c4] = some y1 := by simpa [cellsCube] using q1
    have q2' : DataW.trod enc Try.prog W base sp true m 53 [c5, c6, c7, c8, c9, c10, c11] = some y2 := by simpa [cellsDo] using q2
    obtain ⟨pri, e0, _, _⟩ := DataW.trod_int Try.underlying3 q0'
    obtain ⟨cm, e1, e2, e3, e4⟩ := read_cube4 q1'
    obtain ⟨z0, z1, z2, z3, m', _, _, s0, s1, s2, s3⟩ := trod_struct4 Try.underlying53 q2'
    have s0' : DataW.trod enc Try.prog W base sp true m' 3 [c5] = some z0 := by simpa [cellsInt] using s0
    have s1' : DataW.trod enc Try.prog W base sp true m' 3 [c6] = some z1 := by simpa [cellsInt] using s1
    have s2' : DataW.trod enc Try.prog W base sp true m' 3 [c7] = some z2 := by simpa [cellsInt] using s2
    have s3' : DataW.trod enc Try.prog W base sp true m' 51 [c8, c9, c10, c11] = some z3 := by simpa [cellsCube] using s3
    obtain ⟨kind, e5, _, _⟩ := DataW.trod_int Try.underlying3 s0'
    obtain ⟨port, e6, _, _⟩ := DataW.trod_int Try.underlying3 s1'
    obtain ⟨tab, e7, _, _⟩ := DataW.trod_int Try.underlying3 s2'
    obtain ⟨cset, e8, e9, e10, e11⟩ := read_cube4 s3'
    simp at e0 e5 e6 e7
    subst e0 e1 e2 e3 e4 e5 e6 e7 e8 e9 e10 e11
    exact ⟨⟨pri, cm, kind, port, tab, cset⟩, rfl⟩
set_option maxRecDepth 100000 in
theorem read_port {n : Nat} {cs : List Value} {y : DataW H × List MemPlace} (hl : cs.length = 5) (h0 : DataW.trod enc Try.prog W base sp true n 81 cs = some y) : ∃ k : Int, cs[0]? = some (.int .i64 k) := by
  obtain ⟨xs, m, _, _, _, _, hf⟩ := DataW.trod_struct Try.underlying81 h0
  match cs, hl with
  | [c0, c1, c2, c3, c4], _ =>
    have q := hf 0 _ rfl
    simp [cellsInt] at q
    obtain ⟨x, _, q⟩ : ∃ x, xs[0]? = some x ∧ DataW.trod enc Try.prog W base sp true m 3 [c0] = some x := by
      first
        | exact ⟨_, rfl, q⟩
        | (obtain ⟨x, h1, h2⟩ := q; exact ⟨x, h1, h2⟩)
        | (cases hx : xs[0]? with
          | none => simp_all
          | some x => exact ⟨x, rfl, by simp_all⟩)
    obtain ⟨k, e0, _, _⟩ := DataW.trod_int Try.underlying3 q
    simp at e0
    subst e0
    exact ⟨k, rfl⟩
end
set_option maxRecDepth 100000 in
/-- A rule by value. -/
theorem open_rule {H : Type} {enc : TypeId × Value → H} {W : World} {base : Nat} {v : Value} {d : DataW H} {p : List MemPlace} (hok : Value.okWide Try.prog W .any base 55 v)
    (h0 : DataW.Trod enc Try.prog W 0 (fun _ => true) true 55 v d p) : ∃ r : Rl, v = .agg #[.int .i64 r.pri, .int .u64 (uv r.m.vh), .int .u64 (uv r.m.vl), .int .u64 (uv r.m.ch), .int .u64 (uv r.m.cl), .int .i64 r.kind, .int .i64 r.port, .int .i64 r.tab, .int .u64 (uv r.s.vh), .int .u64 (uv r.s.vl), .int .u64 (uv r.s.ch), .int .u64 (uv r.s.cl)] := by
  obtain ⟨cs, rfl, hsz⟩ := okWide_struct Try.underlying55 hok
  obtain ⟨fuel, hf⟩ := h0
  obtain ⟨r, hr⟩ := read_rule (cs := cs.toList) (by simpa using hsz.trans cellsRule) (by simpa [Value.cells] using hf)
  refine ⟨r, ?_⟩
  congr 1
  apply Array.toList_inj.1
  rw [hr]
  rfl
theorem add_plainR (b o n : Nat) : (⟨b, o, none⟩ : Addr).add n = ⟨b, o + n, none⟩ := by unfold Addr.add; by_cases hn : n = 0 <;> simp [hn]
set_option maxRecDepth 100000 in
/-- A slice of rules. -/
theorem open_rules {H : Type} {enc : TypeId × Value → H} {W : World} {base : Nat} {v : Value} {d : DataW H} {p : List MemPlace} (hok : Value.okWide Try.prog W .any base 22 v)
    (h0 : DataW.Trod enc Try.prog W 0 (fun _ => true) true 22 v d p) : ∃ (A : Option Addr) (cap : Nat) (L : List Rl), v = .slice A L.length cap ∧ Ru W v L ∧ (L.length = 0 ∨ ∃ el sp, d = .slice el sp ∧ el.length = L.length) := by
  obtain ⟨fuel, hf⟩ := h0
  obtain ⟨va, vl, vc, rfl⟩ := okWide_slice Try.underlying22 hok
  rcases open_slice Try.underlying22 hf with ⟨h1, _⟩ | ⟨a, len, cap, m, n, D, Pl, hcs, _, hlc, hcm, hm, hx, hel⟩
  · have : va = none ∧ vl = 0 ∧ vc = 0 := by simpa [Value.cells] using h1
    obtain ⟨rfl, rfl, rfl⟩ := this
    exact ⟨none, 0, [], rfl, .inl ⟨rfl, none, 0, rfl⟩, .inl rfl⟩
  · have hv : va = some a ∧ vl = len ∧ vc = cap := by simpa [Value.cells] using hcs
    obtain ⟨rfl, rfl, rfl⟩ := hv
    rw [cellsRule] at hel
    have hm' : m = vc := by simpa using hm
    subst hm'
    obtain ⟨f, hfr⟩ := choose_lt (α := Rl) (p := fun i r => ∀ (j : Nat) (u : Value), r.cs[j]? = some u → W.cell? ((a.add (i * 12)).add j) = some u) (fun i (hi : i < m) => by
      obtain ⟨cs', hc, ht⟩ := hel i hi
      obtain ⟨_, hl, hat⟩ := World.cells?_some hc
      obtain ⟨r, rfl⟩ := read_rule hl ht
      refine ⟨r, fun j u hj => ?_⟩
      have hj' : j < 12 := by have := (List.getElem?_eq_some_iff.1 hj).1; rwa [Rl.cs_len] at this
      exact (hat j hj').trans hj)
    have hd := congrArg Prod.fst hx
    refine ⟨some a, m, (List.range vl).map f, by simp, ?_, .inr ⟨_, _, hd, by simp⟩⟩
    by_cases h0 : vl = 0
    · subst h0
      exact .inl ⟨by simp, _, _, rfl⟩
    · have h1 := hfr 0 (by omega) 0 _ rfl
      obtain ⟨b, off, spot⟩ := a
      have hs : spot = none := by
        have := World.cell?_spot h1
        simpa [Addr.add] using this
      subst hs
      have hlt := World.block_lt_of_cell? W _ h1
      rw [add_plainR, add_plainR] at hlt
      refine .inr ⟨b, off, m, by simp, hlt, fun k r hk j u hj => ?_⟩
      obtain ⟨hkl, rfl⟩ := List.getElem?_eq_some_iff.1 hk
      simp only [List.length_map, List.length_range] at hkl
      simp only [List.getElem_map, List.getElem_range] at hj
      have := hfr k (by omega) j u hj
      rw [add_plainR, add_plainR] at this
      exact this
set_option maxRecDepth 100000 in
/-- A slice of ports. -/
theorem open_ports {H : Type} {enc : TypeId × Value → H} {W : World} {base : Nat} {v : Value} {d : DataW H} {p : List MemPlace} (hok : Value.okWide Try.prog W .any base 31 v)
    (h0 : DataW.Trod enc Try.prog W 0 (fun _ => true) true 31 v d p) : ∃ (A : Option Addr) (cap : Nat) (K : List Int), v = .slice A K.length cap ∧ Po W v K := by
  obtain ⟨fuel, hf⟩ := h0
  obtain ⟨va, vl, vc, rfl⟩ := okWide_slice Try.underlying31 hok
  rcases open_slice Try.underlying31 hf with ⟨h1, _⟩ | ⟨a, len, cap, m, n, D, Pl, hcs, _, hlc, hcm, hm, hx, hel⟩
  · have : va = none ∧ vl = 0 ∧ vc = 0 := by simpa [Value.cells] using h1
    obtain ⟨rfl, rfl, rfl⟩ := this
    exact ⟨none, 0, [], rfl, .inl ⟨rfl, none, 0, rfl⟩⟩
  · have hv : va = some a ∧ vl = len ∧ vc = cap := by simpa [Value.cells] using hcs
    obtain ⟨rfl, rfl, rfl⟩ := hv
    rw [cellsPort] at hel
    have hm' : m = vc := by simpa using hm
    subst hm'
    obtain ⟨f, hfr⟩ := choose_lt (α := Int) (p := fun i x => W.cell? ((a.add (i * 5)).add 0) = some (.int .i64 x)) (fun i (hi : i < m) => by
      obtain ⟨cs', hc, ht⟩ := hel i hi
      obtain ⟨_, hl, hat⟩ := World.cells?_some hc
      obtain ⟨k, hk⟩ := read_port hl ht
      exact ⟨k, (hat 0 (by omega)).trans hk⟩)
    refine ⟨some a, m, (List.range vl).map f, by simp, ?_⟩
    by_cases h0 : vl = 0
    · subst h0
      exact .inl ⟨by simp, _, _, rfl⟩
    · have h1 := hfr 0 (by omega)
      obtain ⟨b, off, spot⟩ := a
      have hs : spot = none := by
        have := World.cell?_spot h1
        simpa [Addr.add] using this
      subst hs
      have hlt := World.block_lt_of_cell? W _ h1
      rw [add_plainR, add_plainR] at hlt
      refine .inr ⟨b, off, m, by simp, by simp; omega, hlt, fun k x hk => ?_⟩
      obtain ⟨hkl, rfl⟩ := List.getElem?_eq_some_iff.1 hk
      simp only [List.length_map, List.length_range] at hkl
      simp only [List.getElem_map, List.getElem_range]
      have := hfr k (by omega)
      rw [add_plainR, add_plainR, Nat.add_zero] at this
      exact this
end Go.Proofs.Ytmlammdipbkkfaa

namespace Go.Proofs
open Go.RowKit Go.Proofs.Hd
attribute [local go_sem] uv_and uv_or uv_xor uv_andNot uv_shr uv_shl uv_add uv_sub uv_nonneg uv_shl_one uv_sub_one uv_and_one uv_div_2 uv_div_4 uv_div_16 uv_div_256 uv_div_65536 uv_div_big uv_and_m0 uv_and_m1 uv_and_m2
theorem ret_int {k : IntKind} {a b : Int} (h : a = b) : Ending.returned (.int k a) = .returned (.int k b) := by rw [h]
theorem bdrewN {B : Nat} {w w' : World} (n : Nat) (h : Below B w w') : Below B w (w'.drewN n) := ⟨h.os, h.tape, h.output, h.size, h.block⟩

theorem ones64_c (a : BitVec 64) (w : World) : Calls Try.prog 97 #[.int .u64 (uv a)] w fun e w' => e = .returned (.int .i64 (ones a)) ∧ w = w' := by
  go_enter Try.func97, Try.ntmps97
  go_wp2
  go_ret
  exact ⟨ret_int (swar_ones a), rfl⟩

theorem ones_c (h l : BitVec 64) (w : World) : Calls Try.prog 84 #[.agg #[.int .u64 (uv h), .int .u64 (uv l)]] w fun e w' => e = .returned (.int .i64 ((ones h + ones l : Nat) : Int)) ∧ Below w.heap.size w w' := by
  have h1 := ones_le h
  have h2 := ones_le l
  have e1 : ((ones h + ones l : Nat) : Int) = (ones h : Int) + (ones l : Int) := by omega
  rw [e1]
  have hw : IntKind.i64.wrap ((ones h : Int) + (ones l : Int)) = (ones h : Int) + (ones l : Int) := by rw [IntKind.wrap_i64]; omega
  go_enter Try.func84, Try.ntmps84
  go_wp2
  go_quiet ((go_at_call 97; exact Calls.quiet_of_same ((ones64_c _ _).mono fun e w' h => ⟨h.1, h.2.symm⟩)))
  go_wp2
  go_ret
  exact ⟨rfl, bdrewN _ ((Below.refl _ _).alloc (Nat.le_refl _) _)⟩

end Go.Proofs

namespace Go.Proofs
open Go.RowKit Go.Proofs.Hd
attribute [local go_sem] uv_and uv_or uv_xor uv_andNot uv_shr uv_shl uv_add uv_sub uv_nonneg uv_shl_one uv_sub_one uv_and_one

theorem first_c (x y : Int) (b : Nat) (w : World) (h0 : w.cell? ⟨b, 0, none⟩ = some (.int .i64 x)) (h1 : w.cell? ⟨b, 1, none⟩ = some (.int .i64 y)) :
    Calls Try.prog 83 #[.slice (some ⟨b, 0, none⟩) 2 2] w fun e w' => e = .returned (.int .i64 (if x = 0 then y else x)) ∧ w = w' := by
  by_cases hx : x = 0
  · have hx' : (x != 0) = false := by simp [hx]
    rw [if_pos hx]
    by_cases hy : y = 0
    · have hy' : (y != 0) = false := by simp [hy]
      rw [hy]
      clear hx hy
      go_enter Try.func83, Try.ntmps83
      go_wp2
      refine wp_loop_rounds 3 ?_
      rw [rounds_succ]
      go_wp2
      rw [rounds_succ]
      go_wp2
      rw [rounds_succ]
      go_wp2
      go_ret
      exact ⟨rfl, rfl⟩
    · have hy' : (y != 0) = true := by simp [hy]
      clear hx hy
      go_enter Try.func83, Try.ntmps83
      go_wp2
      refine wp_loop_rounds 2 ?_
      rw [rounds_succ]
      go_wp2
      rw [rounds_succ]
      go_wp2
      go_ret
      exact ⟨rfl, rfl⟩
  · have hx' : (x != 0) = true := by simp [hx]
    rw [if_neg hx]
    clear hx
    go_enter Try.func83, Try.ntmps83
    go_wp2
    refine wp_loop_rounds 1 ?_
    rw [rounds_succ]
    go_wp2
    go_ret
    exact ⟨rfl, rfl⟩

end Go.Proofs

namespace Go.Proofs
open Go.RowKit Go.Proofs.Hd
attribute [local go_sem] uv_and uv_or uv_xor uv_andNot uv_shr uv_shl uv_add uv_sub uv_nonneg uv_shl_one uv_sub_one uv_and_one

theorem keep2 {B b : Nat} {x y : Option Value} {W0 w1 w2 : World} (hb : Below w1.heap.size w1 w2) (h : Below B W0 w1 ∧ w1.cell? ⟨b, 0, none⟩ = x ∧ w1.cell? ⟨b, 1, none⟩ = y) (hB : B ≤ W0.heap.size) (hbB : b < B) :
    Below B W0 w2 ∧ w2.cell? ⟨b, 0, none⟩ = x ∧ w2.cell? ⟨b, 1, none⟩ = y := by
  have hs := h.1.size
  exact ⟨h.1.trans (hb.mono (by omega)), (hb.cell (p := ⟨b, 0, none⟩) (by simp; omega)).trans h.2.1, (hb.cell (p := ⟨b, 1, none⟩) (by simp; omega)).trans h.2.2⟩

theorem later {B : Nat} {W0 w1 w2 : World} (hb : Below w1.heap.size w1 w2) (h : Below B W0 w1) (hB : B ≤ W0.heap.size) : Below B W0 w2 :=
  h.trans (hb.mono (Nat.le_trans hB h.size))
theorem six {w w' : World} {h l : BitVec 64} (J : Below (w.heap.size + 2) ((w.alloc (.cells #[.int .u64 (uv h), .int .u64 (uv l)] 25)).alloc (.cells #[.int .u64 0, .int .u64 0] 25)) w') : w'.cell? ⟨w.heap.size, 0, none⟩ = some (.int .u64 (uv h)) ∧ w'.cell? ⟨w.heap.size, 1, none⟩ = some (.int .u64 (uv l)) ∧
    w'.cell? ⟨w.heap.size + 1, 0, none⟩ = some (.int .u64 0) ∧ w'.cell? ⟨w.heap.size + 1, 1, none⟩ = some (.int .u64 0) ∧ w'.frozen? ⟨w.heap.size + 1, 0, none⟩ = false ∧ w'.frozen? ⟨w.heap.size + 1, 1, none⟩ = false := by
  refine ⟨?_, ?_, ?_, ?_, ?_, ?_⟩
  · rw [J.cell (by simp <;> omega)]; simp
  · rw [J.cell (by simp <;> omega)]; simp
  · rw [J.cell (by simp)]; simp
  · rw [J.cell (by simp)]; simp
  · rw [J.frozen (by simp)]; simp
  · rw [J.frozen (by simp)]; simp

end Go.Proofs

namespace Go.Proofs
open Go.RowKit Go.Proofs.Hd
attribute [local go_sem] uv_and uv_or uv_xor uv_andNot uv_shr uv_shl uv_add uv_sub uv_nonneg uv_shl_one uv_sub_one uv_and_one
theorem first_h (h l h' l' : BitVec 64) (b : Nat) (w : World) (h0 : w.cell? ⟨b, 0, none⟩ = some (.int .i64 (cmpW h h'))) (h1 : w.cell? ⟨b, 1, none⟩ = some (.int .i64 (cmpW l l'))) :
    Calls Try.prog 83 #[.slice (some ⟨b, 0, none⟩) 2 2] w fun e w' => e = .returned (.int .i64 (cmpH h l h' l')) ∧ w = w' := first_c _ _ b w h0 h1

theorem kones (w : World) : Calls Try.prog 84 #[.agg #[.int .u64 1, .int .u64 9223372036854775808]] w fun e w' => e = .returned (.int .i64 2) ∧ Below w.heap.size w w' := by
  have e1 : ((ones 1#64 + ones 9223372036854775808#64 : Nat) : Int) = 2 := by decide +kernel
  have h := ones_c 1#64 9223372036854775808#64 w
  rw [e1] at h
  exact h

end Go.Proofs

namespace Go.Proofs
open Go.RowKit Go.Proofs.Hd

theorem cell_on {W w1 : World} {b o : Nat} {v : Option Value} (hb : Below W.heap.size W w1) (h : W.cell? ⟨b, o, none⟩ = v) (hl : b < W.heap.size) : w1.cell? ⟨b, o, none⟩ = v := (hb.cell (p := ⟨b, o, none⟩) hl).trans h

end Go.Proofs

namespace Go.Proofs.Hd
open Go.RowKit
/-- An array of 128 bools. -/
def bl (f : Nat → Bool) : List Value := (List.range 128).map fun i => Value.bool (f i)
theorem bl_len (f : Nat → Bool) : (bl f).length = 128 := by simp [bl]
theorem bl_size (f : Nat → Bool) : (bl f).toArray.size = 128 := by simp [bl]
theorem bl_get (f : Nat → Bool) (k : Nat) (h : k < 128) : (bl f)[k]? = some (.bool (f k)) := by simp [bl, h]
theorem bl_geta (f : Nat → Bool) (k : Nat) (h : k < 128) : (bl f).toArray[k]? = some (.bool (f k)) := by simp [bl, h]
theorem bl_one (f : Nat → Bool) : ∀ v ∈ bl f, v.oneCell' = true := by
  intro v hv; simp only [bl, List.mem_map] at hv; obtain ⟨i, _, rfl⟩ := hv; rfl
theorem bl_all (f : Nat → Bool) : (bl f).toArray.all (·.oneCell') = true := all_oneCell_toArray (bl_one f)
theorem bl_congr {f g : Nat → Bool} (h : ∀ j, j < 128 → f j = g j) : bl f = bl g := by
  unfold bl; apply List.map_congr_left; intro i hi; rw [h i (by simpa using hi)]
theorem bl_set (f : Nat → Bool) (k : Nat) (b : Bool) : (bl f).set k (.bool b) = bl (fun j => if j = k then b else f j) := by
  apply List.ext_getElem?
  intro i
  rw [List.getElem?_set]
  by_cases hi : i < 128
  · by_cases e : k = i
    · subst e; simp [bl, hi]
    · simp [bl, hi, e, show ¬ i = k from fun h => e h.symm]
  · have : (bl (fun j => if j = k then b else f j))[i]? = none := by simp [bl]; omega
    rw [this]
    by_cases e : k = i
    · subst e; simp [bl, hi]
    · simp [e, bl]; omega
/-- The first k of f, the others false. -/
def upTo (f : Nat → Bool) (k : Nat) : Nat → Bool := fun j => decide (j < k) && f j
theorem upTo_zero (f : Nat → Bool) : bl (upTo f 0) = bl (fun _ => false) := bl_congr fun j _ => by simp [upTo]
theorem upTo_all (f : Nat → Bool) : bl (upTo f 128) = bl f := bl_congr fun j hj => by simp [upTo, hj]
theorem upTo_succ (f : Nat → Bool) (k : Nat) : (bl (upTo f k)).toArray.setIfInBounds k (.bool (f k)) = (bl (upTo f (k + 1))).toArray := by
  rw [List.setIfInBounds_toArray, bl_set]
  congr 1
  apply bl_congr
  intro j _
  unfold upTo
  by_cases e : j = k
  · subst e; simp
  · have : (j < k + 1) ↔ (j < k) := by omega
    simp [e, this]
theorem upTo_set (f : Nat → Bool) (k : Nat) (b : Bool) (h : b = f k) : (bl (upTo f k)).set k (.bool b) = bl (upTo f (k + 1)) := by
  subst h
  rw [bl_set]
  apply bl_congr
  intro j _
  unfold upTo
  by_cases e : j = k
  · subst e; simp
  · have : (j < k + 1) ↔ (j < k) := by omega
    simp [e, this]
theorem uv_odd (x : BitVec 64) : ((uv x).tmod 2 == 1) = x.getLsbD 0 := by
  rw [Int.tmod_eq_emod_of_nonneg (uv_nonneg x)]
  unfold uv
  rw [BitVec.getLsbD, Nat.testBit_zero, Bool.eq_iff_iff]
  simp only [beq_iff_eq, decide_eq_true_eq]
  omega
theorem bit_lo (h l : BitVec 64) (k : Nat) (hk : k < 64) : ((uv (l >>> k)).tmod 2 == 1) = hbit h l k := by
  rw [uv_odd, BitVec.getLsbD_ushiftRight, hbit, if_pos hk, Nat.add_zero]
theorem bit_hi (h l : BitVec 64) (k : Nat) (hk : ¬ k < 64) : ((uv (h >>> (k - 64))).tmod 2 == 1) = hbit h l k := by
  rw [uv_odd, BitVec.getLsbD_ushiftRight, hbit, if_neg hk, Nat.add_zero]
theorem Below.setRow {B : Nat} {a w : World} (h : Below B a w) {g : Nat} (hg : B ≤ g) (cs : Array Value) : Below B a (w.setRow g cs) :=
  h.trans ⟨rfl, rfl, rfl, by simp, fun k hk => setRow_other _ _ _ _ (by omega)⟩
/-- A whole array of bools lies at the head of block b. -/
theorem range_of_alloc (w : World) (f : Nat → Bool) (t : TypeId) : (w.alloc (.cells (bl f).toArray t)).rangeAt w.heap.size 0 (bl f) := by
  intro j v hv
  rw [Nat.zero_add, World.cell?_alloc_new]
  simpa using hv
theorem Below.setCells {B b : Nat} {a : World} : ∀ (vs : List Value) (o : Nat) (w : World), Below B a w → B ≤ b → Below B a (w.setCells b o vs)
  | [], _, _, h, _ => h
  | v :: r, o, _, h, hb => Below.setCells r (o + 1) _ (h.setCell (p := ⟨b, o, none⟩) hb v) hb
theorem range_below {B b o : Nat} {cs : List Value} {w w' : World} (hb : Below B w w') (h : w.rangeAt b o cs) (hl : b < B) : w'.rangeAt b o cs :=
  fun j v hv => (hb.cell (p := ⟨b, o + j, none⟩) hl).trans (h j v hv)
theorem there_below {B b o n : Nat} {w w' : World} (hb : Below B w w') (h : w.there b o n) (hl : b < B) : w'.there b o n := by
  intro j hj
  have e1 := hb.cell (p := ⟨b, o + j, none⟩) hl
  have e2 := hb.frozen (p := ⟨b, o + j, none⟩) hl
  rw [e1, e2]; exact h j hj
theorem there_of_alloc (w : World) (f : Nat → Bool) (t : TypeId) : (w.alloc (.cells (bl f).toArray t)).there w.heap.size 0 128 := by
  intro j hj
  rw [Nat.zero_add, World.cell?_alloc_new]
  exact ⟨by simp [bl, hj], by simp⟩
attribute [irreducible] bl
end Go.Proofs.Hd

namespace Go.Proofs
open Go.RowKit Go.Proofs.Hd
attribute [local go_sem] uv_shr uv_nonneg

theorem info25 : (Try.prog.info? 71).map (fun i => (i.zero, i.size)) = some (some (.agg (bl (fun _ => false)).toArray), 128) := by kernel_rfl
theorem zero25 (w : World) : (zeroValue 71).run Try.prog w = .ok (.agg (bl (fun _ => false)).toArray) w := (zero_of_info info25).1 w
theorem size25 (f : Nat → Bool) : (Try.prog.info? 71).map (·.size) = some (bl f).toArray.size := by rw [(zero_of_info info25).2, bl_size]
theorem built25 : Try.prog.built 71 [] = some (bl (fun _ => false)).toArray := by kernel_rfl
theorem build25 (w : World) : (Instr.build 71 #[]).run Try.prog w = .ok (.agg (bl (fun _ => false)).toArray) w := run_build w 71 #[] _ built25
theorem loadNew (f : Nat → Bool) (w : World) : (Instr.loadAt 71 (.pointer (some ⟨w.heap.size, 0, none⟩))).run Try.prog (w.alloc (.cells (bl f).toArray 71)) = .ok (.agg (bl f).toArray) (w.alloc (.cells (bl f).toArray 71)) :=
  run_loadAt_new w 71 (bl f).toArray 128 4 Try.underlying71 (size25 f)
theorem storeNew (f g : Nat → Bool) (w : World) : (Instr.storeAt 71 (.pointer (some ⟨w.heap.size, 0, none⟩)) (.agg (bl g).toArray)).run Try.prog (w.alloc (.cells (bl f).toArray 71)) = .ok () (w.alloc (.cells (bl g).toArray 71)) :=
  run_storeAt_new w 71 (bl f).toArray (bl g).toArray (size25 g) (by rw [bl_size, bl_size]) (bl_all g)

theorem heap_two (w : World) (a b c : Obj) : (((w.alloc a).alloc b).alloc c).heap[w.heap.size + 1]? = some b := by
  show (((w.heap.push a).push b).push c)[w.heap.size + 1]? = some b
  simp only [Array.getElem?_push, Array.size_push]
  rw [if_neg (by omega), if_pos trivial]
theorem put_new {ops : Array Oper} {rest : List Oper} {op : Oper} {a : Act} {w : World} {Q : Exit → Act → World → Prop} (hgd : op.guard = none) (x y : Operand) (ho : op.op = .store 71 x y)
    (f g : Nat → Bool) (b : Nat) (hb : b = w.heap.size) (hx : a.eval x = .pointer (some ⟨b, 0, none⟩)) (hy : a.eval y = .agg (bl g).toArray)
    (h : wpList Try.prog ops Q rest (a.put op.dst undef) (w.alloc (.cells (bl g).toArray 71))) : wpList Try.prog ops Q (op :: rest) a (w.alloc (.cells (bl f).toArray 71)) :=
  wpList_plain hgd fun _ hK => by
    subst hb
    unfold Oper.wp execOp
    simp only [ho, hx, hy, Instr.storeAt, Instr.sureAddr, Sem.run_bind, Sem.run_pure, Result.andThen_ok, run_storeVar_new w 71 (bl f).toArray (bl g).toArray (size25 g) (by rw [bl_size, bl_size]) (bl_all g)]
    exact hK _ _ h
theorem get_new {ops : Array Oper} {rest : List Oper} {op : Oper} {a : Act} {w : World} {Q : Exit → Act → World → Prop} (hgd : op.guard = none) (x : Operand) (ho : op.op = .load 71 x)
    (f : Nat → Bool) (b : Nat) (hb : b = w.heap.size) (hx : a.eval x = .pointer (some ⟨b, 0, none⟩))
    (h : wpList Try.prog ops Q rest (a.put op.dst (.agg (bl f).toArray)) (w.alloc (.cells (bl f).toArray 71))) : wpList Try.prog ops Q (op :: rest) a (w.alloc (.cells (bl f).toArray 71)) :=
  wpList_plain hgd fun _ hK => by
    subst hb
    unfold Oper.wp execOp
    simp only [ho, hx, Instr.loadAt, Instr.sureAddr, Sem.run_bind, Sem.run_pure, Result.andThen_ok, run_loadVar_new w 71 (bl f).toArray 128 4 Try.underlying71 (size25 f)]
    exact hK _ _ h

set_option maxRecDepth 100000 in
set_option maxHeartbeats 400000 in
theorem bits_c (h l : BitVec 64) (w : World) : Calls Try.prog 35 #[.agg #[.int .u64 (uv h), .int .u64 (uv l)]] w fun e w' => e = .returned (.agg (bl (hbit h l)).toArray) ∧ Below w.heap.size w w' := by
  have hz := zero25
  have hb := build25
  go_enter Try.func35, Try.ntmps35
  go_wp2_with (refine put_new rfl _ _ rfl (fun _ => false) (fun _ => false) _ (by simp) rfl rfl ?_)
  go_loopg [4] 128 (fun g i wr => ∃ k : Nat, k ≤ 128 ∧ g = 128 - k ∧ i = .int .i64 k ∧ wr = ((w.alloc (.cells #[.int .u64 (uv h), .int .u64 (uv l)] 25)).alloc (.cells (bl (fun _ => false)).toArray 71)).alloc (.cells (bl (upTo (hbit h l) k)).toArray 71))
  case atStart => exact ⟨0, by omega, rfl, rfl, by rw [upTo_zero]⟩
  case round =>
    obtain ⟨k, hk, rfl, rfl, rfl⟩ := hrel
    by_cases hlt : k < 128
    · have hlt' : (k : Int) < 128 := by omega
      by_cases h64 : k < 64
      · have h64' : (k : Int) < 64 := by omega
        have hg := bl_get (upTo (hbit h l) k) k hlt
        go_wp2
        go_roundg (128 - (k + 1))
        case measure => omega
        case rel => exact ⟨k + 1, by omega, rfl, by go_num, by rw [upTo_set _ _ _ (bit_lo h l k h64)]⟩
      · have h64' : ¬ (k : Int) < 64 := by omega
        have hg := bl_get (upTo (hbit h l) k) k hlt
        go_wp2
        go_roundg (128 - (k + 1))
        case measure => omega
        case rel => exact ⟨k + 1, by omega, rfl, by go_num, by rw [upTo_set _ _ _ (bit_hi h l k h64)]⟩
    · obtain rfl : k = 128 := by omega
      go_wp2_with (first
        | refine get_new rfl _ rfl (upTo (hbit h l) 128) _ (by simp) rfl ?_
        | refine wpList_store_row rfl 71 _ _ rfl (w.heap.size + 1) (bl (upTo (hbit h l) 128)).toArray rfl rfl 71 (bl (fun _ => false)).toArray (heap_two _ _ _ _) (size25 _) (by rw [bl_size, bl_size]) (bl_all _) ?_)
      rw [upTo_all]
      exact bodyPost_ret (v := .agg (bl (hbit h l)).toArray) (results_cell_row Try.results35 _ _ (w.heap.size + 1) 71 _ (0, 0) _ rfl (setRow_heap _ _ (bl (fun _ => false)).toArray _ 71 (0, 0) (heap_two _ _ _ _)) Try.underlying71 rfl (size25 _)) rfl
        ⟨rfl, Below.setRow ((((Below.refl _ w).alloc (Nat.le_refl _) _).alloc (by simp) _).alloc (by simp <;> omega) _) (by omega) _⟩
end Go.Proofs

namespace Go.Proofs.Hd
open Go.RowKit
/-- The number of n bits from bit lo on. -/
def valN (f : Nat → Bool) : Nat → Nat → Nat
  | _, 0 => 0
  | lo, n + 1 => (f lo).toNat + 2 * valN f (lo + 1) n
def num (f : Nat → Bool) (lo n : Nat) : BitVec 64 := BitVec.ofNat 64 (valN f lo n)
theorem num_zero (f : Nat → Bool) (lo : Nat) : num f lo 0 = 0#64 := rfl
theorem valN_bit (f : Nat → Bool) (lo n i : Nat) : (valN f lo n).testBit i = (decide (i < n) && f (lo + i)) := by
  induction n generalizing lo i with
  | zero => simp [valN]
  | succ n ih =>
    rw [valN]
    cases i with
    | zero =>
      rw [Nat.testBit_zero]
      cases f lo <;> simp <;> omega
    | succ i =>
      rw [Nat.testBit_succ]
      have e : ((f lo).toNat + 2 * valN f (lo + 1) n) / 2 = valN f (lo + 1) n := by
        have := Bool.toNat_le (f lo); omega
      rw [e, ih, show lo + 1 + i = lo + (i + 1) by omega]
      congr 1
      simp
theorem num_bit (f : Nat → Bool) (lo n i : Nat) (hn : n ≤ 64) : (num f lo n).getLsbD i = (decide (i < n) && f (lo + i)) := by
  unfold num
  rw [BitVec.getLsbD_ofNat, valN_bit]
  by_cases c : i < n
  · simp [c, show i < 64 by omega]
  · simp [c]
theorem num_step (f : Nat → Bool) (lo n : Nat) (h : 0 < lo) (b : BitVec 64) (hb : b = BitVec.ofNat 64 (f (lo - 1)).toNat) : num f lo n + num f lo n + b = num f (lo - 1) (n + 1) := by
  subst hb
  unfold num
  rw [valN, show lo - 1 + 1 = lo by omega]
  apply BitVec.eq_of_toNat_eq
  simp only [BitVec.toNat_add, BitVec.toNat_ofNat]
  omega
theorem head_num (f : Nat → Bool) (j : Nat) (hj : j < 128) : hbit (num f 64 64) (num f 0 64) j = f j := by
  unfold hbit
  by_cases c : j < 64
  · rw [if_pos c, num_bit _ _ _ _ (by omega)]; simp [c]
  · rw [if_neg c, num_bit _ _ _ _ (by omega)]; simp only [show j - 64 < 64 by omega, decide_true, Bool.true_and]; congr 1; omega
/-- A header that has these bits is their number. -/
theorem num_of_bits {h l : BitVec 64} {f : Nat → Bool} (hb : ∀ j, j < 128 → hbit h l j = f j) : num f 64 64 = h ∧ num f 0 64 = l :=
  head_ext fun j hj => by rw [head_num f j hj, hb j hj]
theorem num_get (h l : BitVec 64) (a n : Nat) (hn : n ≤ 64) : num (hbit h l) a n = getW h l a n := by
  apply BitVec.eq_of_getLsbD_eq
  intro i _
  rw [num_bit _ _ _ _ hn, get_bit _ _ _ _ _ hn]
theorem num_congr {f g : Nat → Bool} (lo n : Nat) (h : ∀ i, lo ≤ i → i < lo + n → f i = g i) : num f lo n = num g lo n := by
  have : valN f lo n = valN g lo n := by
    induction n generalizing lo with
    | zero => rfl
    | succ n ih => rw [valN, valN, h lo (by omega) (by omega), ih (lo + 1) (fun i h1 h2 => h i (by omega) (by omega))]
  unfold num; rw [this]
theorem uv_twice (x : BitVec 64) : IntKind.u64.wrap (uv x * 2) = uv (x + x) := by
  rw [← uv_add]; congr 1; omega
theorem uv_add_one (x : BitVec 64) : IntKind.u64.wrap (uv x + 1) = uv (x + 1#64) := by
  rw [uv_one, uv_add]
theorem uv_wrap (x : BitVec 64) : IntKind.u64.wrap (uv x) = uv x := by
  rw [IntKind.wrap_u64]; have := uv_nonneg x; have := uv_lt x; omega
theorem num_step1 (f : Nat → Bool) (m n : Nat) (h : f m = true) : num f (m + 1) n + num f (m + 1) n + 1#64 = num f m (n + 1) :=
  num_step f (m + 1) n (by omega) 1#64 (by rw [Nat.add_sub_cancel, h]; rfl)
theorem num_step0 (f : Nat → Bool) (m n : Nat) (h : f m = false) : num f (m + 1) n + num f (m + 1) n = num f m (n + 1) := by
  have := num_step f (m + 1) n (by omega) 0#64 (by rw [Nat.add_sub_cancel, h]; rfl)
  rwa [BitVec.add_zero] at this
/-- The two words of a header whose bits from k on are known. -/
def hiW (f : Nat → Bool) (k : Nat) : BitVec 64 := num f (max k 64) (128 - max k 64)
def loW (f : Nat → Bool) (k : Nat) : BitVec 64 := num f (min k 64) (64 - min k 64)
theorem hiW_top (f : Nat → Bool) : hiW f 128 = 0#64 := num_zero f 128
theorem loW_top (f : Nat → Bool) : loW f 128 = 0#64 := num_zero f 64
theorem hiW_end (f : Nat → Bool) : hiW f 0 = num f 64 64 := rfl
theorem loW_end (f : Nat → Bool) : loW f 0 = num f 0 64 := rfl
theorem hiW_lo (f : Nat → Bool) (m : Nat) (h : m < 64) : hiW f (m + 1) = hiW f m := by
  unfold hiW; rw [show max (m + 1) 64 = 64 by omega, show max m 64 = 64 by omega]
theorem loW_hi (f : Nat → Bool) (m : Nat) (h : ¬ m < 64) : loW f (m + 1) = loW f m := by
  unfold loW; rw [show min (m + 1) 64 = 64 by omega, show min m 64 = 64 by omega]
theorem hiW_1 (f : Nat → Bool) (m : Nat) (h : ¬ m < 64) (h' : m < 128) (hf : f m = true) : hiW f (m + 1) + hiW f (m + 1) + 1#64 = hiW f m := by
  unfold hiW; rw [show max (m + 1) 64 = m + 1 by omega, show max m 64 = m by omega, num_step1 f m _ hf, show 128 - (m + 1) + 1 = 128 - m by omega]
theorem hiW_0 (f : Nat → Bool) (m : Nat) (h : ¬ m < 64) (h' : m < 128) (hf : f m = false) : hiW f (m + 1) + hiW f (m + 1) = hiW f m := by
  unfold hiW; rw [show max (m + 1) 64 = m + 1 by omega, show max m 64 = m by omega, num_step0 f m _ hf, show 128 - (m + 1) + 1 = 128 - m by omega]
theorem loW_1 (f : Nat → Bool) (m : Nat) (h : m < 64) (hf : f m = true) : loW f (m + 1) + loW f (m + 1) + 1#64 = loW f m := by
  unfold loW; rw [show min (m + 1) 64 = m + 1 by omega, show min m 64 = m by omega, num_step1 f m _ hf, show 64 - (m + 1) + 1 = 64 - m by omega]
theorem loW_0 (f : Nat → Bool) (m : Nat) (h : m < 64) (hf : f m = false) : loW f (m + 1) + loW f (m + 1) = loW f m := by
  unfold loW; rw [show min (m + 1) 64 = m + 1 by omega, show min m 64 = m by omega, num_step0 f m _ hf, show 64 - (m + 1) + 1 = 64 - m by omega]
attribute [irreducible] num hiW loW
end Go.Proofs.Hd

namespace Go.Proofs
open Go.RowKit Go.Proofs.Hd
attribute [local go_sem] uv_shr uv_nonneg uv_twice uv_add_one

set_option maxRecDepth 100000 in
set_option maxHeartbeats 400000 in
theorem refhead_c (f : Nat → Bool) (w : World) : Calls Try.prog 36 #[.agg (bl f).toArray] w fun e w' => e = .returned (.agg #[.int .u64 (uv (num f 64 64)), .int .u64 (uv (num f 0 64))]) ∧ Below w.heap.size w w' := by
  go_enter Try.func36, Try.ntmps36
  go_wp2
  go_loopg [4] 128 (fun k i wr => k ≤ 128 ∧ i = .int .i64 ((k : Int) - 1) ∧ wr = ((w.alloc (.cells (bl f).toArray 71)).alloc (.cells #[.int .u64 0, .int .u64 0] 25)).alloc (.cells #[.int .u64 (uv (hiW f k)), .int .u64 (uv (loW f k))] 25))
  case atStart => exact ⟨by omega, rfl, by rw [hiW_top, loW_top, ← uv_zero]⟩
  case round =>
    obtain ⟨hk, rfl, rfl⟩ := hrel
    rcases Nat.eq_zero_or_pos gk with rfl | h0
    · go_wp2
      exact bodyPost_ret (v := .agg #[.int .u64 (uv (hiW f 0)), .int .u64 (uv (loW f 0))]) (by simp [results, Try.results36, go_sem]) rfl ⟨by rw [hiW_end, loW_end], (((Below.refl _ w).alloc (Nat.le_refl _) _).alloc (by simp) _).alloc (by simp <;> omega) _⟩
    · obtain ⟨m, rfl⟩ : ∃ m, gk = m + 1 := ⟨gk - 1, by omega⟩
      have em : ((m + 1 : Nat) : Int) - 1 = (m : Int) := by omega
      rw [em]
      have hm : m < 128 := by omega
      have hm' : (m : Int) < 128 := by omega
      clear em h0 hk
      have hg := bl_get f m hm
      by_cases h64 : m < 64
      · have h64' : (m : Int) < 64 := by omega
        cases hf : f m
        · rw [hf] at hg
          have HF := Lib.hid hf; clear hf
          go_wp2
          go_roundg m
          case measure => omega
          case rel => exact ⟨by omega, rfl, by rw [hiW_lo f m h64]; simp only [uv_wrap]; rw [loW_0 f m h64 HF.out]⟩
        · rw [hf] at hg
          have HF := Lib.hid hf; clear hf
          go_wp2
          go_roundg m
          case measure => omega
          case rel => exact ⟨by omega, rfl, by rw [hiW_lo f m h64, loW_1 f m h64 HF.out]⟩
      · have h64' : ¬ (m : Int) < 64 := by omega
        cases hf : f m
        · rw [hf] at hg
          have HF := Lib.hid hf; clear hf
          go_wp2
          go_roundg m
          case measure => omega
          case rel => exact ⟨by omega, rfl, by rw [loW_hi f m h64]; simp only [uv_wrap]; rw [hiW_0 f m h64 hm HF.out]⟩
        · rw [hf] at hg
          have HF := Lib.hid hf; clear hf
          go_wp2
          go_roundg m
          case measure => omega
          case rel => exact ⟨by omega, rfl, by rw [loW_hi f m h64, hiW_1 f m h64 hm HF.out]⟩
end Go.Proofs

namespace Go.Proofs
open Go.RowKit Go.Proofs.Hd
theorem fl_lt {w : World} {b : Nat} (h : w.there b 0 128) : b < w.heap.size := by
  have := (h 0 (by omega)).1
  obtain ⟨u, hu⟩ := Option.isSome_iff_exists.1 this
  exact World.block_lt_of_cell? w ⟨b, 0 + 0, none⟩ hu
/-- An array of 128 cells is there in block b, at or behind block B; it is no block that is made later. -/
def Th (B : Nat) (w : World) (b : Nat) : Prop := w.there b 0 128 ∧ B ≤ b
theorem Th.on {B b : Nat} {W w' : World} (h : Th B W b) (hb : Below W.heap.size W w') : Th B w' b := ⟨there_below hb h.1 (fl_lt h.1), h.2⟩
theorem Th.top {B : Nat} (X : World) (b : Nat) (hb : b = X.heap.size) (h : B ≤ X.heap.size) : Th B (X.alloc (.cells (bl (fun _ => false)).toArray 71)) b := by
  subst hb; exact ⟨there_of_alloc X _ 71, h⟩
theorem Th.alloc {B b : Nat} {W : World} (h : Th B W b) (o : Obj) : Th B (W.alloc o) b := ⟨World.there_alloc h.1 o, h.2⟩
theorem Th.drew {B b : Nat} {W : World} (h : Th B W b) : Th B W.drew b := h
theorem Th.set {B b : Nat} {W : World} (h : Th B W b) (c : Nat) (vs : List Value) : Th B (W.setCells c 0 vs) b := ⟨World.there_setCells h.1 c 0 vs, h.2⟩
theorem Th.ne {B b : Nat} {W : World} (h : Th B W b) : b ≠ W.heap.size := Nat.ne_of_lt (fl_lt h.1)
theorem rows2 {V : World} {b c : Nat} (f g : Nat → Bool) (h1 : V.there b 0 128) (h2 : V.there c 0 128) (hne : b ≠ c) :
    ((V.setCells b 0 (bl f)).setCells c 0 (bl g)).rangeAt b 0 (bl f) ∧ ((V.setCells b 0 (bl f)).setCells c 0 (bl g)).rangeAt c 0 (bl g) :=
  ⟨World.rangeAt_setCells_apart (World.rangeAt_setCells_same V b 0 (bl f) (by rw [bl_len]; exact h1)) c 0 (bl g) (Or.inl hne),
   World.rangeAt_setCells_same _ c 0 (bl g) (by rw [bl_len]; exact World.there_setCells h2 b 0 (bl f))⟩
end Go.Proofs

namespace Go.Proofs.Hd
open Go.RowKit
/-- The sign of bit j. -/
def sgn (c : Cb) (j : Nat) : UInt8 := if c.K j = true then (if c.V j = true then 49 else 48) else 120
def txtL (c : Cb) : List UInt8 := (List.range 128).map fun i => sgn c (127 - i)
def txt (c : Cb) : ByteArray := ⟨(txtL c).toArray⟩
theorem txtL_len (c : Cb) : (txtL c).length = 128 := by simp [txtL]
theorem txt_size (c : Cb) : (txt c).size = 128 := by show (txtL c).toArray.size = 128; simp [txtL]
theorem txt_get (c : Cb) (i : Nat) (h : i < (txt c).size) : (txt c)[i] = sgn c (127 - i) := by
  show (txtL c).toArray[i]'h = _
  simp [txtL]
/-- 128 bytes as cells. -/
def by8 (f : Nat → UInt8) : List Value := (List.range 128).map fun i => Value.int .u8 (f i).toNat
theorem by8_len (f : Nat → UInt8) : (by8 f).length = 128 := by simp [by8]
theorem by8_get (f : Nat → UInt8) (k : Nat) (h : k < 128) : (by8 f)[k]? = some (.int .u8 (f k).toNat) := by simp [by8, h]
theorem by8_congr {f g : Nat → UInt8} (h : ∀ j, j < 128 → f j = g j) : by8 f = by8 g := by
  unfold by8; apply List.map_congr_left; intro i hi; rw [h i (by simpa using hi)]
theorem by8_set (f : Nat → UInt8) (k : Nat) (b : UInt8) : (by8 f).set k (.int .u8 b.toNat) = by8 (fun j => if j = k then b else f j) := by
  apply List.ext_getElem?
  intro i
  rw [List.getElem?_set]
  by_cases hi : i < 128
  · by_cases e : k = i
    · subst e; simp [by8, hi]
    · simp [by8, hi, e, show ¬ i = k from fun h => e h.symm]
  · have : (by8 (fun j => if j = k then b else f j))[i]? = none := by simp [by8]; omega
    rw [this]
    by_cases e : k = i
    · subst e; simp [by8, hi]
    · simp [e, by8]; omega
/-- The text from its k last signs on; the others 0. -/
def upTxt (c : Cb) (k : Nat) : Nat → UInt8 := fun i => if 128 ≤ i + k then sgn c (127 - i) else 0
theorem upTxt_zero (c : Cb) : by8 (upTxt c 0) = by8 (fun _ => 0) := by8_congr fun j hj => by simp [upTxt]; omega
theorem upTxt_set (c : Cb) (k : Nat) (hk : k < 128) (b : UInt8) (hb : b = sgn c k) : (by8 (upTxt c k)).set (127 - k) (.int .u8 b.toNat) = by8 (upTxt c (k + 1)) := by
  rw [by8_set]
  apply by8_congr
  intro j hj
  unfold upTxt
  by_cases e : j = 127 - k
  · subst e
    rw [if_pos rfl, if_pos (by omega), hb]
    congr 1; omega
  · rw [if_neg e]
    by_cases h : 128 ≤ j + k
    · rw [if_pos h, if_pos (by omega)]
    · rw [if_neg h, if_neg (by omega)]
theorem upTxt_all (c : Cb) : by8 (upTxt c 128) = (txtL c).map (fun b => Value.int .u8 b.toNat) := by
  unfold by8 txtL upTxt
  rw [List.map_map]
  apply List.map_congr_left
  intro i hi
  have : i < 128 := by simpa using hi
  simp [show 128 ≤ i + 128 by omega]
theorem upTxt_put (c : Cb) (k m : Nat) (hm : m + k = 127) (b : Int) (hb : b = ((sgn c k).toNat : Int)) : (by8 (upTxt c k)).set m (.int .u8 b) = by8 (upTxt c (k + 1)) := by
  subst hb
  have e : m = 127 - k := by omega
  subst e
  exact upTxt_set c k (by omega) _ rfl
theorem made8 : madeCells (Value.int .u8 0).cells (128 * 1) = (by8 (fun _ => 0)).toArray := by kernel_rfl
attribute [irreducible] by8
end Go.Proofs.Hd

namespace Go.Proofs.Hd
open Go.RowKit
/-- The number of the first k bits. -/
def V (f : Nat → Bool) : Nat → Nat
  | 0 => 0
  | k + 1 => V f k + 2 ^ k * (f k).toNat
theorem V_lt (f : Nat → Bool) (k : Nat) : V f k < 2 ^ k := by
  induction k with
  | zero => exact Nat.one_pos
  | succ k ih =>
    rw [V, Nat.pow_succ]
    cases f k <;> simp <;> omega
theorem V_congr {f g : Nat → Bool} (k : Nat) (h : ∀ i, i < k → f i = g i) : V f k = V g k := by
  induction k with
  | zero => rfl
  | succ k ih => rw [V, V, ih (fun i hi => h i (by omega)), h k (by omega)]
theorem V_testBit (x k : Nat) : V x.testBit k = x % 2 ^ k := by
  induction k with
  | zero => simp [V, Nat.mod_one]
  | succ k ih => rw [V, ih, Nat.mod_pow_succ, Nat.toNat_testBit]
theorem V_head (h l : BitVec 64) : V (hbit h l) 128 = 2 ^ 64 * h.toNat + l.toNat := by
  have hl := l.isLt
  have hh := h.isLt
  have e : ∀ i, i < 128 → hbit h l i = (2 ^ 64 * h.toNat + l.toNat).testBit i := by
    intro i _
    rw [Nat.testBit_two_pow_mul_add _ hl]
    unfold hbit BitVec.getLsbD
    by_cases c : i < 64 <;> simp [c]
  rw [V_congr 128 e, V_testBit, Nat.mod_eq_of_lt]
  have : (2 : Nat) ^ 128 = 2 ^ 64 * 2 ^ 64 := by decide +kernel
  rw [this]
  generalize (2 : Nat) ^ 64 = m at *
  calc m * h.toNat + l.toNat < m * h.toNat + m := by omega
    _ = m * (h.toNat + 1) := by rw [Nat.mul_add, Nat.mul_one]
    _ ≤ m * m := Nat.mul_le_mul_left m hh
/-- What the law's loop has found behind k bits. -/
def ordN (f g : Nat → Bool) : Nat → Int
  | 0 => 0
  | k + 1 => if (f k && !g k) = true then 1 else if (!f k && g k) = true then -1 else ordN f g k
theorem ordN_sign (f g : Nat → Bool) (k : Nat) : (V f k < V g k → ordN f g k = -1) ∧ (V g k < V f k → ordN f g k = 1) ∧ (V f k = V g k → ordN f g k = 0) := by
  induction k with
  | zero => exact ⟨fun h => absurd h (Nat.lt_irrefl _), fun h => absurd h (Nat.lt_irrefl _), fun _ => rfl⟩
  | succ k ih =>
    have h1 := V_lt f k
    have h2 := V_lt g k
    simp only [V, ordN]
    cases hf : f k <;> cases hg : g k <;> simp <;> omega
theorem ordN_cmp (h l p q : BitVec 64) : ordN (hbit h l) (hbit p q) 128 = cmpH h l p q := by
  have hs := ordN_sign (hbit h l) (hbit p q) 128
  rw [V_head, V_head] at hs
  have hl := l.isLt
  have hq := q.isLt
  rw [show (2 : Nat) ^ 64 = 18446744073709551616 by decide +kernel] at *
  unfold cmpH cmpW uv
  by_cases c1 : h.toNat < p.toNat
  · rw [hs.1 (by omega)]; simp [c1]
  · by_cases c2 : p.toNat < h.toNat
    · rw [hs.2.1 (by omega)]; simp [c1, c2]
    · have e : h.toNat = p.toNat := by omega
      by_cases c3 : l.toNat < q.toNat
      · rw [hs.1 (by omega)]; simp [e, c3]
      · by_cases c4 : q.toNat < l.toNat
        · rw [hs.2.1 (by omega)]; simp [e, c3, c4]
        · rw [hs.2.2 (by omega)]; simp [e, c3, c4]
theorem cmpH_neg (h l p q : BitVec 64) : cmpH p q h l = - cmpH h l p q := by
  have n1 : ∀ a b : BitVec 64, cmpW a b = - cmpW b a := by
    intro a b; unfold cmpW
    by_cases c1 : uv a < uv b
    · simp [c1, show ¬ uv b < uv a by omega]
    · by_cases c2 : uv b < uv a <;> simp [c1, c2]
  unfold cmpH
  rw [n1 p h, n1 q l]
  by_cases c : cmpW h p = 0 <;> simp [c]
theorem cmpH_bd (h l p q : BitVec 64) : -1 ≤ cmpH h l p q ∧ cmpH h l p q ≤ 1 := by
  have b : ∀ a b : BitVec 64, -1 ≤ cmpW a b ∧ cmpW a b ≤ 1 := by
    intro a b; unfold cmpW; by_cases c1 : uv a < uv b <;> by_cases c2 : uv b < uv a <;> simp [c1, c2]
  unfold cmpH
  by_cases c : cmpW h p = 0
  · rw [if_pos c]; exact b l q
  · rw [if_neg c]; exact b h p
theorem ordN_bd (f g : Nat → Bool) (k : Nat) : -1 ≤ ordN f g k ∧ ordN f g k ≤ 1 := by
  induction k with
  | zero => simp [ordN]
  | succ k ih => rw [ordN]; cases f k <;> cases g k <;> simp <;> omega
theorem range_cell {w : World} {b k : Nat} {f : Nat → Bool} (h : w.rangeAt b 0 (bl f)) (hk : k < 128) : w.cell? ⟨b, k, none⟩ = some (.bool (f k)) := by
  have := h k _ (bl_get f k hk)
  rwa [Nat.zero_add] at this
end Go.Proofs.Hd
