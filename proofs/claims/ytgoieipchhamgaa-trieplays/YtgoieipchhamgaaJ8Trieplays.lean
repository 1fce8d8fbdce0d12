/-
  Contract of the reference's Ints over numbers in memory. Conditions as each theorem lists them.
  One trie, and two side by side, while other memory is kept. Conditions as each theorem lists them.
  Steps of the law in memory, and how a slice of steps that is handed in reads. No conditions.
  Contract of Compare of package head, and the calls at the numbers that the laws begin with. No conditions.
  The function awake of the laws of layer 1 returns true. No conditions.
  Contract: Bits of the reference of layer 1 returns the 128 bits of a header. No conditions.
  Plain facts on the number that some bits are. No conditions.
  Contract: Head of the reference of layer 1 returns the header of 128 bits. No conditions.
  Plain facts on arrays of 128 bools that a statement makes in whatever order: that they are there, and what they hold. No conditions.
  Plain facts: a cube as a text of 128 signs, the highest bit first; rows of 128 bytes in memory. No program in sight. No conditions.
  Plain facts on comparing headers bit by bit. No conditions.
-/
import Derived.Test.YtgoieipchhamgaaJ7
import Derived.Deep.Slices
import Derived.Deep.Strs
import Derived.Deep.DeepCutAuto
import Derived.Deep.LoopGhost
import Derived.Deep.Light
import Derived.Lib.Hide
import Derived.Laws.IdiomStrings
import Derived.Laws.MakeOwn
namespace Go.Proofs.Hd
open Go.RowKit
theorem take_eq_of {A B : List Int} {k : Nat} {x : Int} (h : A.take k = B.take k) (ha : A[k]? = some x) (hb : B[k]? = some x) : A.take (k + 1) = B.take (k + 1) := by
  rw [List.take_add_one, List.take_add_one, ha, hb, h]
end Go.Proofs.Hd
namespace Go.Proofs
open Go.RowKit Go.Proofs.Hd Go.Lib
attribute [local go_sem] uv_nonneg
set_option maxHeartbeats 2000000 in
theorem rintg_c (v u : Value) (A B : List Int) (w : World) (hl : A.length ≤ 4611686018427387904) (hm : B.length ≤ 4611686018427387904) (ha : Nm w v A) (hb : Nm w u B) : Calls Try.prog 14 #[v, u] w fun e w' => e = .returned (.bool (decide (A = B))) ∧ Below w.heap.size w w' := by
  obtain ⟨A1, c1, rfl, _, _, h3⟩ := ha
  obtain ⟨A2, c2, rfl, _, _, h4⟩ := hb
  have hlz : (A.length : Int) ≤ 4611686018427387904 := by omega
  have hmz : (B.length : Int) ≤ 4611686018427387904 := by omega
  obtain ⟨r, hr⟩ : ∃ r, decide (A = B) = r := ⟨_, rfl⟩
  rw [hr]
  by_cases hab : A.length = B.length
  · have habz : (A.length : Int) = (B.length : Int) := by omega
    rcases h3 with rfl | ⟨b, o, rfl, hb, hc⟩
    · obtain rfl : B = [] := List.eq_nil_of_length_eq_zero hab.symm
      obtain rfl : r = true := by rw [← hr]; simp
      clear hr h4
      go_enter Try.func14, Try.ntmps14
      go_wp2
      refine wp_loop_rounds 1 ?_
      rw [rounds_succ]
      go_wp2
      go_ret
      exact ⟨rfl, Below.refl _ _⟩
    rcases h4 with rfl | ⟨b2, o2, rfl, hb2, hc2⟩
    · obtain rfl : A = [] := List.eq_nil_of_length_eq_zero hab
      obtain rfl : r = true := by rw [← hr]; simp
      clear hr hc
      go_enter Try.func14, Try.ntmps14
      go_wp2
      refine wp_loop_rounds 1 ?_
      rw [rounds_succ]
      go_wp2
      go_ret
      exact ⟨rfl, Below.refl _ _⟩
    have HC := Lib.hid hc
    have HD := Lib.hid hc2
    have HR := Lib.hid hr
    have HAB := Lib.hid hab
    generalize hBn : B.length = n at hmz habz HAB
    have HBN := Lib.hid hBn
    clear hc hc2 hr hab hm hBn
    go_enter Try.func14, Try.ntmps14
    go_wp2
    go_loopg [5] A.length (fun gk s5 wr => ∃ k : Nat, k ≤ A.length ∧ gk = A.length - k ∧ s5 = .int .i64 k ∧ Hid (Below w.heap.size w wr) ∧ Hid (A.take k = B.take k))
    case atStart => exact ⟨0, Nat.zero_le _, rfl, rfl, Below.refl _ _, by show _ = _; simp⟩
    case round =>
      obtain ⟨k, hk, rfl, rfl, HB, HI⟩ := hrel
      by_cases hlt : k < A.length
      · have hltz : (k : Int) < (A.length : Int) := by omega
        have hltz2 : (k : Int) < (n : Int) := by omega
        obtain ⟨y, hy⟩ : ∃ y, A[k]? = some y := ⟨_, List.getElem?_eq_getElem hlt⟩
        obtain ⟨z, hz⟩ : ∃ z, B[k]? = some z := ⟨_, List.getElem?_eq_getElem (by have := HAB.out; have := HBN.out; omega)⟩
        have d1 := on_some HB.out (HC.out k y hy)
        have d2 := on_some HB.out (HD.out k z hz)
        have HY := Lib.hid hy
        have HZ := Lib.hid hz
        clear hy hz
        by_cases hyz : y = z
        · have hd : (y == z) = true := by simpa using hyz
          have st := Lib.hid (take_eq_of HI.out HY.out (by rw [hyz]; exact HZ.out))
          have E := Lib.hid hyz
          clear hyz
          go_wp2_with fail
          go_quiet (fail)
          have HB2 := Lib.hid (bdn HB.out nq)
          clear d1 d2 HB
          generalize wr.drewN nq = w2 at HB2 ⊢
          go_wp2
          go_roundg (A.length - (k + 1))
          case measure => omega
          case rel => exact ⟨k + 1, by omega, rfl, by go_num, HB2, st⟩
        · have hd : (y == z) = false := by simpa using hyz
          have hrf : r = false := by
            rw [← HR.out]
            simp only [decide_eq_false_iff_not]
            intro e
            have h1 := HY.out
            rw [e, HZ.out] at h1
            injection h1 with h1
            exact hyz h1.symm
          subst hrf
          have E := Lib.hid hyz
          clear hyz
          go_wp2_with fail
          go_quiet (fail)
          have HB2 := Lib.hid (bdn HB.out nq)
          clear d1 d2 HB
          generalize wr.drewN nq = w2 at HB2 ⊢
          go_wp2
          go_ret
          exact ⟨rfl, HB2.out⟩
      · have hltz : ¬ (k : Int) < (A.length : Int) := by omega
        have hrt : r = true := by
          have h1 := HI.out
          rw [List.take_of_length_le (by omega), List.take_of_length_le (by have := HAB.out; have := HBN.out; omega)] at h1
          rw [← HR.out]
          simpa using h1
        subst hrt
        go_wp2
        go_ret
        exact ⟨rfl, HB.out⟩
  · have habz : ¬ (A.length : Int) = (B.length : Int) := by omega
    obtain rfl : r = false := by
      rw [← hr]
      simp only [decide_eq_false_iff_not]
      intro e
      exact hab (congrArg List.length e)
    clear hr h3 h4
    go_enter Try.func14, Try.ntmps14
    go_wp2
    go_ret
    exact ⟨rfl, Below.refl _ _⟩
end Go.Proofs

namespace Go.Proofs.Hd
open Go.RowKit Go.Lib
/-- A trie whose blocks lie from n on. -/
structure One (n : Nat) (w : World) (B : Nat) (l : List (Int × Cb)) (S : Nat → Prop) : Prop where
  at_ : TrieAt w B l S
  lo : ∀ y, S y → n ≤ y
theorem One.on {n : Nat} {w w' : World} {B : Nat} {l : List (Int × Cb)} {S : Nat → Prop} (h : One n w B l S) (hb : Below w.heap.size w w') : One n w' B l S := ⟨h.at_.on hb, h.lo⟩
theorem One.step {n : Nat} {w w' : World} {B : Nat} {l l' : List (Int × Cb)} {S S' : Nat → Prop} (h : One n w B l S) (hn : n ≤ w.heap.size) (ht : TrieAt w' B l' S') (hw : Nw w S S') (hc : Ch S w w') : One n w' B l' S' ∧ Below n w w' :=
  ⟨⟨ht, fun y hy => (hw y hy).elim (h.lo y) (fun h => by omega)⟩, hc.below hn fun k hk hs => by have := h.lo k hs; omega⟩
structure Two (n : Nat) (w : World) (B1 B2 : Nat) (la lb : List (Int × Cb)) (Sa Sb : Nat → Prop) : Prop where
  a : One n w B1 la Sa
  b : One n w B2 lb Sb
  dis : ∀ y, Sa y → ¬ Sb y
theorem Two.on {n : Nat} {w w' : World} {B1 B2 : Nat} {la lb : List (Int × Cb)} {Sa Sb : Nat → Prop} (h : Two n w B1 B2 la lb Sa Sb) (hb : Below w.heap.size w w') : Two n w' B1 B2 la lb Sa Sb := ⟨h.a.on hb, h.b.on hb, h.dis⟩
theorem Two.stepA {n : Nat} {w w' : World} {B1 B2 : Nat} {la lb l' : List (Int × Cb)} {Sa Sb S' : Nat → Prop} (h : Two n w B1 B2 la lb Sa Sb) (hn : n ≤ w.heap.size) (ht : TrieAt w' B1 l' S') (hw : Nw w Sa S') (hc : Ch Sa w w') : Two n w' B1 B2 l' lb S' Sb ∧ Below n w w' := by
  obtain ⟨h1, h2⟩ := h.a.step hn ht hw hc
  refine ⟨⟨h1, ⟨h.b.at_.ch hc fun y hy hs => h.dis y hs hy, h.b.lo⟩, fun y hy hs => ?_⟩, h2⟩
  rcases hw y hy with h3 | h3
  · exact h.dis y h3 hs
  · have := h.b.at_.lt y hs; omega
theorem Two.stepB {n : Nat} {w w' : World} {B1 B2 : Nat} {la lb l' : List (Int × Cb)} {Sa Sb S' : Nat → Prop} (h : Two n w B1 B2 la lb Sa Sb) (hn : n ≤ w.heap.size) (ht : TrieAt w' B2 l' S') (hw : Nw w Sb S') (hc : Ch Sb w w') : Two n w' B1 B2 la l' Sa S' ∧ Below n w w' := by
  obtain ⟨h1, h2⟩ := h.b.step hn ht hw hc
  refine ⟨⟨⟨h.a.at_.ch hc fun y hy hs => h.dis y hy hs, h.a.lo⟩, h1, fun y hy hs => ?_⟩, h2⟩
  rcases hw y hs with h3 | h3
  · exact h.dis y hy h3
  · have := h.a.at_.lt y hy; omega
theorem wf_small {x : Int} (h1 : 0 ≤ x) (h2 : x ≤ 1000) : (Lit.int .i64 x).wf = true := WalkArith.wf_i64 (by omega)
end Go.Proofs.Hd
namespace Go.Proofs
open Go.RowKit Go.Proofs.Hd Go.Lib
theorem rint_same (v u : Value) (A B : List Int) (w : World) (e : A = B) (hl : A.length ≤ 4611686018427387904) (ha : Nm w v A) (hb : Nm w u B) : Calls Try.prog 14 #[v, u] w fun e w' => e = .returned (.bool true) ∧ Below w.heap.size w w' := by
  subst e
  have h := rintg_c v u A A w hl hl ha hb
  rw [decide_eq_true (rfl : A = A)] at h
  exact h
end Go.Proofs

namespace Go.Proofs.Hd
open Go.RowKit Go.Lib
structure Sp6 where
  what : Int
  id : Int
  c : Cb
instance : Inhabited Sp6 := ⟨⟨0, 0, ⟨0#64, 0#64, 0#64, 0#64⟩⟩⟩
def Sp6.cs (r : Sp6) : List Value := [.int .i64 r.what, .int .i64 r.id, .int .u64 (uv r.c.vh), .int .u64 (uv r.c.vl), .int .u64 (uv r.c.ch), .int .u64 (uv r.c.cl)]
theorem Sp6.cs_len (r : Sp6) : r.cs.length = 6 := rfl
/-- v is a slice of steps that reads as L. -/
def St (w : World) (v : Value) (L : List Sp6) : Prop := ∃ A cap, v = .slice A L.length cap ∧ L.length ≤ maxLen ∧ (∀ r ∈ L, (Lit.int .i64 r.id).wf = true) ∧ (L = [] ∨ ∃ b o, A = some ⟨b, o, none⟩ ∧ b < w.heap.size ∧ ∀ (k : Nat) (r : Sp6), L[k]? = some r → ∀ (j : Nat) (u : Value), r.cs[j]? = some u → w.cell? ⟨b, o + k * 6 + j, none⟩ = some u)
theorem St.on {w w' : World} {v : Value} {L : List Sp6} (h : St w v L) (hb : Below w.heap.size w w') : St w' v L := by
  obtain ⟨A, c, e, h1, h2, h3⟩ := h
  refine ⟨A, c, e, h1, h2, h3.imp id ?_⟩
  rintro ⟨b, o, e, hlt, h⟩
  exact ⟨b, o, e, Nat.lt_of_lt_of_le hlt hb.size, fun k r hk j u hj => on_some hb (h k r hk j u hj)⟩
end Go.Proofs.Hd
namespace Go.Proofs.Ytgoieipchhamgaa
open Go.ChangeShapes Go.WideShapes Go.ChangeAt Go.RowKit Go.Joins Go.Deep Go.Proofs.Hd
theorem cellsStep : Try.prog.cellsOf 35 = 6 := by kernel_rfl
theorem cellsIntS : Try.prog.cellsOf 3 = 1 := by kernel_rfl
section
variable {H : Type} {enc : TypeId × Value → H} {W : World} {base : Nat} {sp : Nat → Bool}
set_option maxRecDepth 100000 in
theorem read_step {n : Nat} {cs : List Value} {y : DataW H × List MemPlace} (hl : cs.length = 6) (h0 : DataW.trod enc Try.prog W base sp true n 35 cs = some y) : ∃ r : Sp6, cs = r.cs ∧ (Lit.int .i64 r.id).wf = true := by
  match cs, hl with
  | [c0, c1, c2, c3, c4, c5], _ =>
    obtain ⟨y0, y1, y2, m, _, _, q0, q1, q2⟩ := trod_struct3 Try.underlying35 h0
    have q0' : DataW.trod enc Try.prog W base sp true m 3 [c0] = some y0 := by simpa [cellsIntS] using q0
    have q1' : DataW.trod enc Try.prog W base sp true m 3 [c1] = some y1 := by simpa [cellsIntS] using q1
    have q2' : DataW.trod enc Try.prog W base sp true m 27 [c2, c3, c4, c5] = some y2 := by simpa [cellsCube] using q2
    obtain ⟨what, e0, _, _⟩ := DataW.trod_int Try.underlying3 q0'
    obtain ⟨id, e1, hw, hw2⟩ := DataW.trod_int Try.underlying3 q1'
    obtain ⟨z0, z1, m', _, _, s0, s1⟩ := trod_struct2 Try.underlying27 q2'
    have s0' : DataW.trod enc Try.prog W base sp true m' 25 [c2, c3] = some z0 := by simpa [cellsHead] using s0
    have s1' : DataW.trod enc Try.prog W base sp true m' 25 [c4, c5] = some z1 := by simpa [cellsHead] using s1
    obtain ⟨vh, vl, rfl, rfl, _⟩ := read_head s0'
    obtain ⟨ch, cl, rfl, rfl, _⟩ := read_head s1'
    simp at e0 e1
    subst e0 e1
    exact ⟨⟨what, id, ⟨vh, vl, ch, cl⟩⟩, rfl, by first | exact hw | exact hw2⟩
end
theorem add_plainS (b o n : Nat) : (⟨b, o, none⟩ : Addr).add n = ⟨b, o + n, none⟩ := by unfold Addr.add; by_cases hn : n = 0 <;> simp [hn]
set_option maxRecDepth 100000 in
/-- A slice of steps. -/
theorem open_steps {H : Type} {enc : TypeId × Value → H} {W : World} {base : Nat} {v : Value} {d : DataW H} {p : List MemPlace} (hok : Value.okWide Try.prog W .any base 22 v)
    (h0 : DataW.Trod enc Try.prog W 0 (fun _ => true) true 22 v d p) : ∃ (L : List Sp6), St W v L := by
  obtain ⟨fuel, hf⟩ := h0
  obtain ⟨va, vl, vc, rfl⟩ := okWide_slice Try.underlying22 hok
  rcases open_slice Try.underlying22 hf with ⟨h1, _⟩ | ⟨a, len, cap, m, n, D, Pl, hcs, _, hlc, hcm, hm, hx, hel⟩
  · have : va = none ∧ vl = 0 ∧ vc = 0 := by simpa [Value.cells] using h1
    obtain ⟨rfl, rfl, rfl⟩ := this
    exact ⟨[], none, 0, rfl, Nat.zero_le _, fun _ h => absurd h (List.not_mem_nil), .inl rfl⟩
  · have hv : va = some a ∧ vl = len ∧ vc = cap := by simpa [Value.cells] using hcs
    obtain ⟨rfl, rfl, rfl⟩ := hv
    rw [cellsStep] at hel
    have hm' : m = vc := by simpa using hm
    subst hm'
    obtain ⟨f, hfr⟩ := choose_lt (α := Sp6) (p := fun i r => (Lit.int .i64 r.id).wf = true ∧ ∀ (j : Nat) (u : Value), r.cs[j]? = some u → W.cell? ((a.add (i * 6)).add j) = some u) (fun i (hi : i < m) => by
      obtain ⟨cs', hc, ht⟩ := hel i hi
      obtain ⟨_, hl, hat⟩ := World.cells?_some hc
      obtain ⟨r, rfl, hw⟩ := read_step hl ht
      refine ⟨r, hw, fun j u hj => ?_⟩
      have hj' : j < 6 := by have := (List.getElem?_eq_some_iff.1 hj).1; rwa [Sp6.cs_len] at this
      exact (hat j hj').trans hj)
    refine ⟨(List.range vl).map f, some a, m, by simp, by simp; omega, fun r hr => ?_, ?_⟩
    · obtain ⟨i, hi, rfl⟩ := List.mem_map.1 hr
      exact (hfr i (by have := List.mem_range.1 hi; omega)).1
    · by_cases h0 : vl = 0
      · subst h0
        exact .inl rfl
      · have h1 := (hfr 0 (by omega)).2 0 _ rfl
        obtain ⟨b, off, spot⟩ := a
        have hs : spot = none := by
          have := World.cell?_spot h1
          simpa [Addr.add] using this
        subst hs
        have hlt := World.block_lt_of_cell? W _ h1
        rw [add_plainS, add_plainS] at hlt
        refine .inr ⟨b, off, rfl, hlt, fun k r hk j u hj => ?_⟩
        obtain ⟨hkl, rfl⟩ := List.getElem?_eq_some_iff.1 hk
        simp only [List.length_map, List.length_range] at hkl
        simp only [List.getElem_map, List.getElem_range] at hj
        have := (hfr k (by omega)).2 j u hj
        rw [add_plainS, add_plainS] at this
        exact this
end Go.Proofs.Ytgoieipchhamgaa

namespace Go.Proofs
open Go.RowKit Go.Proofs.Hd
attribute [local go_sem] uv_and uv_or uv_xor uv_andNot uv_shr uv_shl uv_add uv_sub uv_nonneg uv_shl_one uv_sub_one uv_and_one
theorem kbit (w : World) : Calls Try.prog 44 #[.agg #[.int .u64 1, .int .u64 9223372036854775808], .int .i64 64] w fun e w' => e = .returned (.bool true) ∧ Below w.heap.size w w' := by
  have e1 : hbit 1#64 9223372036854775808#64 64 = true := by decide +kernel
  have h := bit_in 1#64 9223372036854775808#64 64 w (by omega)
  rw [e1] at h
  exact h

end Go.Proofs

namespace Go.Proofs
open Go.RowKit Go.Proofs.Hd

theorem cell_on {W w1 : World} {b o : Nat} {v : Option Value} (hb : Below W.heap.size W w1) (h : W.cell? ⟨b, o, none⟩ = v) (hl : b < W.heap.size) : w1.cell? ⟨b, o, none⟩ = v := (hb.cell (p := ⟨b, o, none⟩) hl).trans h

end Go.Proofs

namespace Go.Proofs
open Go.RowKit Go.Proofs.Hd
attribute [local go_sem] uv_shr uv_nonneg

theorem info25 : (Try.prog.info? 58).map (fun i => (i.zero, i.size)) = some (some (.agg (bl (fun _ => false)).toArray), 128) := by kernel_rfl
theorem zero25 (w : World) : (zeroValue 58).run Try.prog w = .ok (.agg (bl (fun _ => false)).toArray) w := (zero_of_info info25).1 w
theorem size25 (f : Nat → Bool) : (Try.prog.info? 58).map (·.size) = some (bl f).toArray.size := by rw [(zero_of_info info25).2, bl_size]
theorem built25 : Try.prog.built 58 [] = some (bl (fun _ => false)).toArray := by kernel_rfl
theorem build25 (w : World) : (Instr.build 58 #[]).run Try.prog w = .ok (.agg (bl (fun _ => false)).toArray) w := run_build w 58 #[] _ built25
theorem loadNew (f : Nat → Bool) (w : World) : (Instr.loadAt 58 (.pointer (some ⟨w.heap.size, 0, none⟩))).run Try.prog (w.alloc (.cells (bl f).toArray 58)) = .ok (.agg (bl f).toArray) (w.alloc (.cells (bl f).toArray 58)) :=
  run_loadAt_new w 58 (bl f).toArray 128 4 Try.underlying58 (size25 f)
theorem storeNew (f g : Nat → Bool) (w : World) : (Instr.storeAt 58 (.pointer (some ⟨w.heap.size, 0, none⟩)) (.agg (bl g).toArray)).run Try.prog (w.alloc (.cells (bl f).toArray 58)) = .ok () (w.alloc (.cells (bl g).toArray 58)) :=
  run_storeAt_new w 58 (bl f).toArray (bl g).toArray (size25 g) (by rw [bl_size, bl_size]) (bl_all g)

theorem heap_two (w : World) (a b c : Obj) : (((w.alloc a).alloc b).alloc c).heap[w.heap.size + 1]? = some b := by
  show (((w.heap.push a).push b).push c)[w.heap.size + 1]? = some b
  simp only [Array.getElem?_push, Array.size_push]
  rw [if_neg (by omega), if_pos trivial]
theorem put_new {ops : Array Oper} {rest : List Oper} {op : Oper} {a : Act} {w : World} {Q : Exit → Act → World → Prop} (hgd : op.guard = none) (x y : Operand) (ho : op.op = .store 58 x y)
    (f g : Nat → Bool) (b : Nat) (hb : b = w.heap.size) (hx : a.eval x = .pointer (some ⟨b, 0, none⟩)) (hy : a.eval y = .agg (bl g).toArray)
    (h : wpList Try.prog ops Q rest (a.put op.dst undef) (w.alloc (.cells (bl g).toArray 58))) : wpList Try.prog ops Q (op :: rest) a (w.alloc (.cells (bl f).toArray 58)) :=
  wpList_plain hgd fun _ hK => by
    subst hb
    unfold Oper.wp execOp
    simp only [ho, hx, hy, Instr.storeAt, Instr.sureAddr, Sem.run_bind, Sem.run_pure, Result.andThen_ok, run_storeVar_new w 58 (bl f).toArray (bl g).toArray (size25 g) (by rw [bl_size, bl_size]) (bl_all g)]
    exact hK _ _ h
theorem get_new {ops : Array Oper} {rest : List Oper} {op : Oper} {a : Act} {w : World} {Q : Exit → Act → World → Prop} (hgd : op.guard = none) (x : Operand) (ho : op.op = .load 58 x)
    (f : Nat → Bool) (b : Nat) (hb : b = w.heap.size) (hx : a.eval x = .pointer (some ⟨b, 0, none⟩))
    (h : wpList Try.prog ops Q rest (a.put op.dst (.agg (bl f).toArray)) (w.alloc (.cells (bl f).toArray 58))) : wpList Try.prog ops Q (op :: rest) a (w.alloc (.cells (bl f).toArray 58)) :=
  wpList_plain hgd fun _ hK => by
    subst hb
    unfold Oper.wp execOp
    simp only [ho, hx, Instr.loadAt, Instr.sureAddr, Sem.run_bind, Sem.run_pure, Result.andThen_ok, run_loadVar_new w 58 (bl f).toArray 128 4 Try.underlying58 (size25 f)]
    exact hK _ _ h

set_option maxRecDepth 100000 in
set_option maxHeartbeats 400000 in
theorem bits_c (h l : BitVec 64) (w : World) : Calls Try.prog 20 #[.agg #[.int .u64 (uv h), .int .u64 (uv l)]] w fun e w' => e = .returned (.agg (bl (hbit h l)).toArray) ∧ Below w.heap.size w w' := by
  have hz := zero25
  have hb := build25
  go_enter Try.func20, Try.ntmps20
  go_wp2_with (refine put_new rfl _ _ rfl (fun _ => false) (fun _ => false) _ (by simp) rfl rfl ?_)
  go_loopg [4] 128 (fun g i wr => ∃ k : Nat, k ≤ 128 ∧ g = 128 - k ∧ i = .int .i64 k ∧ wr = ((w.alloc (.cells #[.int .u64 (uv h), .int .u64 (uv l)] 25)).alloc (.cells (bl (fun _ => false)).toArray 58)).alloc (.cells (bl (upTo (hbit h l) k)).toArray 58))
  case atStart => exact ⟨0, by omega, rfl, rfl, by rw [upTo_zero]⟩
  case round =>
    obtain ⟨k, hk, rfl, rfl, rfl⟩ := hrel
    by_cases hlt : k < 128
    · have hlt' : (k : Int) < 128 := by omega
      by_cases h64 : k < 64
      · have h64' : (k : Int) < 64 := by omega
        have hg := bl_get (upTo (hbit h l) k) k hlt
        go_wp2
        go_roundg (128 - (k + 1))
        case measure => omega
        case rel => exact ⟨k + 1, by omega, rfl, by go_num, by rw [upTo_set _ _ _ (bit_lo h l k h64)]⟩
      · have h64' : ¬ (k : Int) < 64 := by omega
        have hg := bl_get (upTo (hbit h l) k) k hlt
        go_wp2
        go_roundg (128 - (k + 1))
        case measure => omega
        case rel => exact ⟨k + 1, by omega, rfl, by go_num, by rw [upTo_set _ _ _ (bit_hi h l k h64)]⟩
    · obtain rfl : k = 128 := by omega
      go_wp2_with (first
        | refine get_new rfl _ rfl (upTo (hbit h l) 128) _ (by simp) rfl ?_
        | refine wpList_store_row rfl 58 _ _ rfl (w.heap.size + 1) (bl (upTo (hbit h l) 128)).toArray rfl rfl 58 (bl (fun _ => false)).toArray (heap_two _ _ _ _) (size25 _) (by rw [bl_size, bl_size]) (bl_all _) ?_)
      rw [upTo_all]
      exact bodyPost_ret (v := .agg (bl (hbit h l)).toArray) (results_cell_row Try.results20 _ _ (w.heap.size + 1) 58 _ (0, 0) _ rfl (setRow_heap _ _ (bl (fun _ => false)).toArray _ 58 (0, 0) (heap_two _ _ _ _)) Try.underlying58 rfl (size25 _)) rfl
        ⟨rfl, Below.setRow ((((Below.refl _ w).alloc (Nat.le_refl _) _).alloc (by simp) _).alloc (by simp <;> omega) _) (by omega) _⟩
end Go.Proofs

namespace Go.Proofs.Hd
open Go.RowKit
/-- The number of n bits from bit lo on. -/
def valN (f : Nat → Bool) : Nat → Nat → Nat
  | _, 0 => 0
  | lo, n + 1 => (f lo).toNat + 2 * valN f (lo + 1) n
def num (f : Nat → Bool) (lo n : Nat) : BitVec 64 := BitVec.ofNat 64 (valN f lo n)
theorem num_zero (f : Nat → Bool) (lo : Nat) : num f lo 0 = 0#64 := rfl
theorem valN_bit (f : Nat → Bool) (lo n i : Nat) : (valN f lo n).testBit i = (decide (i < n) && f (lo + i)) := by
  induction n generalizing lo i with
  | zero => simp [valN]
  | succ n ih =>
    rw [valN]
    cases i with
    | zero =>
      rw [Nat.testBit_zero]
      cases f lo <;> simp <;> omega
    | succ i =>
      rw [Nat.testBit_succ]
      have e : ((f lo).toNat + 2 * valN f (lo + 1) n) / 2 = valN f (lo + 1) n := by
        have := Bool.toNat_le (f lo); omega
      rw [e, ih, show lo + 1 + i = lo + (i + 1) by omega]
      congr 1
      simp
theorem num_bit (f : Nat → Bool) (lo n i : Nat) (hn : n ≤ 64) : (num f lo n).getLsbD i = (decide (i < n) && f (lo + i)) := by
  unfold num
  rw [BitVec.getLsbD_ofNat, valN_bit]
  by_cases c : i < n
  · simp [c, show i < 64 by omega]
  · simp [c]
theorem num_step (f : Nat → Bool) (lo n : Nat) (h : 0 < lo) (b : BitVec 64) (hb : b = BitVec.ofNat 64 (f (lo - 1)).toNat) : num f lo n + num f lo n + b = num f (lo - 1) (n + 1) := by
  subst hb
  unfold num
  rw [valN, show lo - 1 + 1 = lo by omega]
  apply BitVec.eq_of_toNat_eq
  simp only [BitVec.toNat_add, BitVec.toNat_ofNat]
  omega
theorem head_num (f : Nat → Bool) (j : Nat) (hj : j < 128) : hbit (num f 64 64) (num f 0 64) j = f j := by
  unfold hbit
  by_cases c : j < 64
  · rw [if_pos c, num_bit _ _ _ _ (by omega)]; simp [c]
  · rw [if_neg c, num_bit _ _ _ _ (by omega)]; simp only [show j - 64 < 64 by omega, decide_true, Bool.true_and]; congr 1; omega
/-- A header that has these bits is their number. -/
theorem num_of_bits {h l : BitVec 64} {f : Nat → Bool} (hb : ∀ j, j < 128 → hbit h l j = f j) : num f 64 64 = h ∧ num f 0 64 = l :=
  head_ext fun j hj => by rw [head_num f j hj, hb j hj]
theorem num_get (h l : BitVec 64) (a n : Nat) (hn : n ≤ 64) : num (hbit h l) a n = getW h l a n := by
  apply BitVec.eq_of_getLsbD_eq
  intro i _
  rw [num_bit _ _ _ _ hn, get_bit _ _ _ _ _ hn]
theorem num_congr {f g : Nat → Bool} (lo n : Nat) (h : ∀ i, lo ≤ i → i < lo + n → f i = g i) : num f lo n = num g lo n := by
  have : valN f lo n = valN g lo n := by
    induction n generalizing lo with
    | zero => rfl
    | succ n ih => rw [valN, valN, h lo (by omega) (by omega), ih (lo + 1) (fun i h1 h2 => h i (by omega) (by omega))]
  unfold num; rw [this]
theorem uv_twice (x : BitVec 64) : IntKind.u64.wrap (uv x * 2) = uv (x + x) := by
  rw [← uv_add]; congr 1; omega
theorem uv_add_one (x : BitVec 64) : IntKind.u64.wrap (uv x + 1) = uv (x + 1#64) := by
  rw [uv_one, uv_add]
theorem uv_wrap (x : BitVec 64) : IntKind.u64.wrap (uv x) = uv x := by
  rw [IntKind.wrap_u64]; have := uv_nonneg x; have := uv_lt x; omega
theorem num_step1 (f : Nat → Bool) (m n : Nat) (h : f m = true) : num f (m + 1) n + num f (m + 1) n + 1#64 = num f m (n + 1) :=
  num_step f (m + 1) n (by omega) 1#64 (by rw [Nat.add_sub_cancel, h]; rfl)
theorem num_step0 (f : Nat → Bool) (m n : Nat) (h : f m = false) : num f (m + 1) n + num f (m + 1) n = num f m (n + 1) := by
  have := num_step f (m + 1) n (by omega) 0#64 (by rw [Nat.add_sub_cancel, h]; rfl)
  rwa [BitVec.add_zero] at this
/-- The two words of a header whose bits from k on are known. -/
def hiW (f : Nat → Bool) (k : Nat) : BitVec 64 := num f (max k 64) (128 - max k 64)
def loW (f : Nat → Bool) (k : Nat) : BitVec 64 := num f (min k 64) (64 - min k 64)
theorem hiW_top (f : Nat → Bool) : hiW f 128 = 0#64 := num_zero f 128
theorem loW_top (f : Nat → Bool) : loW f 128 = 0#64 := num_zero f 64
theorem hiW_end (f : Nat → Bool) : hiW f 0 = num f 64 64 := rfl
theorem loW_end (f : Nat → Bool) : loW f 0 = num f 0 64 := rfl
theorem hiW_lo (f : Nat → Bool) (m : Nat) (h : m < 64) : hiW f (m + 1) = hiW f m := by
  unfold hiW; rw [show max (m + 1) 64 = 64 by omega, show max m 64 = 64 by omega]
theorem loW_hi (f : Nat → Bool) (m : Nat) (h : ¬ m < 64) : loW f (m + 1) = loW f m := by
  unfold loW; rw [show min (m + 1) 64 = 64 by omega, show min m 64 = 64 by omega]
theorem hiW_1 (f : Nat → Bool) (m : Nat) (h : ¬ m < 64) (h' : m < 128) (hf : f m = true) : hiW f (m + 1) + hiW f (m + 1) + 1#64 = hiW f m := by
  unfold hiW; rw [show max (m + 1) 64 = m + 1 by omega, show max m 64 = m by omega, num_step1 f m _ hf, show 128 - (m + 1) + 1 = 128 - m by omega]
theorem hiW_0 (f : Nat → Bool) (m : Nat) (h : ¬ m < 64) (h' : m < 128) (hf : f m = false) : hiW f (m + 1) + hiW f (m + 1) = hiW f m := by
  unfold hiW; rw [show max (m + 1) 64 = m + 1 by omega, show max m 64 = m by omega, num_step0 f m _ hf, show 128 - (m + 1) + 1 = 128 - m by omega]
theorem loW_1 (f : Nat → Bool) (m : Nat) (h : m < 64) (hf : f m = true) : loW f (m + 1) + loW f (m + 1) + 1#64 = loW f m := by
  unfold loW; rw [show min (m + 1) 64 = m + 1 by omega, show min m 64 = m by omega, num_step1 f m _ hf, show 64 - (m + 1) + 1 = 64 - m by omega]
theorem loW_0 (f : Nat → Bool) (m : Nat) (h : m < 64) (hf : f m = false) : loW f (m + 1) + loW f (m + 1) = loW f m := by
  unfold loW; rw [show min (m + 1) 64 = m + 1 by omega, show min m 64 = m by omega, num_step0 f m _ hf, show 64 - (m + 1) + 1 = 64 - m by omega]
attribute [irreducible] num hiW loW
end Go.Proofs.Hd

namespace Go.Proofs
open Go.RowKit Go.Proofs.Hd
attribute [local go_sem] uv_shr uv_nonneg uv_twice uv_add_one

end Go.Proofs

namespace Go.Proofs
open Go.RowKit Go.Proofs.Hd
theorem fl_lt {w : World} {b : Nat} (h : w.there b 0 128) : b < w.heap.size := by
  have := (h 0 (by omega)).1
  obtain ⟨u, hu⟩ := Option.isSome_iff_exists.1 this
  exact World.block_lt_of_cell? w ⟨b, 0 + 0, none⟩ hu
/-- An array of 128 cells is there in block b, at or behind block B; it is no block that is made later. -/
def Th (B : Nat) (w : World) (b : Nat) : Prop := w.there b 0 128 ∧ B ≤ b
theorem Th.on {B b : Nat} {W w' : World} (h : Th B W b) (hb : Below W.heap.size W w') : Th B w' b := ⟨there_below hb h.1 (fl_lt h.1), h.2⟩
theorem Th.top {B : Nat} (X : World) (b : Nat) (hb : b = X.heap.size) (h : B ≤ X.heap.size) : Th B (X.alloc (.cells (bl (fun _ => false)).toArray 58)) b := by
  subst hb; exact ⟨there_of_alloc X _ 58, h⟩
theorem Th.alloc {B b : Nat} {W : World} (h : Th B W b) (o : Obj) : Th B (W.alloc o) b := ⟨World.there_alloc h.1 o, h.2⟩
theorem Th.drew {B b : Nat} {W : World} (h : Th B W b) : Th B W.drew b := h
theorem Th.set {B b : Nat} {W : World} (h : Th B W b) (c : Nat) (vs : List Value) : Th B (W.setCells c 0 vs) b := ⟨World.there_setCells h.1 c 0 vs, h.2⟩
theorem Th.ne {B b : Nat} {W : World} (h : Th B W b) : b ≠ W.heap.size := Nat.ne_of_lt (fl_lt h.1)
theorem rows2 {V : World} {b c : Nat} (f g : Nat → Bool) (h1 : V.there b 0 128) (h2 : V.there c 0 128) (hne : b ≠ c) :
    ((V.setCells b 0 (bl f)).setCells c 0 (bl g)).rangeAt b 0 (bl f) ∧ ((V.setCells b 0 (bl f)).setCells c 0 (bl g)).rangeAt c 0 (bl g) :=
  ⟨World.rangeAt_setCells_apart (World.rangeAt_setCells_same V b 0 (bl f) (by rw [bl_len]; exact h1)) c 0 (bl g) (Or.inl hne),
   World.rangeAt_setCells_same _ c 0 (bl g) (by rw [bl_len]; exact World.there_setCells h2 b 0 (bl f))⟩
end Go.Proofs

namespace Go.Proofs.Hd
open Go.RowKit
/-- The sign of bit j. -/
def sgn (c : Cb) (j : Nat) : UInt8 := if c.K j = true then (if c.V j = true then 49 else 48) else 120
def txtL (c : Cb) : List UInt8 := (List.range 128).map fun i => sgn c (127 - i)
def txt (c : Cb) : ByteArray := ⟨(txtL c).toArray⟩
theorem txtL_len (c : Cb) : (txtL c).length = 128 := by simp [txtL]
theorem txt_size (c : Cb) : (txt c).size = 128 := by show (txtL c).toArray.size = 128; simp [txtL]
theorem txt_get (c : Cb) (i : Nat) (h : i < (txt c).size) : (txt c)[i] = sgn c (127 - i) := by
  show (txtL c).toArray[i]'h = _
  simp [txtL]
/-- 128 bytes as cells. -/
def by8 (f : Nat → UInt8) : List Value := (List.range 128).map fun i => Value.int .u8 (f i).toNat
theorem by8_len (f : Nat → UInt8) : (by8 f).length = 128 := by simp [by8]
theorem by8_get (f : Nat → UInt8) (k : Nat) (h : k < 128) : (by8 f)[k]? = some (.int .u8 (f k).toNat) := by simp [by8, h]
theorem by8_congr {f g : Nat → UInt8} (h : ∀ j, j < 128 → f j = g j) : by8 f = by8 g := by
  unfold by8; apply List.map_congr_left; intro i hi; rw [h i (by simpa using hi)]
theorem by8_set (f : Nat → UInt8) (k : Nat) (b : UInt8) : (by8 f).set k (.int .u8 b.toNat) = by8 (fun j => if j = k then b else f j) := by
  apply List.ext_getElem?
  intro i
  rw [List.getElem?_set]
  by_cases hi : i < 128
  · by_cases e : k = i
    · subst e; simp [by8, hi]
    · simp [by8, hi, e, show ¬ i = k from fun h => e h.symm]
  · have : (by8 (fun j => if j = k then b else f j))[i]? = none := by simp [by8]; omega
    rw [this]
    by_cases e : k = i
    · subst e; simp [by8, hi]
    · simp [e, by8]; omega
/-- The text from its k last signs on; the others 0. -/
def upTxt (c : Cb) (k : Nat) : Nat → UInt8 := fun i => if 128 ≤ i + k then sgn c (127 - i) else 0
theorem upTxt_zero (c : Cb) : by8 (upTxt c 0) = by8 (fun _ => 0) := by8_congr fun j hj => by simp [upTxt]; omega
theorem upTxt_set (c : Cb) (k : Nat) (hk : k < 128) (b : UInt8) (hb : b = sgn c k) : (by8 (upTxt c k)).set (127 - k) (.int .u8 b.toNat) = by8 (upTxt c (k + 1)) := by
  rw [by8_set]
  apply by8_congr
  intro j hj
  unfold upTxt
  by_cases e : j = 127 - k
  · subst e
    rw [if_pos rfl, if_pos (by omega), hb]
    congr 1; omega
  · rw [if_neg e]
    by_cases h : 128 ≤ j + k
    · rw [if_pos h, if_pos (by omega)]
    · rw [if_neg h, if_neg (by omega)]
theorem upTxt_all (c : Cb) : by8 (upTxt c 128) = (txtL c).map (fun b => Value.int .u8 b.toNat) := by
  unfold by8 txtL upTxt
  rw [List.map_map]
  apply List.map_congr_left
  intro i hi
  have : i < 128 := by simpa using hi
  simp [show 128 ≤ i + 128 by omega]
theorem upTxt_put (c : Cb) (k m : Nat) (hm : m + k = 127) (b : Int) (hb : b = ((sgn c k).toNat : Int)) : (by8 (upTxt c k)).set m (.int .u8 b) = by8 (upTxt c (k + 1)) := by
  subst hb
  have e : m = 127 - k := by omega
  subst e
  exact upTxt_set c k (by omega) _ rfl
theorem made8 : madeCells (Value.int .u8 0).cells (128 * 1) = (by8 (fun _ => 0)).toArray := by kernel_rfl
attribute [irreducible] by8
end Go.Proofs.Hd

namespace Go.Proofs.Hd
open Go.RowKit
/-- The number of the first k bits. -/
def V (f : Nat → Bool) : Nat → Nat
  | 0 => 0
  | k + 1 => V f k + 2 ^ k * (f k).toNat
theorem V_lt (f : Nat → Bool) (k : Nat) : V f k < 2 ^ k := by
  induction k with
  | zero => exact Nat.one_pos
  | succ k ih =>
    rw [V, Nat.pow_succ]
    cases f k <;> simp <;> omega
theorem V_congr {f g : Nat → Bool} (k : Nat) (h : ∀ i, i < k → f i = g i) : V f k = V g k := by
  induction k with
  | zero => rfl
  | succ k ih => rw [V, V, ih (fun i hi => h i (by omega)), h k (by omega)]
theorem V_testBit (x k : Nat) : V x.testBit k = x % 2 ^ k := by
  induction k with
  | zero => simp [V, Nat.mod_one]
  | succ k ih => rw [V, ih, Nat.mod_pow_succ, Nat.toNat_testBit]
theorem V_head (h l : BitVec 64) : V (hbit h l) 128 = 2 ^ 64 * h.toNat + l.toNat := by
  have hl := l.isLt
  have hh := h.isLt
  have e : ∀ i, i < 128 → hbit h l i = (2 ^ 64 * h.toNat + l.toNat).testBit i := by
    intro i _
    rw [Nat.testBit_two_pow_mul_add _ hl]
    unfold hbit BitVec.getLsbD
    by_cases c : i < 64 <;> simp [c]
  rw [V_congr 128 e, V_testBit, Nat.mod_eq_of_lt]
  have : (2 : Nat) ^ 128 = 2 ^ 64 * 2 ^ 64 := by decide +kernel
  rw [this]
  generalize (2 : Nat) ^ 64 = m at *
  calc m * h.toNat + l.toNat < m * h.toNat + m := by omega
    _ = m * (h.toNat + 1) := by rw [Nat.mul_add, Nat.mul_one]
    _ ≤ m * m := Nat.mul_le_mul_left m hh
/-- What the law's loop has found behind k bits. -/
def ordN (f g : Nat → Bool) : Nat → Int
  | 0 => 0
  | k + 1 => if (f k && !g k) = true then 1 else if (!f k && g k) = true then -1 else ordN f g k
theorem ordN_sign (f g : Nat → Bool) (k : Nat) : (V f k < V g k → ordN f g k = -1) ∧ (V g k < V f k → ordN f g k = 1) ∧ (V f k = V g k → ordN f g k = 0) := by
  induction k with
  | zero => exact ⟨fun h => absurd h (Nat.lt_irrefl _), fun h => absurd h (Nat.lt_irrefl _), fun _ => rfl⟩
  | succ k ih =>
    have h1 := V_lt f k
    have h2 := V_lt g k
    simp only [V, ordN]
    cases hf : f k <;> cases hg : g k <;> simp <;> omega
theorem ordN_cmp (h l p q : BitVec 64) : ordN (hbit h l) (hbit p q) 128 = cmpH h l p q := by
  have hs := ordN_sign (hbit h l) (hbit p q) 128
  rw [V_head, V_head] at hs
  have hl := l.isLt
  have hq := q.isLt
  rw [show (2 : Nat) ^ 64 = 18446744073709551616 by decide +kernel] at *
  unfold cmpH cmpW uv
  by_cases c1 : h.toNat < p.toNat
  · rw [hs.1 (by omega)]; simp [c1]
  · by_cases c2 : p.toNat < h.toNat
    · rw [hs.2.1 (by omega)]; simp [c1, c2]
    · have e : h.toNat = p.toNat := by omega
      by_cases c3 : l.toNat < q.toNat
      · rw [hs.1 (by omega)]; simp [e, c3]
      · by_cases c4 : q.toNat < l.toNat
        · rw [hs.2.1 (by omega)]; simp [e, c3, c4]
        · rw [hs.2.2 (by omega)]; simp [e, c3, c4]
theorem cmpH_neg (h l p q : BitVec 64) : cmpH p q h l = - cmpH h l p q := by
  have n1 : ∀ a b : BitVec 64, cmpW a b = - cmpW b a := by
    intro a b; unfold cmpW
    by_cases c1 : uv a < uv b
    · simp [c1, show ¬ uv b < uv a by omega]
    · by_cases c2 : uv b < uv a <;> simp [c1, c2]
  unfold cmpH
  rw [n1 p h, n1 q l]
  by_cases c : cmpW h p = 0 <;> simp [c]
theorem cmpH_bd (h l p q : BitVec 64) : -1 ≤ cmpH h l p q ∧ cmpH h l p q ≤ 1 := by
  have b : ∀ a b : BitVec 64, -1 ≤ cmpW a b ∧ cmpW a b ≤ 1 := by
    intro a b; unfold cmpW; by_cases c1 : uv a < uv b <;> by_cases c2 : uv b < uv a <;> simp [c1, c2]
  unfold cmpH
  by_cases c : cmpW h p = 0
  · rw [if_pos c]; exact b l q
  · rw [if_neg c]; exact b h p
theorem ordN_bd (f g : Nat → Bool) (k : Nat) : -1 ≤ ordN f g k ∧ ordN f g k ≤ 1 := by
  induction k with
  | zero => simp [ordN]
  | succ k ih => rw [ordN]; cases f k <;> cases g k <;> simp <;> omega
theorem range_cell {w : World} {b k : Nat} {f : Nat → Bool} (h : w.rangeAt b 0 (bl f)) (hk : k < 128) : w.cell? ⟨b, k, none⟩ = some (.bool (f k)) := by
  have := h k _ (bl_get f k hk)
  rwa [Nat.zero_add] at this
end Go.Proofs.Hd
