/-
  What memory holds at the head of the loop of cube.Less, and how it is carried on: plain facts on worlds. No conditions.
-/
import Derived.Test.YtlhbkiobgppciaaLen
import Derived.Deep.AppendLies
import Derived.Laws.OwnMore
import Derived.OneCell
import Derived.Deep.Onto
namespace Go.Proofs.Hd
open Go.RowKit
theorem grown_of_below {w w' : World} (hb : Below w.heap.size w w') (row : Option Nat) : w.grownBy w' row := ⟨hb.os, hb.tape, hb.output, hb.size, fun k hk _ => hb.block k hk⟩
theorem own_on {w w' : World} {base : Nat} {e : TypeId} {size : Nat} {v : Value} {n : Nat} {xs : List Value} (h : w.ownsRow base e size v n xs) (hb : Below w.heap.size w w') : w'.ownsRow base e size v n xs := by
  refine h.kept (grown_of_below hb none) ?_
  cases v.ownBlock with
  | none => exact .inl rfl
  | some k => exact .inr (by simp)
/-- Block g is just these cells, and may be written. -/
def Blk (w : World) (g : Nat) (t : TypeId) (cs : Array Value) : Prop := w.heap[g]? = some (.cells cs t (0, 0))
theorem Blk.lt {w : World} {g : Nat} {t : TypeId} {cs : Array Value} (h : Blk w g t cs) : g < w.heap.size := by
  rcases Nat.lt_or_ge g w.heap.size with hlt | hge
  · exact hlt
  · unfold Blk at h; rw [Array.getElem?_eq_none hge] at h; cases h
theorem Blk.cell {w : World} {g : Nat} {t : TypeId} {cs : Array Value} (h : Blk w g t cs) (i : Nat) : w.cell? ⟨g, i, none⟩ = cs[i]? := cell_of_row w g i cs t (0, 0) h
theorem Blk.free {w : World} {g : Nat} {t : TypeId} {cs : Array Value} (h : Blk w g t cs) (i : Nat) : w.frozen? ⟨g, i, none⟩ = false := by
  unfold Blk at h; simp [World.frozen?, h]
theorem Blk.on {w w' : World} {g : Nat} {t : TypeId} {cs : Array Value} (h : Blk w g t cs) (hb : Below w.heap.size w w') : Blk w' g t cs := (hb.block g h.lt).trans h
theorem Blk.new (w : World) (t : TypeId) (cs : Array Value) : Blk (w.alloc (.cells cs t)) w.heap.size t cs := heap_alloc_new w _
theorem Blk.far {w : World} {g : Nat} {t : TypeId} {cs : Array Value} (h : Blk w g t cs) {p : Addr} (hp : g ≠ p.block) (u : Value) : Blk (w.setCell p u) g t cs := (Below.heap_setCell w p u g hp).trans h
theorem Blk.set {w : World} {g : Nat} {t : TypeId} {cs : Array Value} (h : Blk w g t cs) (i : Nat) (u : Value) : Blk (w.setCell ⟨g, i, none⟩ u) g t (cs.setIfInBounds i u) := by
  unfold Blk at h ⊢; simp [World.setCell, Array.getElem?_modify, h]
theorem Blk.grown {w w' : World} {g : Nat} {t : TypeId} {cs : Array Value} {row : Option Nat} (h : Blk w g t cs) (hb : w.grownBy w' row) (hg : some g ≠ row) : Blk w' g t cs := (hb.block g h.lt hg).trans h
/-- A row that is owned and a block of another element type are apart. -/
theorem own_apart {w : World} {base : Nat} {e t : TypeId} {size n g : Nat} {v : Value} {xs : List Value} {cs : Array Value} (h : w.ownsRow base e size v n xs) (hg : Blk w g t cs) (hne : e ≠ t) : some g ≠ v.ownBlock := by
  rcases h.2 with ⟨rfl, _⟩ | ⟨g', cap, cur, rfl, _, hh, _⟩
  · simp [Value.ownBlock]
  · intro he
    have e1 : g = g' := by simpa [Value.ownBlock] using he
    subst e1
    unfold Blk at hg
    rw [hh] at hg
    injection hg with hg
    injection hg with _ ht
    exact hne ht
theorem own_base {w : World} {base : Nat} {e : TypeId} {size n g : Nat} {v : Value} {xs : List Value} (h : w.ownsRow base e size v n xs) (hg : g < base) : some g ≠ v.ownBlock := by
  intro he
  have := (h.lt g he.symm).1
  omega
def Cb.arr (c : Cb) : Array Value := #[.int .u64 (uv c.vh), .int .u64 (uv c.vl), .int .u64 (uv c.ch), .int .u64 (uv c.cl)]
def hArr (h l : BitVec 64) : Array Value := #[.int .u64 (uv h), .int .u64 (uv l)]
structure Lw (w wr : World) (a b : Cb) (g : Nat) (lh ll : BitVec 64) (v : Value) (L : List Cb) : Prop where
  bel : Below w.heap.size w wr
  ba : Blk wr w.heap.size 26 a.arr
  bb : Blk wr (w.heap.size + 1) 26 b.arr
  bg : Blk wr g 24 (hArr lh ll)
  gb : w.heap.size + 2 ≤ g
  own : wr.ownsRow (w.heap.size + 2) 26 4 v L.length (flat L)
theorem Lw.on {w wr w2 : World} {a b : Cb} {g : Nat} {lh ll : BitVec 64} {v : Value} {L : List Cb} (h : Lw w wr a b g lh ll v L) (hb : Below wr.heap.size wr w2) : Lw w w2 a b g lh ll v L :=
  ⟨h.bel.trans (hb.mono h.bel.size), h.ba.on hb, h.bb.on hb, h.bg.on hb, h.gb, own_on h.own hb⟩
theorem Lw.setL {w wr : World} {a b : Cb} {g : Nat} {lh ll : BitVec 64} {v : Value} {L : List Cb} (h : Lw w wr a b g lh ll v L) (p q : BitVec 64) :
    Lw w ((wr.setCell ⟨g, 0, none⟩ (.int .u64 (uv p))).setCell ⟨g, 1, none⟩ (.int .u64 (uv q))) a b g p q v L := by
  have hg := h.gb
  have n0 : v.ownBlock ≠ some g := fun e => own_apart h.own h.bg (by decide) e.symm
  refine ⟨(h.bel.setCell (by show _ ≤ g; omega) _).setCell (by show _ ≤ g; omega) _, (h.ba.far (by show _ ≠ g; omega) _).far (by show _ ≠ g; omega) _, (h.bb.far (by show _ ≠ g; omega) _).far (by show _ ≠ g; omega) _, ?_, h.gb, ownsRow_setCell_other (ownsRow_setCell_other h.own n0 _) n0 _⟩
  exact ((h.bg.set 0 (.int .u64 (uv p))).set 1 (.int .u64 (uv q)))
theorem Lw.setA {w wr : World} {a b : Cb} {g : Nat} {lh ll : BitVec 64} {v : Value} {L : List Cb} (h : Lw w wr a b g lh ll v L) (c : Cb) :
    Lw w ((((wr.setCell ⟨w.heap.size, 0, none⟩ (.int .u64 (uv c.vh))).setCell ⟨w.heap.size, 1, none⟩ (.int .u64 (uv c.vl))).setCell ⟨w.heap.size, 2, none⟩ (.int .u64 (uv c.ch))).setCell ⟨w.heap.size, 3, none⟩ (.int .u64 (uv c.cl))) c b g lh ll v L := by
  have hg := h.gb
  refine ⟨h.bel.trans ((sets4 _ _ _ _ _ _).mono (Nat.le_refl _)), ?_, ?_, ?_, h.gb, ?_⟩
  · exact (((h.ba.set 0 (.int .u64 (uv c.vh))).set 1 (.int .u64 (uv c.vl))).set 2 (.int .u64 (uv c.ch))).set 3 (.int .u64 (uv c.cl))
  · exact (((h.bb.far (by show _ ≠ w.heap.size; omega) _).far (by show _ ≠ w.heap.size; omega) _).far (by show _ ≠ w.heap.size; omega) _).far (by show _ ≠ w.heap.size; omega) _
  · exact (((h.bg.far (by show _ ≠ w.heap.size; omega) _).far (by show _ ≠ w.heap.size; omega) _).far (by show _ ≠ w.heap.size; omega) _).far (by show _ ≠ w.heap.size; omega) _
  · exact ownsRow_setCell_below (ownsRow_setCell_below (ownsRow_setCell_below (ownsRow_setCell_below h.own (by show w.heap.size < _; omega) _) (by show w.heap.size < _; omega) _) (by show w.heap.size < _; omega) _) (by show w.heap.size < _; omega) _
theorem Lw.newL {w wr : World} {a b : Cb} {g : Nat} {lh ll : BitVec 64} {v : Value} {L : List Cb} (h : Lw w wr a b g lh ll v L) (p q : BitVec 64) (hz : w.heap.size + 2 ≤ wr.heap.size) :
    Lw w (wr.alloc (.cells #[.int .u64 (uv p), .int .u64 (uv q)] 24)) a b wr.heap.size p q v L := by
  have hb : Below wr.heap.size wr (wr.alloc (.cells #[.int .u64 (uv p), .int .u64 (uv q)] 24)) := (Below.refl _ _).alloc (Nat.le_refl _) _
  have h2 := h.on hb
  exact ⟨h2.bel, h2.ba, h2.bb, Blk.new _ _ _, hz, h2.own⟩
theorem Lw.append {w wr w2 : World} {a b : Cb} {g : Nat} {lh ll : BitVec 64} {v v' : Value} {L : List Cb} {c : Cb} (h : Lw w wr a b g lh ll v L) (hg : wr.grownBy w2 v.ownBlock)
    (hown : w2.ownsRow (w.heap.size + 2) 26 4 v' (L.length + 1) (flat L ++ c.cells)) : Lw w w2 a b g lh ll v' (L ++ [c]) := by
  have hz := h.bel.size
  refine ⟨h.bel.grown hg hz (fun k hk => by have := (h.own.lt k hk).1; omega), h.ba.grown hg (own_base h.own (by omega)), h.bb.grown hg (own_base h.own (by omega)), h.bg.grown hg (own_apart h.own h.bg (by decide)), h.gb, ?_⟩
  rw [flat_snoc]
  simpa using hown
/-- Two cubes that were handed in lie in the first two blocks. -/
structure Tw (w wr : World) (a b : Cb) : Prop where
  bel : Below w.heap.size w wr
  ba : Blk wr w.heap.size 26 a.arr
  bb : Blk wr (w.heap.size + 1) 26 b.arr
theorem Tw.start (w : World) (a b : Cb) : Tw w ((w.alloc (.cells #[.int .u64 (uv a.vh), .int .u64 (uv a.vl), .int .u64 (uv a.ch), .int .u64 (uv a.cl)] 26)).alloc (.cells #[.int .u64 (uv b.vh), .int .u64 (uv b.vl), .int .u64 (uv b.ch), .int .u64 (uv b.cl)] 26)) a b := by
  have b1 : Below w.heap.size w (w.alloc (.cells #[.int .u64 (uv a.vh), .int .u64 (uv a.vl), .int .u64 (uv a.ch), .int .u64 (uv a.cl)] 26)) := (Below.refl _ _).alloc (Nat.le_refl _) _
  have k1 : Blk (w.alloc (.cells #[.int .u64 (uv a.vh), .int .u64 (uv a.vl), .int .u64 (uv a.ch), .int .u64 (uv a.cl)] 26)) w.heap.size 26 a.arr := Blk.new w _ _
  have k2 := Blk.new (w.alloc (.cells #[.int .u64 (uv a.vh), .int .u64 (uv a.vl), .int .u64 (uv a.ch), .int .u64 (uv a.cl)] 26)) 26 b.arr
  rw [World.size_alloc] at k2
  exact ⟨b1.alloc (by simp) _, k1.on ((Below.refl _ _).alloc (Nat.le_refl _) _), k2⟩
theorem Tw.on {w wr w2 : World} {a b : Cb} (h : Tw w wr a b) (hb : Below wr.heap.size wr w2) : Tw w w2 a b :=
  ⟨h.bel.trans (hb.mono h.bel.size), h.ba.on hb, h.bb.on hb⟩
theorem Tw.loop {w wr : World} {a b : Cb} (h : Tw w wr a b) (p q : BitVec 64) : Lw w (wr.alloc (.cells #[.int .u64 (uv p), .int .u64 (uv q)] 24)) a b wr.heap.size p q (.slice none 0 0) [] := by
  have h2 := h.on ((Below.refl wr.heap.size wr).alloc (Nat.le_refl _) (.cells #[.int .u64 (uv p), .int .u64 (uv q)] 24))
  exact ⟨h2.bel, h2.ba, h2.bb, Blk.new _ _ _, h.bb.lt, World.ownsRow_nil _ _ _ _⟩
theorem Tw.eqs {w wr : World} {a b : Cb} (h : Tw w wr a b) :
    (wr.cell? ⟨w.heap.size, 0, none⟩ = some (.int .u64 (uv a.vh)) ∧ wr.cell? ⟨w.heap.size, 1, none⟩ = some (.int .u64 (uv a.vl)) ∧ wr.cell? ⟨w.heap.size, 2, none⟩ = some (.int .u64 (uv a.ch)) ∧ wr.cell? ⟨w.heap.size, 3, none⟩ = some (.int .u64 (uv a.cl))) ∧
    (wr.cell? ⟨w.heap.size + 1, 0, none⟩ = some (.int .u64 (uv b.vh)) ∧ wr.cell? ⟨w.heap.size + 1, 1, none⟩ = some (.int .u64 (uv b.vl)) ∧ wr.cell? ⟨w.heap.size + 1, 2, none⟩ = some (.int .u64 (uv b.ch)) ∧ wr.cell? ⟨w.heap.size + 1, 3, none⟩ = some (.int .u64 (uv b.cl))) :=
  ⟨⟨h.ba.cell 0, h.ba.cell 1, h.ba.cell 2, h.ba.cell 3⟩, ⟨h.bb.cell 0, h.bb.cell 1, h.bb.cell 2, h.bb.cell 3⟩⟩
theorem pair_zero {lh ll : BitVec 64} (h : bitsDown (hbit lh ll) 128 = []) : eq2 (uv lh) (uv ll) 0 0 = true := by
  have hb := bitsDown_nil h
  obtain ⟨e1, e2⟩ := head_ext (h := lh) (l := ll) (h' := 0#64) (l' := 0#64) (fun j hj => by rw [hb j hj]; simp [hbit])
  rw [e1, e2]; exact eq2_self 0 0
theorem pair_some {lh ll : BitVec 64} {k : Nat} {ks : List Nat} (h : bitsDown (hbit lh ll) 128 = k :: ks) : eq2 (uv lh) (uv ll) 0 0 = false := by
  obtain ⟨h1, h2, _, _⟩ := bitsDown_cons h
  cases c : eq2 (uv lh) (uv ll) 0 0 with
  | false => rfl
  | true =>
    rw [uv_zero, eq2_uv] at c
    simp only [Bool.and_eq_true, beq_iff_eq] at c
    rw [c.1, c.2] at h2
    simp [hbit] at h2
theorem next_bits {lh ll : BitVec 64} {k : Nat} {ks : List Nat} (h : bitsDown (hbit lh ll) 128 = k :: ks) : bitsDown (hbit (lh &&& ~~~oneH k) (ll &&& ~~~oneL k)) 128 = ks := by
  obtain ⟨h1, h2, _, h4⟩ := bitsDown_cons h
  rw [← h4]
  exact bitsDown_congr 128 fun j hj => by rw [hbit_andNot _ _ _ _ _ hj, hbit_one _ _ h1 hj]
/-- What the walk reads. -/
theorem Lw.eqs {w wr : World} {a b : Cb} {g : Nat} {lh ll : BitVec 64} {v : Value} {L : List Cb} (h : Lw w wr a b g lh ll v L) :
    (wr.cell? ⟨w.heap.size, 0, none⟩ = some (.int .u64 (uv a.vh)) ∧ wr.cell? ⟨w.heap.size, 1, none⟩ = some (.int .u64 (uv a.vl)) ∧ wr.cell? ⟨w.heap.size, 2, none⟩ = some (.int .u64 (uv a.ch)) ∧ wr.cell? ⟨w.heap.size, 3, none⟩ = some (.int .u64 (uv a.cl))) ∧
    (wr.cell? ⟨w.heap.size + 1, 0, none⟩ = some (.int .u64 (uv b.vh)) ∧ wr.cell? ⟨w.heap.size + 1, 1, none⟩ = some (.int .u64 (uv b.vl)) ∧ wr.cell? ⟨w.heap.size + 1, 2, none⟩ = some (.int .u64 (uv b.ch)) ∧ wr.cell? ⟨w.heap.size + 1, 3, none⟩ = some (.int .u64 (uv b.cl))) ∧
    (wr.cell? ⟨g, 0, none⟩ = some (.int .u64 (uv lh)) ∧ wr.cell? ⟨g, 1, none⟩ = some (.int .u64 (uv ll))) ∧
    (wr.frozen? ⟨w.heap.size, 0, none⟩ = false ∧ wr.frozen? ⟨w.heap.size, 1, none⟩ = false ∧ wr.frozen? ⟨w.heap.size, 2, none⟩ = false ∧ wr.frozen? ⟨w.heap.size, 3, none⟩ = false) ∧
    (wr.frozen? ⟨g, 0, none⟩ = false ∧ wr.frozen? ⟨g, 1, none⟩ = false) :=
  ⟨⟨h.ba.cell 0, h.ba.cell 1, h.ba.cell 2, h.ba.cell 3⟩, ⟨h.bb.cell 0, h.bb.cell 1, h.bb.cell 2, h.bb.cell 3⟩, ⟨h.bg.cell 0, h.bg.cell 1⟩, ⟨h.ba.free 0, h.ba.free 1, h.ba.free 2, h.ba.free 3⟩, ⟨h.bg.free 0, h.bg.free 1⟩⟩
theorem Blk.two {w : World} {g : Nat} {t : TypeId} {p q : BitVec 64} (h : Blk w g t (hArr p q)) : w.cell? ⟨g, 0, none⟩ = some (.int .u64 (uv p)) ∧ w.cell? ⟨g, 1, none⟩ = some (.int .u64 (uv q)) := ⟨h.cell 0, h.cell 1⟩
theorem Blk.pair {w : World} {g : Nat} {t : TypeId} {x0 x1 : Value} (h : Blk w g t #[x0, x1]) : w.cell? ⟨g, 0, none⟩ = some x0 ∧ w.cell? ⟨g, 1, none⟩ = some x1 := ⟨h.cell 0, h.cell 1⟩
theorem Blk.four {w : World} {g : Nat} {t : TypeId} {x0 x1 x2 x3 : Value} (h : Blk w g t #[x0, x1, x2, x3]) : w.cell? ⟨g, 0, none⟩ = some x0 ∧ w.cell? ⟨g, 1, none⟩ = some x1 ∧ w.cell? ⟨g, 2, none⟩ = some x2 ∧ w.cell? ⟨g, 3, none⟩ = some x3 := ⟨h.cell 0, h.cell 1, h.cell 2, h.cell 3⟩
theorem Blk.fr2 {w : World} {g : Nat} {t : TypeId} {cs : Array Value} (h : Blk w g t cs) : w.frozen? ⟨g, 0, none⟩ = false ∧ w.frozen? ⟨g, 1, none⟩ = false := ⟨h.free 0, h.free 1⟩
theorem Blk.fr4 {w : World} {g : Nat} {t : TypeId} {cs : Array Value} (h : Blk w g t cs) : w.frozen? ⟨g, 0, none⟩ = false ∧ w.frozen? ⟨g, 1, none⟩ = false ∧ w.frozen? ⟨g, 2, none⟩ = false ∧ w.frozen? ⟨g, 3, none⟩ = false := ⟨h.free 0, h.free 1, h.free 2, h.free 3⟩
theorem Blk.set4 {w : World} {g : Nat} {t : TypeId} {x0 x1 x2 x3 : Value} (h : Blk w g t #[x0, x1, x2, x3]) (y0 y1 y2 y3 : Value) : Blk ((((w.setCell ⟨g, 0, none⟩ y0).setCell ⟨g, 1, none⟩ y1).setCell ⟨g, 2, none⟩ y2).setCell ⟨g, 3, none⟩ y3) g t #[y0, y1, y2, y3] := (((h.set 0 y0).set 1 y1).set 2 y2).set 3 y3
theorem Blk.far4 {w : World} {g r : Nat} {t : TypeId} {cs : Array Value} (h : Blk w g t cs) (hp : g ≠ r) (y0 y1 y2 y3 : Value) : Blk ((((w.setCell ⟨r, 0, none⟩ y0).setCell ⟨r, 1, none⟩ y1).setCell ⟨r, 2, none⟩ y2).setCell ⟨r, 3, none⟩ y3) g t cs := (((h.far hp y0).far hp y1).far hp y2).far hp y3
/-- A list of cubes was returned, in memory of the call's own; nothing that was there has changed. -/
def Got (w : World) (L : List Cb) (e : Ending) (w' : World) : Prop := ∃ v, e = .returned v ∧ w'.ownsRow w.heap.size 26 4 v L.length (flat L) ∧ Below w.heap.size w w'
end Go.Proofs.Hd
