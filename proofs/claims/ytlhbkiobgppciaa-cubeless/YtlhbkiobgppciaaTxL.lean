/-
  Plain facts on what the reference's Less holds in memory: the text that is being made, and the texts that are done. No conditions.
-/
import Derived.Test.YtlhbkiobgppciaaTxM
namespace Go.Proofs.Hd
open Go.RowKit
/-- Block g holds cells of type t. -/
def TB (w : World) (g : Nat) (t : TypeId) : Prop := ∃ cs fr, w.heap[g]? = some (.cells cs t fr)
theorem TB.lt {w : World} {g : Nat} {t : TypeId} (h : TB w g t) : g < w.heap.size := by
  obtain ⟨cs, fr, h⟩ := h
  rcases Nat.lt_or_ge g w.heap.size with hlt | hge
  · exact hlt
  · rw [Array.getElem?_eq_none hge] at h; cases h
theorem TB.on {w w' : World} {g : Nat} {t : TypeId} (h : TB w g t) (hb : Below w.heap.size w w') : TB w' g t := by
  obtain ⟨cs, fr, e⟩ := h
  exact ⟨cs, fr, (hb.block g (TB.lt ⟨cs, fr, e⟩)).trans e⟩
theorem TB.grown {w w' : World} {g : Nat} {t : TypeId} {row : Option Nat} (h : TB w g t) (hb : w.grownBy w' row) (hg : some g ≠ row) : TB w' g t := by
  obtain ⟨cs, fr, e⟩ := h
  exact ⟨cs, fr, (hb.block g (TB.lt ⟨cs, fr, e⟩) hg).trans e⟩
theorem TB.set {w : World} {g i : Nat} {t : TypeId} {v : Value} (h : TB w g t) : TB (w.setCell ⟨g, i, none⟩ v) g t := by
  obtain ⟨cs, fr, e⟩ := h
  refine ⟨cs.setIfInBounds i v, fr, ?_⟩
  simp [World.setCell, Array.getElem?_modify, e]
theorem own_apartT {w : World} {base : Nat} {e t : TypeId} {size n g : Nat} {v : Value} {xs : List Value} (h : w.ownsRow base e size v n xs) (hg : TB w g t) (hne : e ≠ t) : some g ≠ v.ownBlock := by
  rcases h.2 with ⟨rfl, _⟩ | ⟨g', cap, cur, rfl, _, hh, _⟩
  · simp [Value.ownBlock]
  · intro he
    have e1 : g = g' := by simpa [Value.ownBlock] using he
    subst e1
    obtain ⟨cs, fr, hg⟩ := hg
    rw [hh] at hg
    injection hg with hg
    injection hg with _ ht
    exact hne ht
def strs (D : List Cb) : List Value := D.map fun c => Value.string (txt c)
theorem strs_len (D : List Cb) : (strs D).length = D.length := by simp [strs]
theorem strs_snoc (D : List Cb) (c : Cb) : strs (D ++ [c]) = strs D ++ [.string (txt c)] := by simp [strs]
structure Rl (w wr : World) (rb : Nat) (cc : Cb) (v : Value) (D : List Cb) : Prop where
  bel : Below w.heap.size w wr
  row : ByRow wr rb (fun i => sgn cc (127 - i))
  tb : TB wr rb 5
  own : wr.ownsRow w.heap.size 9 1 v D.length (strs D)
  rbb : w.heap.size ≤ rb
theorem Rl.on {w wr w2 : World} {rb : Nat} {cc : Cb} {v : Value} {D : List Cb} (h : Rl w wr rb cc v D) (hb : Below wr.heap.size wr w2) : Rl w w2 rb cc v D :=
  ⟨h.bel.trans (hb.mono h.bel.size), h.row.on hb, h.tb.on hb, own_on h.own hb, h.rbb⟩
theorem Rl.put {w wr : World} {rb : Nat} {cc c2 : Cb} {v : Value} {D : List Cb} (h : Rl w wr rb cc v D) (k m : Nat) (hm : m + k = 127) (x : Int) (hx : x = ((sgn c2 m).toNat : Int)) (hs : ∀ j, j < 128 → j ≠ m → sgn c2 j = sgn cc j) :
    Rl w (wr.setCell ⟨rb, k, none⟩ (.int .u8 x)) rb c2 v D := by
  have hr := h.rbb
  refine ⟨h.bel.setCell (by dsimp only; omega) _, h.row.set k (by omega) _ _ ?_ ?_, h.tb.set, ownsRow_setCell_other h.own (fun e => own_apartT h.own h.tb (by decide) e.symm) _, h.rbb⟩
  · rw [hx, show 127 - k = m by omega]
  · intro i hi hne
    exact hs (127 - i) (by omega) (by omega)
theorem Rl.append {w wr w2 : World} {rb : Nat} {cc c : Cb} {v v' : Value} {D : List Cb} (h : Rl w wr rb cc v D) (hg : wr.grownBy w2 v.ownBlock)
    (hown : w2.ownsRow w.heap.size 9 1 v' (D.length + 1) (strs D ++ [.string (txt c)])) : Rl w w2 rb cc v' (D ++ [c]) := by
  have hz := h.bel.size
  have hne := own_apartT h.own h.tb (by decide)
  refine ⟨h.bel.grown hg hz (fun k hk => (h.own.lt k hk).1), fun i hi => ?_, h.tb.grown hg hne, ?_, h.rbb⟩
  · have hl := World.block_lt_of_cell? wr ⟨rb, i, none⟩ (h.row i hi).1
    exact ⟨(hg.cell_far _ hl hne).trans (h.row i hi).1, (hg.frozen_far _ hl hne).trans (h.row i hi).2⟩
  · rw [strs_snoc]; simpa using hown
theorem other_sign {cc b : Cb} {m : Nat} (hm : m < 128) (hs : cc.snd = true) (hk : cc.K m = false) :
    (∀ j, j < 128 → j ≠ m → sgn (wOther cc b m) j = sgn cc j) ∧ (b.V m = true → ((sgn (wOther cc b m) m).toNat : Int) = 48) ∧ (b.V m = false → ((sgn (wOther cc b m) m).toNat : Int) = 49) := by
  have hv := open_V hm hs hk
  refine ⟨fun j hj hne => ?_, fun h => ?_, fun h => ?_⟩
  · unfold sgn; rw [wOther_K _ _ _ _ hm hj, wOther_V _ _ _ _ hm hj]; simp [hne]
  · unfold sgn; rw [wOther_K _ _ _ _ hm hm, wOther_V _ _ _ _ hm hm, hv, h]; simp
  · unfold sgn; rw [wOther_K _ _ _ _ hm hm, wOther_V _ _ _ _ hm hm, hv, h]; simp
theorem same_sign {cc b : Cb} {m : Nat} (hm : m < 128) (hs : cc.snd = true) (hk : cc.K m = false) :
    (∀ j, j < 128 → j ≠ m → sgn (wSame cc b m) j = sgn (wOther cc b m) j) ∧ (b.V m = true → ((sgn (wSame cc b m) m).toNat : Int) = 49) ∧ (b.V m = false → ((sgn (wSame cc b m) m).toNat : Int) = 48) := by
  have hv := open_V hm hs hk
  refine ⟨fun j hj hne => ?_, fun h => ?_, fun h => ?_⟩
  · unfold sgn; rw [wOther_K _ _ _ _ hm hj, wOther_V _ _ _ _ hm hj, wSame_K _ _ _ _ hm hj, wSame_V _ _ _ _ hm hj]; simp [hne]
  · unfold sgn; rw [wSame_K _ _ _ _ hm hm, wSame_V _ _ _ _ hm hm, hv, h]; simp
  · unfold sgn; rw [wSame_K _ _ _ _ hm hm, wSame_V _ _ _ _ hm hm, hv, h]; simp
/-- How far the reference has come: the bits from bit 128 - k on are done. -/
structure Prog (a b : Cb) (k : Nat) (cc : Cb) (D : List Cb) : Prop where
  snd : cc.snd = true
  care : ∀ j, j < 128 → j + k < 128 → cc.K j = a.K j
  list : D ++ lessP b cc (bitsDown (hbit (b.ch &&& ~~~a.ch) (b.cl &&& ~~~a.cl)) (128 - k)) = lessP b a (openBits a b)
  len : D.length ≤ k
theorem Prog.start {a b : Cb} (ha : a.snd = true) : Prog a b 0 a [] := ⟨ha, fun _ _ _ => rfl, rfl, by simp⟩
theorem open_bit (a b : Cb) (m : Nat) (hm : m < 128) : hbit (b.ch &&& ~~~a.ch) (b.cl &&& ~~~a.cl) m = (b.K m && !a.K m) := hbit_andNot _ _ _ _ _ hm
theorem Prog.skip {a b cc : Cb} {k m : Nat} {D : List Cb} (h : Prog a b k cc D) (hm : m + k = 127) (hn : (b.K m && !a.K m) = false) : Prog a b (k + 1) cc D := by
  refine ⟨h.snd, fun j hj hk => h.care j hj (by omega), ?_, by have := h.len; omega⟩
  rw [← h.list, show 128 - k = m + 1 by omega, show 128 - (k + 1) = m by omega, bitsDown, if_neg (by rw [open_bit a b m (by omega), hn]; simp)]
theorem Prog.free {a b cc : Cb} {k m : Nat} {D : List Cb} (h : Prog a b k cc D) (hm : m + k = 127) (ha : a.K m = false) : cc.K m = false := by
  rw [h.care m (by omega) (by omega), ha]
theorem Prog.step {a b cc : Cb} {k m : Nat} {D : List Cb} (h : Prog a b k cc D) (hm : m + k = 127) (hb : b.K m = true) (ha : a.K m = false) : Prog a b (k + 1) (wSame cc b m) (D ++ [wOther cc b m]) := by
  refine ⟨wSame_snd (by omega) h.snd, fun j hj hk => ?_, ?_, by have := h.len; simp; omega⟩
  · rw [wSame_K _ _ _ _ (by omega) hj, h.care j hj (by omega)]; simp; intro e; omega
  · rw [← h.list, show 128 - k = m + 1 by omega, show 128 - (k + 1) = m by omega, bitsDown, if_pos (by rw [open_bit a b m (by omega), hb, ha]; rfl), lessP]
    simp
theorem Prog.done {a b cc : Cb} {D : List Cb} (h : Prog a b 128 cc D) : D = lessP b a (openBits a b) := by
  have := h.list
  simpa [bitsDown, lessP] using this
/-- Texts of cubes were returned, in memory of the call's own; nothing that was there has changed. -/
def GotS (w : World) (D : List Cb) (e : Ending) (w' : World) : Prop := ∃ v, e = .returned v ∧ w'.ownsRow w.heap.size 9 1 v D.length (strs D) ∧ Below w.heap.size w w'
end Go.Proofs.Hd
