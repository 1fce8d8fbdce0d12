/-
  The front of switches in memory; contracts of its methods Len, Less, Swap. Conditions as each theorem lists them.
  Contracts of the front's methods Push and Pop. Conditions as each theorem lists them.
  Contracts of container/heap's up, down, Push and Pop at a front. Conditions as each theorem lists them.
  Contracts of container/heap's down and Pop at a front. Conditions as each theorem lists them.
  Rows of costs in memory, and what a search by a heap holds there. Conditions as each theorem lists them.
  The contract of topo.distances. Conditions as each theorem lists them.
  Contracts of package topo: Other, start, Far; of the reference's Ints of layer 7. Conditions as each theorem lists them.
  The next port towards a switch: mathematics, and the contract of topo.Next. Conditions as each theorem lists them.
  The contract of the law's awake of layer 7. No conditions.
-/
import Derived.Test.YtgehddklojplpaaJ2
import Derived.Test.YtgehddklojplpaaProg
import Derived.Deep.LoopGhost
import Derived.BigQuiet
import Derived.Shelf.RegionOpenPlain
import Derived.Deep.RegionHeld3
import Derived.Laws.MakeOwn
namespace Go.Proofs.Hd
open Go.RowKit
/-- The first n places of block b read as g. -/
def Row2 (w : World) (b n cap : Nat) (g : Nat → Rc) : Prop := ∃ cur, Blk w b 57 cur ∧ n ≤ cap ∧ cap ≤ maxLen ∧ cur.size = cap * 2 ∧ ∀ k, k < n → cur[k * 2]? = some (.int .i64 (g k).1) ∧ cur[k * 2 + 1]? = some (.int .i64 (g k).2)
theorem Row2.c0 {w : World} {b n cap : Nat} {g : Nat → Rc} (h : Row2 w b n cap g) {k : Nat} (hk : k < n) : w.cell? ⟨b, k * 2, none⟩ = some (.int .i64 (g k).1) := by
  obtain ⟨cur, hb, _, _, _, hc⟩ := h
  exact (hb.cell _).trans (hc k hk).1
theorem Row2.c1 {w : World} {b n cap : Nat} {g : Nat → Rc} (h : Row2 w b n cap g) {k : Nat} (hk : k < n) : w.cell? ⟨b, k * 2 + 1, none⟩ = some (.int .i64 (g k).2) := by
  obtain ⟨cur, hb, _, _, _, hc⟩ := h
  exact (hb.cell _).trans (hc k hk).2
theorem Row2.ch {S : Nat → Prop} {w w' : World} {b n cap : Nat} {g : Nat → Rc} (h : Row2 w b n cap g) (hc : Ch S w w') (hn : ¬ S b) : Row2 w' b n cap g := by
  obtain ⟨cur, hb, r⟩ := h
  exact ⟨cur, hc.blk hb hn, r⟩
theorem Row2.on {w w' : World} {b n cap : Nat} {g : Nat → Rc} (h : Row2 w b n cap g) (hb : Below w.heap.size w w') : Row2 w' b n cap g := by
  obtain ⟨cur, hb', r⟩ := h
  exact ⟨cur, hb'.on hb, r⟩
theorem Blk.some {w : World} {b : Nat} {t : TypeId} {cur : Array Value} (h : Blk w b t cur) {i : Nat} (hi : i < cur.size) : ∃ u, w.cell? ⟨b, i, none⟩ = some u := ⟨cur[i], (h.cell i).trans (Array.getElem?_eq_getElem hi)⟩
theorem Ch.put {b : Nat} {w w' : World} (h : Ch (· = b) w w') (i : Nat) (u : Value) : Ch (· = b) w (w'.setCell ⟨b, i, none⟩ u) := h.trans (Ch.set w' ⟨b, i, none⟩ u)
theorem Row2.swapped {w : World} {b n cap : Nat} {g : Nat → Rc} (h : Row2 w b n cap g) {i j : Nat} (hi : i < n) (hj : j < n) :
    Row2 ((((w.setCell ⟨b, i * 2, none⟩ (.int .i64 (g j).1)).setCell ⟨b, i * 2 + 1, none⟩ (.int .i64 (g j).2)).setCell ⟨b, j * 2, none⟩ (.int .i64 (g i).1)).setCell ⟨b, j * 2 + 1, none⟩ (.int .i64 (g i).2)) b n cap (sw g i j) ∧
    Ch (· = b) w ((((w.setCell ⟨b, i * 2, none⟩ (.int .i64 (g j).1)).setCell ⟨b, i * 2 + 1, none⟩ (.int .i64 (g j).2)).setCell ⟨b, j * 2, none⟩ (.int .i64 (g i).1)).setCell ⟨b, j * 2 + 1, none⟩ (.int .i64 (g i).2)) ∧
    (∃ u, ((w.setCell ⟨b, i * 2, none⟩ (.int .i64 (g j).1)).setCell ⟨b, i * 2 + 1, none⟩ (.int .i64 (g j).2)).cell? ⟨b, j * 2, none⟩ = some u) ∧
    (∃ u, (((w.setCell ⟨b, i * 2, none⟩ (.int .i64 (g j).1)).setCell ⟨b, i * 2 + 1, none⟩ (.int .i64 (g j).2)).setCell ⟨b, j * 2, none⟩ (.int .i64 (g i).1)).cell? ⟨b, j * 2 + 1, none⟩ = some u) := by
  obtain ⟨cur, hb, hnc, hcm, hcs, hc⟩ := h
  have b1 := hb.set (i * 2) (.int .i64 (g j).1)
  have b2 := b1.set (i * 2 + 1) (.int .i64 (g j).2)
  have b3 := b2.set (j * 2) (.int .i64 (g i).1)
  have b4 := b3.set (j * 2 + 1) (.int .i64 (g i).2)
  refine ⟨⟨_, b4, hnc, hcm, by simp [hcs], fun k hk => ?_⟩, ?_, b2.some (by simp; omega), b3.some (by simp; omega)⟩
  · have h1 := (hc k hk).1
    have h2 := (hc k hk).2
    have l1 : k * 2 < cur.size := by omega
    have l2 : k * 2 + 1 < cur.size := by omega
    simp only [Array.getElem?_setIfInBounds, Array.size_setIfInBounds]
    unfold sw
    by_cases e1 : k = i
    · subst e1
      by_cases e2 : j = k
      · subst e2
        simp [l1, l2]
      · rw [if_pos rfl]
        have a1 : ¬ j * 2 + 1 = k * 2 := by omega
        have a2 : ¬ j * 2 = k * 2 := by omega
        have a5 : ¬ j * 2 = k * 2 + 1 := by omega
        simp [a1, a2, a5, l1, l2]
    · by_cases e2 : k = j
      · subst e2
        simp [e1, l1, l2]
      · have a1 : ¬ j * 2 + 1 = k * 2 := by omega
        have a2 : ¬ j * 2 = k * 2 := by omega
        have a3 : ¬ i * 2 + 1 = k * 2 := by omega
        have a4 : ¬ j * 2 + 1 = k * 2 + 1 := by omega
        have a5 : ¬ j * 2 = k * 2 + 1 := by omega
        have a6 : ¬ i * 2 = k * 2 := by omega
        have a7 : ¬ i * 2 = k * 2 + 1 := by omega
        have a8 : ¬ i * 2 + 1 = k * 2 + 1 := by omega
        simp only [a1, a2, a3, a4, a5, a6, a7, a8, e1, e2, if_false]
        exact ⟨h1, h2⟩
  · exact ((((Ch.refl _ w).put _ _).put _ _).put _ _).put _ _
theorem Ch.drew {S : Nat → Prop} {w w' : World} (h : Ch S w w') : Ch S w w'.drew := ⟨h.os, h.tape, h.output, h.size, h.block⟩
/-- A front lies at p; its row is block b, n of cap places, and reads as g. -/
def Frt (w : World) (p b n cap : Nat) (g : Nat → Rc) : Prop := Blk w p 59 #[.slice (some ⟨b, 0, none⟩) n cap] ∧ Row2 w b n cap g
theorem Frt.r2 {w : World} {p b n cap : Nat} {g : Nat → Rc} (h : Frt w p b n cap g) : Row2 w b n cap g := h.2
theorem Frt.ne {w : World} {p b n cap : Nat} {g : Nat → Rc} (h : Frt w p b n cap g) : p ≠ b := by
  obtain ⟨h1, cur, h2, _⟩ := h
  exact h1.ne h2 (by decide)
theorem Frt.on {w w' : World} {p b n cap : Nat} {g : Nat → Rc} (h : Frt w p b n cap g) (hb : Below w.heap.size w w') : Frt w' p b n cap g := ⟨h.1.on hb, h.2.on hb⟩
theorem Frt.cell {w : World} {p b n cap : Nat} {g : Nat → Rc} (h : Frt w p b n cap g) : w.cell? ⟨p, 0, none⟩ = some (.slice (some ⟨b, 0, none⟩) n cap) := (h.1.cell 0).trans rfl
theorem Frt.le {w : World} {p b n cap : Nat} {g : Nat → Rc} (h : Frt w p b n cap g) : n ≤ maxLen := by
  obtain ⟨_, cur, _, h1, h2, _⟩ := h
  exact Nat.le_trans h1 h2
theorem Frt.lt {w : World} {p b n cap : Nat} {g : Nat → Rc} (h : Frt w p b n cap g) : p < w.heap.size ∧ b < w.heap.size := by
  obtain ⟨h0, cur, h1, _⟩ := h
  exact ⟨h0.lt, h1.lt⟩
theorem Frt.ch {S : Nat → Prop} {w w' : World} {p b n cap : Nat} {g : Nat → Rc} (h : Frt w p b n cap g) (hc : Ch S w w') (hp : ¬ S p) (hb : ¬ S b) : Frt w' p b n cap g := ⟨hc.blk h.1 hp, h.2.ch hc hb⟩
theorem Frt.row {w w' : World} {p b n cap : Nat} {g g' : Nat → Rc} (h : Frt w p b n cap g) (hc : Ch (· = b) w w') (hr : Row2 w' b n cap g') : Frt w' p b n cap g' := ⟨hc.blk h.1 h.ne, hr⟩
end Go.Proofs.Hd
namespace Go.Proofs
open Go.RowKit Go.Proofs.Hd Go.Lib
theorem flen_c (A : Option Addr) (n cap : Nat) (w : World) : Calls Try.prog 26 #[.slice A n cap] w fun e w' => e = .returned (.int .i64 n) ∧ w = w' := by
  go_enter Try.func26, Try.ntmps26
  go_wp2
  go_ret
  exact ⟨rfl, rfl⟩
theorem fless_c (x : Bool) (b n cap i j : Nat) (g : Nat → Rc) (w : World) (h : Row2 w b n cap g) (hi : i < n) (hj : j < n) (hx : decide ((g i).2 < (g j).2) = x) :
    Calls Try.prog 47 #[.slice (some ⟨b, 0, none⟩) n cap, .int .i64 i, .int .i64 j] w fun e w' => e = .returned (.bool x) ∧ Below w.heap.size w w' := by
  have c1 := h.c1 hi
  have c2 := h.c1 hj
  obtain ⟨ci, hci⟩ : ∃ c, (g i).2 = c := ⟨_, rfl⟩
  obtain ⟨cj, hcj⟩ : ∃ c, (g j).2 = c := ⟨_, rfl⟩
  rw [hci] at c1 hx
  rw [hcj] at c2 hx
  have hx2 : decide ((ci : Int) < (cj : Int)) = x := by rw [← hx]; exact decide_eq_decide.2 (by omega)
  have hiz : (i : Int) < (n : Int) := by omega
  have hjz : (j : Int) < (n : Int) := by omega
  clear h hci hcj
  have mixed : Try.prog.follows Departure.mixedOrders = true := by kernel_rfl
  go_enter Try.func47, Try.ntmps47
  go_wp2_with fail
  go_big_region_o
  go_wp2
  go_ret
  exact ⟨by rw [← hx]; rfl, (Below.refl _ _).drew⟩
set_option maxHeartbeats 1000000 in
theorem fswap_c (b n cap i j : Nat) (g : Nat → Rc) (w : World) (h : Row2 w b n cap g) (hi : i < n) (hj : j < n) :
    Calls Try.prog 50 #[.slice (some ⟨b, 0, none⟩) n cap, .int .i64 i, .int .i64 j] w fun e w' => e = .returned (.tuple #[]) ∧ Row2 w' b n cap (sw g i j) ∧ Ch (· = b) w w' := by
  have hiz : (i : Int) < (n : Int) := by omega
  have hjz : (j : Int) < (n : Int) := by omega
  have c0 := h.c0 hi
  have c1 := h.c1 hi
  have d0 := h.c0 hj
  have d1 := h.c1 hj
  obtain ⟨h1, h2, ⟨u, e0⟩, ⟨u', e1⟩⟩ := h.swapped hi hj
  obtain ⟨cur, hb, hnc, hcm, hcs, hc⟩ := h
  have f0 := hb.free (i * 2)
  have f1 := hb.free (i * 2 + 1)
  have k0 := hb.free (j * 2)
  have k1 := hb.free (j * 2 + 1)
  have H1 := Lib.hid h1
  have H2 := Lib.hid h2
  clear h1 h2 hb hc
  have mixed : Try.prog.follows Departure.mixedOrders = true := by kernel_rfl
  go_enter Try.func50, Try.ntmps50
  go_wp2_with fail
  go_big_region_o
  go_wp2
  go_end0
  exact ⟨rfl, H1.out, H2.out.drew⟩
end Go.Proofs

namespace Go.Proofs.Hd
open Go.RowKit
/-- The cells of the first n places. -/
def fl2 (g : Nat → Rc) : Nat → List Value
  | 0 => []
  | n + 1 => fl2 g n ++ [.int .i64 (g n).1, .int .i64 (g n).2]
theorem fl2_len (g : Nat → Rc) : ∀ n, (fl2 g n).length = n * 2
  | 0 => rfl
  | n + 1 => by rw [fl2, List.length_append, fl2_len g n]; simp; omega
theorem fl2_get (g : Nat → Rc) : ∀ {n k : Nat}, k < n → (fl2 g n)[k * 2]? = some (.int .i64 (g k).1) ∧ (fl2 g n)[k * 2 + 1]? = some (.int .i64 (g k).2)
  | n + 1, k, h => by
    rw [fl2]
    by_cases e : k = n
    · subst e
      rw [List.getElem?_append_right (by rw [fl2_len]; omega), List.getElem?_append_right (by rw [fl2_len]; omega), fl2_len]
      have e1 : k * 2 - k * 2 = 0 := by omega
      have e2 : k * 2 + 1 - k * 2 = 1 := by omega
      rw [e1, e2]
      exact ⟨rfl, rfl⟩
    · have hk : k < n := by omega
      rw [List.getElem?_append_left (by rw [fl2_len]; omega), List.getElem?_append_left (by rw [fl2_len]; omega)]
      exact fl2_get g hk
theorem fl2_congr {g h : Nat → Rc} : ∀ {n : Nat}, (∀ k, k < n → g k = h k) → fl2 g n = fl2 h n
  | 0, _ => rfl
  | n + 1, e => by rw [fl2, fl2, fl2_congr (fun k hk => e k (by omega)), e n (by omega)]
/-- One more at place n. -/
def ext (g : Nat → Rc) (n : Nat) (x : Rc) : Nat → Rc := fun k => if k = n then x else g k
theorem ext_at (g : Nat → Rc) (n : Nat) (x : Rc) : ext g n x n = x := by simp [ext]
theorem ext_lt (g : Nat → Rc) {n k : Nat} (x : Rc) (h : k < n) : ext g n x k = g k := by
  unfold ext; rw [if_neg (by omega)]
theorem fl2_ext (g : Nat → Rc) (n : Nat) (x : Rc) : fl2 (ext g n x) (n + 1) = fl2 g n ++ [.int .i64 x.1, .int .i64 x.2] := by
  rw [fl2, ext_at, fl2_congr fun k hk => ext_lt g x hk]
theorem lst_ext (g : Nat → Rc) (n : Nat) (x : Rc) : lst (ext g n x) (n + 1) = lst g n ++ [x] := by
  rw [lst_succ, ext_at, lst_congr fun k hk => ext_lt g x hk]
theorem Row2.own {w : World} {b n cap : Nat} {g : Nat → Rc} (h : Row2 w b n cap g) : w.ownsRow 0 57 2 (.slice (some ⟨b, 0, none⟩) n cap) n (fl2 g n) := by
  obtain ⟨cur, hb, hnc, hcm, hcs, hc⟩ := h
  refine ⟨fl2_len g n, .inr ⟨b, cap, cur, rfl, Nat.zero_le _, hb, hnc, hcm, hcs, ?_⟩⟩
  apply List.ext_getElem?
  intro i
  rw [List.getElem?_take]
  by_cases hi : i < n * 2
  · rw [if_pos hi, Array.getElem?_toList]
    have hk : i / 2 < n := by omega
    by_cases hp : i % 2 = 0
    · have e : i = i / 2 * 2 := by omega
      rw [e, (hc _ hk).1, (fl2_get g hk).1]
    · have e : i = i / 2 * 2 + 1 := by omega
      rw [e, (hc _ hk).2, (fl2_get g hk).2]
  · rw [if_neg hi, List.getElem?_eq_none (by rw [fl2_len]; omega)]
theorem Row2.of_own {w : World} {base n : Nat} {v : Value} {g : Nat → Rc} (h : w.ownsRow base 57 2 v n (fl2 g n)) (hn : 0 < n) : ∃ b cap, v = .slice (some ⟨b, 0, none⟩) n cap ∧ Row2 w b n cap g := by
  rcases h.2 with ⟨_, h0⟩ | ⟨b, cap, cur, rfl, _, hb, hnc, hcm, hcs, ht⟩
  · omega
  · refine ⟨b, cap, rfl, cur, hb, hnc, hcm, hcs, fun k hk => ?_⟩
    have e1 := (fl2_get g hk).1
    have e2 := (fl2_get g hk).2
    rw [← ht, List.getElem?_take, if_pos (by omega), Array.getElem?_toList] at e1 e2
    exact ⟨e1, e2⟩
theorem Row2.less {w : World} {b n m cap : Nat} {g : Nat → Rc} (h : Row2 w b n cap g) (hm : m ≤ n) : Row2 w b m cap g := by
  obtain ⟨cur, hb, hnc, hcm, hcs, hc⟩ := h
  exact ⟨cur, hb, by omega, hcm, hcs, fun k hk => hc k (by omega)⟩
/-- At most the front at p and its row b have changed; the row is b' now. -/
def Fst (w w' : World) (p b b' : Nat) : Prop := Ch (fun k => k = p ∨ k = b) w w' ∧ (b' = b ∨ w.heap.size ≤ b')
theorem Fst.trans {u v w : World} {p b b1 b2 : Nat} (h : Fst u v p b b1) (k : Fst v w p b1 b2) : Fst u w p b b2 := by
  refine ⟨⟨k.1.os.trans h.1.os, k.1.tape.trans h.1.tape, k.1.output.trans h.1.output, Nat.le_trans h.1.size k.1.size, fun i hi hn => ?_⟩, ?_⟩
  · refine (k.1.block i (Nat.lt_of_lt_of_le hi h.1.size) ?_).trans (h.1.block i hi hn)
    rintro (c | c)
    · exact hn (.inl c)
    · rcases h.2 with e | e
      · exact hn (.inr (c.trans e))
      · omega
  · rcases k.2 with e | e
    · rcases h.2 with e' | e'
      · exact .inl (e.trans e')
      · exact .inr (by omega)
    · exact .inr (Nat.le_trans h.1.size e)
theorem Fst.of_below {w w' : World} (h : Below w.heap.size w w') (p b : Nat) : Fst w w' p b b := ⟨Ch.of_below h, .inl rfl⟩
theorem Fst.of_row {w w' : World} {b : Nat} (h : Ch (· = b) w w') (p : Nat) : Fst w w' p b b := ⟨h.mono fun _ _ e => .inr e, .inl rfl⟩
theorem Fst.of_box {w w' : World} {p : Nat} (h : Ch (· = p) w w') (b : Nat) : Fst w w' p b b := ⟨h.mono fun _ _ e => .inl e, .inl rfl⟩
section
variable {P : Program} (w : World)
theorem step_app2 {ops : Array Oper} {o : Oper} {a : Act} {K : Act → World → Prop} {Q : Exit → Act → World → Prop} {E : Prop} (hgd : o.guard = none) (s x : Operand) (t : TypeId)
    (ho : o.op = .call { callee := .builtin .append, args := #[s, x], argTypes := #[t, t] }) (base : Nat) (e : TypeId) (i : TypeInfo) (z : Value) (size bytes : Nat) (ht : P.underlying t = some (.slice e)) (hi : P.info? e = some i) (hz : i.zero = some z)
    (hsize : i.size = size) (hby : i.bytes = bytes) (hzs : z.cells.size = size) (hsz : 0 < size) (v : Value) (n : Nat) (xs : List Value) (hs : a.eval s = v) (hown : w.ownsRow base e size v n xs)
    (y : Value) (m : Nat) (news : List Value) (hy : a.eval x = y) (hx : Src w size y m news) (h63 : n + m ≤ maxLen) (hbytes : (n + m) * bytes ≤ 140737488355328) (hbase : base ≤ w.heap.size)
    (h : ∀ v' w', w'.ownsRow base e size v' (n + m) (xs ++ news) → Grw w w' v.ownBlock v'.ownBlock → K (a.put o.dst v') w') :
    if Region.wanted o (yielded ops a.tmps) = true then Oper.wp P o a w K Q else E := by
  have hw : Region.wanted o (yielded ops a.tmps) = true := by simp [Region.wanted, hgd]
  rw [if_pos hw]
  obtain ⟨v', w', hr, h2, h3⟩ := run_app2 (P := P) w base t o.type e i z size bytes ht hi hz hsize hby hzs hsz v n xs hown y m news hx h63 hbytes hbase
  exact Lib.wp_append_run w s x t t ho v y hs hy v' w' hr (h v' w' h2 h3)
end
theorem src_two {w : World} {b : Nat} {x : Rc} (h : Blk w b 57 #[.int .i64 x.1, .int .i64 x.2]) : Src w 2 (.slice (some ⟨b, 0, none⟩) 1 1) 1 [.int .i64 x.1, .int .i64 x.2] := by
  refine ⟨rfl, by intro u hu; simp at hu; rcases hu with rfl | rfl <;> rfl, .inr ⟨_, 1, rfl, fun j u hu => ?_⟩⟩
  rw [add_plain, Nat.zero_add, h.cell]
  simpa using hu
/-- One more in a front. -/
theorem Frt.store {w u w2 : World} {p b n cap : Nat} {g : Nat → Rc} {x : Rc} {v : Value} (h : Frt w p b n cap g) (hb : Below w.heap.size w u) (O : w2.ownsRow 0 57 2 v (n + 1) (fl2 g n ++ [.int .i64 x.1, .int .i64 x.2])) (G : Grw u w2 (some b) v.ownBlock) :
    ∃ b' cap', v = .slice (some ⟨b', 0, none⟩) (n + 1) cap' ∧ Blk w2 p 59 #[.slice (some ⟨b, 0, none⟩) n cap] ∧ Frt (w2.setCell ⟨p, 0, none⟩ v) p b' (n + 1) cap' (ext g n x) ∧ Fst w (w2.setCell ⟨p, 0, none⟩ v) p b b' := by
  rw [← fl2_ext] at O
  obtain ⟨b', cap', rfl, R⟩ := Row2.of_own O (by omega)
  have k0 := (h.1.on hb).grown G.1 (by intro e; injection e with e; exact h.ne e)
  obtain ⟨cur, hc, r⟩ := R
  have hne : p ≠ b' := k0.ne hc (by decide)
  refine ⟨b', cap', rfl, k0, ⟨k0.set 0 _, cur, hc.far (p := ⟨p, 0, none⟩) (fun e => hne e.symm) _, r⟩, ?_, ?_⟩
  · have c1 : Ch (fun k => k = p ∨ k = b) w u := Ch.of_below hb
    have c2 : Ch (fun k => k = p ∨ k = b) u w2 := G.ch.mono fun k _ e => .inr (by injection e with e; exact e.symm)
    exact (c1.trans c2).trans ((Ch.set w2 ⟨p, 0, none⟩ _).mono fun k _ e => .inl e)
  · rcases G.2 with e | ⟨k, e, hk⟩
    · injection e with e; exact .inl e
    · injection e with e; subst e; exact .inr (Nat.le_trans hb.size hk)
/-- One less in a front. -/
theorem Frt.cut {w : World} {p b n cap : Nat} {g : Nat → Rc} {o : Obj} (h : Frt w p b (n + 1) cap g) :
    Frt ((w.setCell ⟨p, 0, none⟩ (.slice (some ⟨b, 0, none⟩) n cap)).alloc o) p b n cap g ∧ Ch (· = p) w ((w.setCell ⟨p, 0, none⟩ (.slice (some ⟨b, 0, none⟩) n cap)).alloc o) := by
  have hb := below1 (w.setCell ⟨p, 0, none⟩ (.slice (some ⟨b, 0, none⟩) n cap)) o
  have hne := h.ne
  have hr := h.2.less (Nat.le_succ n)
  refine ⟨⟨(h.1.set 0 _).on hb, (hr.ch (Ch.set w ⟨p, 0, none⟩ _) (fun e => hne e.symm)).on hb⟩, (Ch.set w ⟨p, 0, none⟩ _).trans (Ch.of_below hb)⟩
theorem info2 : (Try.prog.info? 57).map (fun i => (i.zero, i.size, i.bytes)) = some (some (.agg #[.int .i64 0, .int .i64 0]), 2, 16) := by kernel_rfl
end Go.Proofs.Hd
namespace Go.Proofs
open Go.RowKit Go.Proofs.Hd Go.Lib
theorem run_asRc (v : Value) (w : World) : (Instr.typeAssert (.iface 57 v) 20 57 false).run Try.prog w = .ok v w := by kernel_rfl
attribute [local go_sem] run_asRc
set_option maxHeartbeats 1000000 in
theorem fpop_c (p b n cap : Nat) (g : Nat → Rc) (w : World) (h : Frt w p b (n + 1) cap g) :
    Calls Try.prog 48 #[.pointer (some ⟨p, 0, none⟩)] w fun e w' => e = .returned (.iface 57 (.agg #[.int .i64 (g n).1, .int .i64 (g n).2])) ∧ Frt w' p b n cap g ∧ Ch (· = p) w w' := by
  have hne := h.ne
  have hlt := h.lt
  have c := h.cell
  have f := h.1.free 0
  have c0 := h.2.c0 (Nat.lt_succ_self n)
  have c1 := h.2.c1 (Nat.lt_succ_self n)
  have hle := h.le
  have hcap : n + 1 ≤ cap := h.2.choose_spec.2.1
  obtain ⟨m, hm⟩ : ∃ m, m = n + 1 := ⟨_, rfl⟩
  have H := Lib.hid h
  rw [← hm] at c hle hcap
  have z1 : IntKind.i64.wrap ((m : Int) - 1) = (n : Int) := by unfold maxLen at hle; rw [IntKind.wrap_i64]; omega
  have z2 : ((n : Int)) < (m : Int) := by omega
  have z3 : n ≤ cap := by omega
  have z4 : (n : Int) ≤ (cap : Int) := by omega
  have HM := Lib.hid hm
  clear h hm
  go_enter Try.func48, Try.ntmps48
  go_wp2
  go_ret
  exact ⟨rfl, (Frt.cut H.out).1, (Frt.cut H.out).2⟩
theorem fpush_c (p b n cap : Nat) (g : Nat → Rc) (x : Rc) (w : World) (h : Frt w p b n cap g) (hn : n ≤ 1000000) :
    Calls Try.prog 49 #[.pointer (some ⟨p, 0, none⟩), .iface 57 (.agg #[.int .i64 x.1, .int .i64 x.2])] w fun e w' => e = .returned (.tuple #[]) ∧ ∃ b' cap', Frt w' p b' (n + 1) cap' (ext g n x) ∧ Fst w w' p b b' := by
  obtain ⟨i2, hi2, hz0, hz1, hz2⟩ := info_parts info2
  have c := h.cell
  have H := Lib.hid h
  clear h
  go_enter Try.func49, Try.ntmps49
  refine wp_region_held_drew (S := fun _ => True) (by kernel_rfl) trivial (fun hHeld => ?_)
  have B0 : Below w.heap.size w w.drew := (Below.refl _ _).drew
  have c0 : w.drew.cell? ⟨p, 0, none⟩ = some (.slice (some ⟨b, 0, none⟩) n cap) := c
  clear c
  generalize w.drew = u0 at B0 c0 ⊢
  refine wpAnyH_take (i := 0) (oi := ⟨some 4, _, _, _, _, _⟩) (v := ?vp0) rfl (by kernel_rfl) (by kernel_rfl) (by kernel_rfl) (fun _ _ _ h => h) (Or.inl ⟨by rfl, ?yp0⟩) hHeld ?rp0
  case yp0 => (intro w' hSw; (try dsimp only at hSw); go_simp; try (with_reducible rfl))
  simp only [Act.put, List.setIfInBounds_toArray, List.set_cons_zero, List.set_cons_succ]
  refine wpAnyH_take (i := 1) (oi := ⟨some 5, _, _, _, _, _⟩) (v := ?vp1) rfl (by kernel_rfl) (by kernel_rfl) (by kernel_rfl) (fun _ _ _ h => h) (Or.inl ⟨by rfl, ?yp1⟩) hHeld ?rp1
  case yp1 => (intro w' hSw; (try dsimp only at hSw); go_simp; try (with_reducible rfl))
  simp only [Act.put, List.setIfInBounds_toArray, List.set_cons_zero, List.set_cons_succ]
  refine wpAnyH_take (i := 2) (oi := ⟨some 6, _, _, _, _, _⟩) (v := ?vp2) rfl (by kernel_rfl) (by kernel_rfl) (by kernel_rfl) (fun _ _ _ h => h) (Or.inl ⟨by rfl, ?yp2⟩) hHeld ?rp2
  case yp2 => (intro w' hSw; (try dsimp only at hSw); go_simp; try (with_reducible rfl))
  simp only [Act.put, List.setIfInBounds_toArray, List.set_cons_zero, List.set_cons_succ]
  refine wpAnyH_take (i := 4) (oi := ⟨some 8, _, _, _, _, _⟩) (v := ?vp4) rfl (by kernel_rfl) (by kernel_rfl) (by kernel_rfl) (fun _ _ _ h => h) (Or.inl ⟨by rfl, ?yp4⟩) hHeld ?rp4
  case yp4 => (intro w' hSw; (try dsimp only at hSw); go_simp; try (with_reducible rfl))
  simp only [Act.put, List.setIfInBounds_toArray, List.set_cons_zero, List.set_cons_succ]
  refine wpAnyH_take (i := 5) (oi := ⟨some 9, _, _, _, _, _⟩) (v := ?vp5) rfl (by kernel_rfl) (by kernel_rfl) (by kernel_rfl) (fun _ _ _ h => h) (Or.inl ⟨by rfl, ?yp5⟩) hHeld ?rp5
  case yp5 => (intro w' hSw; (try dsimp only at hSw); go_simp; try (with_reducible rfl))
  simp only [Act.put, List.setIfInBounds_toArray, List.set_cons_zero, List.set_cons_succ]
  refine wpAnyH_ready (rs := [3, 6]) (by kernel_rfl) (by simp) ?_
  refine AllReadyH.cons (o := ⟨some 7, _, _, _, _, _⟩) rfl (fun K hK => ?_) ?_
  · go_simp
    refine hK.out _ _ trivial (fun hNext => ?_)
    clear hK K hNext
    try simp only [Act.put, List.setIfInBounds_toArray, List.set_cons_zero, List.set_cons_succ]
    refine wpAnyH_ready (rs := [6]) (by kernel_rfl) (by simp) ?_
    refine AllReadyH.cons (o := ⟨some 10, _, _, _, _, _⟩) rfl (fun K hK => ?_) AllReadyH.nil
    go_simp
    have B1 : Below w.heap.size w (u0.alloc (.cells #[.int .i64 x.1, .int .i64 x.2] 57)) := B0.trans ((below1 u0 _).mono B0.size)
    have N1 : Blk (u0.alloc (.cells #[.int .i64 x.1, .int .i64 x.2] 57)) u0.heap.size 57 #[.int .i64 x.1, .int .i64 x.2] := Blk.new u0 _ _
    refine hK.out _ _ trivial (fun hNext => ?_)
    clear hK K hNext
    have c1 := on_some (below1 u0 (.cells #[.int .i64 x.1, .int .i64 x.2] 57)) c0
    clear c0 B0
    generalize (u0.alloc (.cells #[.int .i64 x.1, .int .i64 x.2] 57)) = u1 at B1 N1 c1 ⊢
    generalize u0.heap.size = q at N1 ⊢
    try simp only [Act.put, List.setIfInBounds_toArray, List.set_cons_zero, List.set_cons_succ]
    refine wpAnyH_ready (rs := [7]) (by kernel_rfl) (by simp) ?_
    refine AllReadyH.cons (o := ⟨some 11, _, _, _, _, _⟩) rfl (fun K hK => ?_) AllReadyH.nil
    refine step_app2 _ rfl (.tmp 7) (.tmp 10) 59 rfl 0 57 i2 _ 2 16 Try.underlying59 hi2 hz0 hz1 hz2 rfl (by decide) _ n (fl2 g n) rfl ((H.out.on B1).2.own) (.slice (some ⟨q, 0, none⟩) 1 1) 1 [.int .i64 x.1, .int .i64 x.2] rfl (src_two N1) (by unfold maxLen; omega) (by omega) (Nat.zero_le _) ?_
    intro v2 u2 O2 G2
    obtain ⟨b', cap', rfl, K0, K1, K2⟩ := Frt.store H.out B1 O2 G2
    have c2 := K0.cell 0
    simp at c2
    have f2 := K0.free 0
    refine hK.out _ _ trivial (fun hNext => ?_)
    clear hK K hNext O2 G2 K0 B1 N1 c1
    try simp only [Act.put, List.setIfInBounds_toArray, List.set_cons_zero, List.set_cons_succ]
    refine wpAnyH_take (i := 8) (oi := ⟨some 12, _, _, _, _, _⟩) (v := ?vp8b) rfl (by kernel_rfl) (by kernel_rfl) (by kernel_rfl) (fun _ _ _ h => h) (Or.inl ⟨by rfl, ?yp8b⟩) hHeld ?rp8b
    case yp8b => (intro w' hSw; (try dsimp only at hSw); go_simp; try (with_reducible rfl))
    simp only [Act.put, List.setIfInBounds_toArray, List.set_cons_zero, List.set_cons_succ]
    refine wpAnyH_ready (rs := [9]) (by kernel_rfl) (by simp) ?_
    refine AllReadyH.cons (o := ⟨none, _, _, _, _, _⟩) rfl (fun K hK => ?_) AllReadyH.nil
    go_simp
    refine hK.out _ _ trivial (fun hNext => ?_)
    clear hK K hNext
    try simp only [Act.put, List.setIfInBounds_toArray, List.set_cons_zero, List.set_cons_succ]
    refine wpAnyH_done (by kernel_rfl) ?_ _
    go_wp2
    go_end0
    exact ⟨rfl, b', cap', K1, K2⟩
  · refine AllReadyH.cons (o := ⟨some 10, _, _, _, _, _⟩) rfl (fun K hK => ?_) AllReadyH.nil
    go_simp
    have B1 : Below w.heap.size w (u0.alloc (.cells #[.int .i64 x.1, .int .i64 x.2] 57)) := B0.trans ((below1 u0 _).mono B0.size)
    have N1 : Blk (u0.alloc (.cells #[.int .i64 x.1, .int .i64 x.2] 57)) u0.heap.size 57 #[.int .i64 x.1, .int .i64 x.2] := Blk.new u0 _ _
    refine hK.out _ _ trivial (fun hNext => ?_)
    clear hK K hNext
    have c1 := on_some (below1 u0 (.cells #[.int .i64 x.1, .int .i64 x.2] 57)) c0
    clear c0 B0
    generalize (u0.alloc (.cells #[.int .i64 x.1, .int .i64 x.2] 57)) = u1 at B1 N1 c1 ⊢
    generalize u0.heap.size = q at N1 ⊢
    try simp only [Act.put, List.setIfInBounds_toArray, List.set_cons_zero, List.set_cons_succ]
    refine wpAnyH_ready (rs := [3]) (by kernel_rfl) (by simp) ?_
    refine AllReadyH.cons (o := ⟨some 7, _, _, _, _, _⟩) rfl (fun K hK => ?_) AllReadyH.nil
    go_simp
    refine hK.out _ _ trivial (fun hNext => ?_)
    clear hK K hNext
    try simp only [Act.put, List.setIfInBounds_toArray, List.set_cons_zero, List.set_cons_succ]
    refine wpAnyH_ready (rs := [7]) (by kernel_rfl) (by simp) ?_
    refine AllReadyH.cons (o := ⟨some 11, _, _, _, _, _⟩) rfl (fun K hK => ?_) AllReadyH.nil
    refine step_app2 _ rfl (.tmp 7) (.tmp 10) 59 rfl 0 57 i2 _ 2 16 Try.underlying59 hi2 hz0 hz1 hz2 rfl (by decide) _ n (fl2 g n) rfl ((H.out.on B1).2.own) (.slice (some ⟨q, 0, none⟩) 1 1) 1 [.int .i64 x.1, .int .i64 x.2] rfl (src_two N1) (by unfold maxLen; omega) (by omega) (Nat.zero_le _) ?_
    intro v2 u2 O2 G2
    obtain ⟨b', cap', rfl, K0, K1, K2⟩ := Frt.store H.out B1 O2 G2
    have c2 := K0.cell 0
    simp at c2
    have f2 := K0.free 0
    refine hK.out _ _ trivial (fun hNext => ?_)
    clear hK K hNext O2 G2 K0 B1 N1 c1
    try simp only [Act.put, List.setIfInBounds_toArray, List.set_cons_zero, List.set_cons_succ]
    refine wpAnyH_take (i := 8) (oi := ⟨some 12, _, _, _, _, _⟩) (v := ?vp8c) rfl (by kernel_rfl) (by kernel_rfl) (by kernel_rfl) (fun _ _ _ h => h) (Or.inl ⟨by rfl, ?yp8c⟩) hHeld ?rp8c
    case yp8c => (intro w' hSw; (try dsimp only at hSw); go_simp; try (with_reducible rfl))
    simp only [Act.put, List.setIfInBounds_toArray, List.set_cons_zero, List.set_cons_succ]
    refine wpAnyH_ready (rs := [9]) (by kernel_rfl) (by simp) ?_
    refine AllReadyH.cons (o := ⟨none, _, _, _, _, _⟩) rfl (fun K hK => ?_) AllReadyH.nil
    go_simp
    refine hK.out _ _ trivial (fun hNext => ?_)
    clear hK K hNext
    try simp only [Act.put, List.setIfInBounds_toArray, List.set_cons_zero, List.set_cons_succ]
    refine wpAnyH_done (by kernel_rfl) ?_ _
    go_wp2
    go_end0
    exact ⟨rfl, b', cap', K1, K2⟩
end Go.Proofs

namespace Go.Proofs
open Go.RowKit Go.Proofs.Hd Go.Lib
theorem m_push (a : Addr) (w : World) : (method 186 55 (.pointer (some a)) "Push").run Try.prog w = .ok (49, .pointer (some a)) w := by kernel_rfl
theorem m_pop (a : Addr) (w : World) : (method 186 55 (.pointer (some a)) "Pop").run Try.prog w = .ok (48, .pointer (some a)) w := by kernel_rfl
theorem ld_front {p : Nat} {v : Value} {w : World} (h : w.cell? ⟨p, 0, none⟩ = some v) : (loadVar 59 ⟨p, 0, none⟩).run Try.prog w = .ok v w := by
  go_simp
theorem wrap_nil (a : Addr) (s t : String) (w : World) : (Builtin.ssaWrapNilChk_ #[55] 55 #[.pointer (some a), strVal s, strVal t]).run Try.prog w = .ok (.pointer (some a)) w := by rfl
theorem m_len {p : Nat} {v : Value} {w : World} (h : w.cell? ⟨p, 0, none⟩ = some v) : (method 186 55 (.pointer (some ⟨p, 0, none⟩)) "Len").run Try.prog w = .ok (26, v) w := by
  have e := ld_front h
  have f : (Array.find? (fun x => x.name == "Len") Try.t55.methods).map (fun m => (m.path, m.func)) = some (#[], some (26, false)) := by kernel_rfl
  unfold method
  go_simp
  cases hm : Array.find? (fun x => x.name == "Len") Try.t55.methods with
  | none => rw [hm] at f; cases f
  | some m =>
    rw [hm] at f
    injection f with f
    injection f with f1 f2
    simp only [f1, f2, follow, receiverAt]
    go_simp
    simp only [Place.get]
    go_simp
    simp only [wrap_nil]
    go_simp
theorem m_less {p : Nat} {v : Value} {w : World} (h : w.cell? ⟨p, 0, none⟩ = some v) : (method 186 55 (.pointer (some ⟨p, 0, none⟩)) "Less").run Try.prog w = .ok (47, v) w := by
  have e := ld_front h
  have f : (Array.find? (fun x => x.name == "Less") Try.t55.methods).map (fun m => (m.path, m.func)) = some (#[], some (47, false)) := by kernel_rfl
  unfold method
  go_simp
  cases hm : Array.find? (fun x => x.name == "Less") Try.t55.methods with
  | none => rw [hm] at f; cases f
  | some m =>
    rw [hm] at f
    injection f with f
    injection f with f1 f2
    simp only [f1, f2, follow, receiverAt]
    go_simp
    simp only [Place.get]
    go_simp
    simp only [wrap_nil]
    go_simp
theorem m_swap {p : Nat} {v : Value} {w : World} (h : w.cell? ⟨p, 0, none⟩ = some v) : (method 186 55 (.pointer (some ⟨p, 0, none⟩)) "Swap").run Try.prog w = .ok (50, v) w := by
  have e := ld_front h
  have f : (Array.find? (fun x => x.name == "Swap") Try.t55.methods).map (fun m => (m.path, m.func)) = some (#[], some (50, false)) := by kernel_rfl
  unfold method
  go_simp
  cases hm : Array.find? (fun x => x.name == "Swap") Try.t55.methods with
  | none => rw [hm] at f; cases f
  | some m =>
    rw [hm] at f
    injection f with f
    injection f with f1 f2
    simp only [f1, f2, follow, receiverAt]
    go_simp
    simp only [Place.get]
    go_simp
    simp only [wrap_nil]
    go_simp
attribute [local go_sem] m_push m_pop
set_option maxHeartbeats 4000000 in
theorem up_c (p b n cap j : Nat) (g : Nat → Rc) (w : World) (h : Frt w p b n cap g) (hj : j < n) (ho : upO g n j) :
    Calls Try.prog 30 #[.iface 55 (.pointer (some ⟨p, 0, none⟩)), .int .i64 j] w fun e w' => e = .returned (.tuple #[]) ∧ ∃ g', Frt w' p b n cap g' ∧ hpo g' n ∧ (lst g' n).Perm (lst g n) ∧ Ch (· = b) w w' := by
  have hle := h.le
  have hnz : (n : Int) ≤ 9223372036854775807 := by unfold maxLen at hle; omega
  have H := Lib.hid h
  have HO := Lib.hid ho
  clear h ho
  go_enter Try.func30, Try.ntmps30
  go_wp2_with fail
  go_loopg [1, 4] n (fun gk s1 _ wr => ∃ (k : Nat) (q : Nat → Rc), s1 = .int .i64 k ∧ k ≤ gk ∧ k < n ∧ Hid (Frt wr p b n cap q) ∧ Hid (upO q n k) ∧ Hid ((lst q n).Perm (lst g n)) ∧ Hid (Ch (· = b) w wr))
  case atStart => exact ⟨j, g, rfl, by omega, hj, H, HO, List.Perm.refl _, Ch.refl _ _⟩
  case round =>
    clear H HO
    obtain ⟨k, q, rfl, hkg, hkn, HF, HU, HP, HC⟩ := hrel
    have c := HF.out.cell
    obtain ⟨i, hi⟩ : ∃ i, (k - 1) / 2 = i := ⟨_, rfl⟩
    have e1 : IntKind.i64.wrap ((k : Int) - 1) = (k : Int) - 1 := by rw [IntKind.wrap_i64]; omega
    have e2 : ((k : Int) - 1).tdiv 2 = (i : Int) := by
      rcases Nat.eq_zero_or_pos k with e | e
      · subst e; subst hi; rfl
      · have e3 : (k : Int) - 1 = ((k - 1 : Nat) : Int) := by omega
        rw [e3, ← hi]; exact (Int.ofNat_tdiv (k - 1) 2).symm
    by_cases h0 : k = 0
    · subst h0
      obtain rfl : i = 0 := by omega
      have HE := Lib.hid (HU.out.done (i := 0) (by omega) (.inl rfl))
      clear c HU
      go_wp2
      go_end0
      exact ⟨rfl, q, HF.out, HE.out, HP.out, HC.out⟩
    · have hne : ¬ (i : Int) = (k : Int) := by omega
      have hne2 : ¬ i = k := by omega
      have hin : i < n := by omega
      have mL := m_less c
      cases hd : decide ((q k).2 < (q i).2) with
      | false =>
        have HE := Lib.hid (HU.out.done hi (.inr (of_decide_eq_false hd)))
        go_wp2_with fail
        (with_reducible refine (fless_c false b n cap k i q wr HF.out.r2 hkn hin hd).mono ?_)
        rintro e w1 ⟨rfl, hb1⟩
        have F1 := Lib.hid (HF.out.on hb1)
        have C1 := Lib.hid (HC.out.trans (Ch.of_below hb1))
        clear mL c hb1 HC HF HU
        go_wp2
        go_end0
        exact ⟨rfl, q, F1.out, HE.out, HP.out, C1.out⟩
      | true =>
        have HE := Lib.hid (HU.out.step hi (by omega) hkn (of_decide_eq_true hd))
        go_wp2_with fail
        (with_reducible refine (fless_c true b n cap k i q wr HF.out.r2 hkn hin hd).mono ?_)
        rintro e w1 ⟨rfl, hb1⟩
        have F1 := Lib.hid (HF.out.on hb1)
        have C1 := Lib.hid (HC.out.trans (Ch.of_below hb1))
        have mS := m_swap F1.out.cell
        clear mL c hb1 HC HF HU
        go_wp2_with fail
        (with_reducible refine (fswap_c b n cap i k q w1 F1.out.r2 hin hkn).mono ?_)
        rintro e w2 ⟨rfl, R2, C2⟩
        have F2 := Lib.hid (F1.out.row C2 R2)
        have D2 := Lib.hid (C1.out.trans C2)
        have P2 := Lib.hid ((sw_perm q hin hkn).trans HP.out)
        clear mS F1 C1 R2 C2 HP
        go_wp2
        go_roundg i
        case measure => omega
        case rel => exact ⟨i, sw q i k, rfl, Nat.le_refl _, hin, F2, HE, P2, D2⟩
set_option maxHeartbeats 4000000 in
theorem hpush_c (p b n cap : Nat) (g : Nat → Rc) (x : Rc) (w : World) (h : Frt w p b n cap g) (hn : n ≤ 1000000) (ho : hpo g n) :
    Calls Try.prog 28 #[.iface 55 (.pointer (some ⟨p, 0, none⟩)), .iface 57 (.agg #[.int .i64 x.1, .int .i64 x.2])] w fun e w' => e = .returned (.tuple #[]) ∧ ∃ b' cap' g', Frt w' p b' (n + 1) cap' g' ∧ hpo g' (n + 1) ∧ (lst g' (n + 1)).Perm (x :: lst g n) ∧ Fst w w' p b b' := by
  have HO : Hid (upO (ext g n x) (n + 1) n) := upO.of (fun i i0 hi => by rw [ext_lt g x hi, ext_lt g x (by omega)]; exact ho i i0 hi)
  go_enter Try.func28, Try.ntmps28
  go_wp2_with fail
  (with_reducible refine (fpush_c p b n cap g x w h hn).mono ?_)
  rintro e w1 ⟨rfl, b1, cap1, F1, S1⟩
  have mL := m_len F1.cell
  have H1 := Lib.hid F1
  have HS := Lib.hid S1
  clear F1 S1 h ho
  obtain ⟨m, hm⟩ : ∃ m, m = n + 1 := ⟨_, rfl⟩
  rw [← hm] at mL
  have z1 : IntKind.i64.wrap ((m : Int) - 1) = (n : Int) := by rw [IntKind.wrap_i64]; omega
  have HM := Lib.hid hm
  clear hm
  go_wp2_with fail
  (with_reducible refine (flen_c _ m cap1 w1).mono ?_)
  rintro e w2 ⟨rfl, rfl⟩
  clear mL
  go_wp2_with fail
  (with_reducible refine (up_c p b1 (n + 1) cap1 n (ext g n x) _ H1.out (Nat.lt_succ_self n) HO.out).mono ?_)
  rintro e w3 ⟨rfl, g3, F3, O3, P3, C3⟩
  have K : Hid (Frt w3 p b1 (n + 1) cap1 g3 ∧ hpo g3 (n + 1) ∧ (lst g3 (n + 1)).Perm (x :: lst g n) ∧ Fst w w3 p b b1) := ⟨F3, O3, by rw [lst_ext] at P3; exact P3.trans (List.perm_append_comm (l₁ := lst g n) (l₂ := [x])), HS.out.trans (Fst.of_row C3 p)⟩
  clear F3 O3 P3 C3 HS H1
  go_wp2
  go_end0
  exact ⟨rfl, b1, cap1, g3, K.out⟩
end Go.Proofs

namespace Go.Proofs.Hd
/-- A bool was returned. -/
def RetB (e : Ending) : Prop := ∃ x : Bool, e = .returned (.bool x)
end Go.Proofs.Hd
namespace Go.Proofs
open Go.RowKit Go.Proofs.Hd Go.Lib
attribute [local go_sem] m_push m_pop
set_option maxHeartbeats 8000000 in
theorem down_c (p b n m cap : Nat) (g : Nat → Rc) (w : World) (h : Frt w p b n cap g) (hm : m ≤ n) (ho : dnO g m 0) (hn : n ≤ 1000000) :
    Calls Try.prog 29 #[.iface 55 (.pointer (some ⟨p, 0, none⟩)), .int .i64 0, .int .i64 m] w fun e w' => RetB e ∧ ∃ g', Frt w' p b n cap g' ∧ hpo g' m ∧ (lst g' m).Perm (lst g m) ∧ (∀ k, m ≤ k → g' k = g k) ∧ Ch (· = b) w w' := by
  have hmz : (m : Int) ≤ 1000000 := by omega
  have H := Lib.hid h
  have HO := Lib.hid ho
  clear h ho
  go_enter Try.func29, Try.ntmps29
  go_wp2_with fail
  go_loopg [7, 8, 9, 10] m (fun gk s7 _ _ _ wr => ∃ (k : Nat) (q : Nat → Rc), s7 = .int .i64 k ∧ m - k ≤ gk ∧ k ≤ m ∧ Hid (Frt wr p b n cap q) ∧ Hid (dnO q m k) ∧ Hid ((lst q m).Perm (lst g m)) ∧ Hid (∀ j, m ≤ j → q j = g j) ∧ Hid (Ch (· = b) w wr))
  case atStart => exact ⟨0, g, rfl, by omega, by omega, H, HO, List.Perm.refl _, fun _ _ => rfl, Ch.refl _ _⟩
  case round =>
    clear H HO
    obtain ⟨k, q, rfl, hkg, hkn, HF, HU, HP, HQ, HC⟩ := hrel
    have c := HF.out.cell
    obtain ⟨a, ha1, ha2⟩ : ∃ a, a ≤ 2 * k + 1 ∧ 2 * k + 1 ≤ a := ⟨_, Nat.le_refl _, Nat.le_refl _⟩
    obtain ⟨a2, ha3, ha4⟩ : ∃ a2, a2 ≤ a + 1 ∧ a + 1 ≤ a2 := ⟨_, Nat.le_refl _, Nat.le_refl _⟩
    have e0 : IntKind.i64.wrap (2 * (k : Int)) = 2 * (k : Int) := by rw [IntKind.wrap_i64]; omega
    have e1 : IntKind.i64.wrap (2 * (k : Int) + 1) = (a : Int) := by rw [IntKind.wrap_i64]; omega
    have e1b : 2 * (k : Int) + 1 = (a : Int) := by omega
    have e2 : IntKind.i64.wrap ((a : Int) + 1) = (a2 : Int) := by rw [IntKind.wrap_i64]; omega
    have e2b : (a : Int) + 1 = (a2 : Int) := by omega
    by_cases hl : m ≤ a
    · have hlz : (m : Int) ≤ (a : Int) := by omega
      have HE := Lib.hid (HU.out.done (fun c c0 cn hc => by omega))
      clear c HU
      go_wp2
      go_ret
      exact ⟨⟨_, rfl⟩, q, HF.out, HE.out, HP.out, HQ.out, HC.out⟩
    · have hlz : ¬ (m : Int) ≤ (a : Int) := by omega
      have ha0 : ¬ (a : Int) < 0 := by omega
      have mL := m_less c
      have hkn2 : k < n := by omega
      have han : a < n := by omega
      have ham : a < m := by omega
      by_cases hl2 : a2 < m
      · have hl2z : (a2 : Int) < (m : Int) := by omega
        have han2 : a2 < n := by omega
        cases hd : decide ((q a2).2 < (q a).2) with
        | true =>
          go_wp2_with fail
          (with_reducible refine (fless_c true b n cap a2 a q wr HF.out.r2 han2 han hd).mono ?_)
          rintro e w0 ⟨rfl, hb0⟩
          have FW := Lib.hid (HF.out.on hb0)
          have CW := Lib.hid (HC.out.trans (Ch.of_below hb0))
          clear mL c hb0 HC HF
          have mL := m_less FW.out.cell
          have HMin : Hid (∀ c, 0 < c → c < m → (c - 1) / 2 = k → (q a2).2 ≤ (q c).2) := fun c c0 cn hc => by
            have hd2 := of_decide_eq_true hd
            have hcc : c = a ∨ c = a2 := by omega
            rcases hcc with rfl | rfl <;> omega
          cases hf : decide ((q a2).2 < (q k).2) with
          | false =>
            have HE := Lib.hid (HU.out.done (fun c c0 cn hc => Nat.le_trans (Nat.le_of_not_lt (of_decide_eq_false hf)) (HMin.out c c0 cn hc)))
            go_wp2_with fail
            (with_reducible refine (fless_c false b n cap a2 k q _ FW.out.r2 han2 hkn2 hf).mono ?_)
            rintro e w1 ⟨rfl, hb1⟩
            have F1 := Lib.hid (FW.out.on hb1)
            have C1 := Lib.hid (CW.out.trans (Ch.of_below hb1))
            clear mL hb1 CW FW HU
            go_wp2
            go_ret
            exact ⟨⟨_, rfl⟩, q, F1.out, HE.out, HP.out, HQ.out, C1.out⟩
          | true =>
            have HE := Lib.hid (HU.out.step (j := a2) (by omega) (by omega) (by omega) (of_decide_eq_true hf) HMin.out)
            go_wp2_with fail
            (with_reducible refine (fless_c true b n cap a2 k q _ FW.out.r2 han2 hkn2 hf).mono ?_)
            rintro e w1 ⟨rfl, hb1⟩
            have F1 := Lib.hid (FW.out.on hb1)
            have C1 := Lib.hid (CW.out.trans (Ch.of_below hb1))
            have mS := m_swap F1.out.cell
            clear mL hb1 CW FW HU
            go_wp2_with fail
            (with_reducible refine (fswap_c b n cap k a2 q w1 F1.out.r2 hkn2 han2).mono ?_)
            rintro e w2 ⟨rfl, R2, C2⟩
            have F2 := Lib.hid (F1.out.row C2 R2)
            have D2 := Lib.hid (C1.out.trans C2)
            have P2 := Lib.hid ((sw_perm q (n := m) (i := k) (j := a2) (by omega) (by omega)).trans HP.out)
            have Q2 : Hid (∀ j', m ≤ j' → sw q k a2 j' = g j') := fun j' hj' => by rw [sw_o q (by omega) (by omega)]; exact HQ.out j' hj'
            clear mS F1 C1 R2 C2 HP HQ
            go_wp2
            go_roundg (m - a2)
            case measure => omega
            case rel => exact ⟨a2, sw q k a2, rfl, Nat.le_refl _, by omega, F2, HE, P2, Q2, D2⟩
        | false =>
          go_wp2_with fail
          (with_reducible refine (fless_c false b n cap a2 a q wr HF.out.r2 han2 han hd).mono ?_)
          rintro e w0 ⟨rfl, hb0⟩
          have FW := Lib.hid (HF.out.on hb0)
          have CW := Lib.hid (HC.out.trans (Ch.of_below hb0))
          clear mL c hb0 HC HF
          have mL := m_less FW.out.cell
          have HMin : Hid (∀ c, 0 < c → c < m → (c - 1) / 2 = k → (q a).2 ≤ (q c).2) := fun c c0 cn hc => by
            have hd2 := of_decide_eq_false hd
            have hcc : c = a ∨ c = a2 := by omega
            rcases hcc with rfl | rfl <;> omega
          cases hf : decide ((q a).2 < (q k).2) with
          | false =>
            have HE := Lib.hid (HU.out.done (fun c c0 cn hc => Nat.le_trans (Nat.le_of_not_lt (of_decide_eq_false hf)) (HMin.out c c0 cn hc)))
            go_wp2_with fail
            (with_reducible refine (fless_c false b n cap a k q _ FW.out.r2 han hkn2 hf).mono ?_)
            rintro e w1 ⟨rfl, hb1⟩
            have F1 := Lib.hid (FW.out.on hb1)
            have C1 := Lib.hid (CW.out.trans (Ch.of_below hb1))
            clear mL hb1 CW FW HU
            go_wp2
            go_ret
            exact ⟨⟨_, rfl⟩, q, F1.out, HE.out, HP.out, HQ.out, C1.out⟩
          | true =>
            have HE := Lib.hid (HU.out.step (j := a) (by omega) (by omega) (by omega) (of_decide_eq_true hf) HMin.out)
            go_wp2_with fail
            (with_reducible refine (fless_c true b n cap a k q _ FW.out.r2 han hkn2 hf).mono ?_)
            rintro e w1 ⟨rfl, hb1⟩
            have F1 := Lib.hid (FW.out.on hb1)
            have C1 := Lib.hid (CW.out.trans (Ch.of_below hb1))
            have mS := m_swap F1.out.cell
            clear mL hb1 CW FW HU
            go_wp2_with fail
            (with_reducible refine (fswap_c b n cap k a q w1 F1.out.r2 hkn2 han).mono ?_)
            rintro e w2 ⟨rfl, R2, C2⟩
            have F2 := Lib.hid (F1.out.row C2 R2)
            have D2 := Lib.hid (C1.out.trans C2)
            have P2 := Lib.hid ((sw_perm q (n := m) (i := k) (j := a) (by omega) (by omega)).trans HP.out)
            have Q2 : Hid (∀ j', m ≤ j' → sw q k a j' = g j') := fun j' hj' => by rw [sw_o q (by omega) (by omega)]; exact HQ.out j' hj'
            clear mS F1 C1 R2 C2 HP HQ
            go_wp2
            go_roundg (m - a)
            case measure => omega
            case rel => exact ⟨a, sw q k a, rfl, Nat.le_refl _, by omega, F2, HE, P2, Q2, D2⟩
      · have hl2z : ¬ (a2 : Int) < (m : Int) := by omega
        have FW := HF
        have CW := HC
        clear HF HC
        have HMin : Hid (∀ c, 0 < c → c < m → (c - 1) / 2 = k → (q a).2 ≤ (q c).2) := fun c c0 cn hc => by
          have hcc : c = a := by omega
          rw [hcc]; exact Nat.le_refl _
        cases hf : decide ((q a).2 < (q k).2) with
        | false =>
          have HE := Lib.hid (HU.out.done (fun c c0 cn hc => Nat.le_trans (Nat.le_of_not_lt (of_decide_eq_false hf)) (HMin.out c c0 cn hc)))
          go_wp2_with fail
          (with_reducible refine (fless_c false b n cap a k q _ FW.out.r2 han hkn2 hf).mono ?_)
          rintro e w1 ⟨rfl, hb1⟩
          have F1 := Lib.hid (FW.out.on hb1)
          have C1 := Lib.hid (CW.out.trans (Ch.of_below hb1))
          clear mL hb1 CW FW HU
          go_wp2
          go_ret
          exact ⟨⟨_, rfl⟩, q, F1.out, HE.out, HP.out, HQ.out, C1.out⟩
        | true =>
          have HE := Lib.hid (HU.out.step (j := a) (by omega) (by omega) (by omega) (of_decide_eq_true hf) HMin.out)
          go_wp2_with fail
          (with_reducible refine (fless_c true b n cap a k q _ FW.out.r2 han hkn2 hf).mono ?_)
          rintro e w1 ⟨rfl, hb1⟩
          have F1 := Lib.hid (FW.out.on hb1)
          have C1 := Lib.hid (CW.out.trans (Ch.of_below hb1))
          have mS := m_swap F1.out.cell
          clear mL hb1 CW FW HU
          go_wp2_with fail
          (with_reducible refine (fswap_c b n cap k a q w1 F1.out.r2 hkn2 han).mono ?_)
          rintro e w2 ⟨rfl, R2, C2⟩
          have F2 := Lib.hid (F1.out.row C2 R2)
          have D2 := Lib.hid (C1.out.trans C2)
          have P2 := Lib.hid ((sw_perm q (n := m) (i := k) (j := a) (by omega) (by omega)).trans HP.out)
          have Q2 : Hid (∀ j', m ≤ j' → sw q k a j' = g j') := fun j' hj' => by rw [sw_o q (by omega) (by omega)]; exact HQ.out j' hj'
          clear mS F1 C1 R2 C2 HP HQ
          go_wp2
          go_roundg (m - a)
          case measure => omega
          case rel => exact ⟨a, sw q k a, rfl, Nat.le_refl _, by omega, F2, HE, P2, Q2, D2⟩
set_option maxHeartbeats 4000000 in
theorem hpop_c (p b n cap : Nat) (g : Nat → Rc) (w : World) (h : Frt w p b (n + 1) cap g) (hn : n + 1 ≤ 1000000) (ho : hpo g (n + 1)) :
    Calls Try.prog 27 #[.iface 55 (.pointer (some ⟨p, 0, none⟩))] w fun e w' => e = .returned (.iface 57 (.agg #[.int .i64 (g 0).1, .int .i64 (g 0).2])) ∧ ∃ g', Frt w' p b n cap g' ∧ hpo g' n ∧ (g 0 :: lst g' n).Perm (lst g (n + 1)) ∧ Fst w w' p b b := by
  have mL := m_len h.cell
  have mS := m_swap h.cell
  obtain ⟨m, hm⟩ : ∃ m, m = n + 1 := ⟨_, rfl⟩
  rw [← hm] at mL mS
  have z1 : IntKind.i64.wrap ((m : Int) - 1) = (n : Int) := by rw [IntKind.wrap_i64]; omega
  have H := Lib.hid h
  have HO := Lib.hid ho
  have HM := Lib.hid hm
  have h0 : 0 < m := by omega
  have hnm : n < m := by omega
  rw [← hm] at H
  clear h ho hm
  go_enter Try.func27, Try.ntmps27
  go_wp2_with fail
  (with_reducible refine (flen_c _ m cap _).mono ?_)
  rintro e w1 ⟨rfl, rfl⟩
  clear mL
  go_wp2_with fail
  (refine (fswap_c b m cap 0 n g _ H.out.r2 h0 hnm).mono ?_)
  rintro e w2 ⟨rfl, R2, C2⟩
  have F2 := Lib.hid (H.out.row C2 R2)
  have D2 : Hid (dnO (sw g 0 n) n 0) := dnO.of HO.out
  have HC2 := Lib.hid C2
  have hmn : m ≤ 1000000 := by have := HM.out; omega
  clear mS R2 C2 H
  go_wp2_with fail
  (with_reducible refine (down_c p b m n cap (sw g 0 n) _ F2.out (Nat.le_of_lt hnm) D2.out hmn).mono ?_)
  rintro e w3 ⟨⟨x, rfl⟩, g3, F3, O3, P3, Q3, C3⟩
  have F3' : Frt w3 p b (n + 1) cap g3 := by rw [← HM.out]; exact F3
  have hx : g3 n = g 0 := (Q3 n (Nat.le_refl _)).trans (sw_r g 0 n)
  have K : Hid (hpo g3 n ∧ (g 0 :: lst g3 n).Perm (lst g (n + 1))) := by
    refine ⟨O3, ?_⟩
    have p1 : (lst (sw g 0 n) (n + 1)).Perm (lst g (n + 1)) := sw_perm g (by omega) (by omega)
    rw [lst_succ, sw_r] at p1
    exact ((List.Perm.cons _ P3).trans (List.perm_append_comm (l₁ := [g 0]) (l₂ := lst (sw g 0 n) n))).trans p1
  have D3 := Lib.hid ((Fst.of_row HC2.out p).trans (Fst.of_row C3 p))
  have hcon := fpop_c p b n cap g3 w3 F3'
  rw [hx] at hcon
  clear F2 D2 HC2 F3 O3 P3 Q3 C3 F3' hx
  go_wp2_with fail
  (with_reducible refine hcon.mono ?_)
  rintro e w4 ⟨rfl, F4, C4⟩
  have K4 := Lib.hid (D3.out.trans (Fst.of_box C4 b))
  clear hcon C4 D3
  go_wp2
  go_ret
  exact ⟨rfl, g3, F4, K.out.1, K.out.2, K4.out⟩
end Go.Proofs

namespace Go.Proofs.Hd
open Go.RowKit
/-- N numbers as cells. -/
def ia (N : Nat) (f : Nat → Int) : Array Value := ((List.range N).map fun k => Value.int .i64 (f k)).toArray
theorem ia_size (N : Nat) (f : Nat → Int) : (ia N f).size = N := by simp [ia]
theorem ia_get (N : Nat) (f : Nat → Int) {k : Nat} (h : k < N) : (ia N f)[k]? = some (.int .i64 (f k)) := by simp [ia, h]
theorem ia_set (N : Nat) (f : Nat → Int) (k : Nat) (c : Int) : (ia N f).setIfInBounds k (.int .i64 c) = ia N (upd f k c) := by
  apply Array.ext_getElem?
  intro i
  rw [Array.getElem?_setIfInBounds]
  by_cases h : i < N
  · rw [ia_get N _ h, ia_get N _ h]
    by_cases e : k = i
    · subst e; rw [if_pos rfl, if_pos (by rw [ia_size]; exact h), upd_at]
    · rw [if_neg e, upd_ne f c (fun e2 => e e2.symm)]
  · by_cases e : k = i
    · subst e
      rw [if_pos rfl, if_neg (by rw [ia_size]; exact h), Array.getElem?_eq_none (by rw [ia_size]; omega)]
    · rw [if_neg e, Array.getElem?_eq_none (by rw [ia_size]; omega), Array.getElem?_eq_none (by rw [ia_size]; omega)]
theorem made_i (N : Nat) : madeCells (Value.int .i64 0).cells (N * 1) = ia N (fun _ => 0) := by
  apply Array.ext
  · simp [madeCells, ia]
  · intro i h1 h2
    simp [madeCells, ia, Value.cells, Nat.mod_one]
/-- v is a slice that reads as the numbers F. -/
def In (w : World) (v : Value) (F : List Int) : Prop := ∃ b cap, v = .slice (some ⟨b, 0, none⟩) F.length cap ∧ b < w.heap.size ∧ ∀ k x, F[k]? = some x → w.cell? ⟨b, k, none⟩ = some (.int .i64 x)
theorem In.on {w w' : World} {v : Value} {F : List Int} (h : In w v F) (hb : Below w.heap.size w w') : In w' v F := by
  obtain ⟨b, cap, e, h1, h2⟩ := h
  exact ⟨b, cap, e, Nat.lt_of_lt_of_le h1 hb.size, fun k x hk => on_some hb (h2 k x hk)⟩
theorem In.of {w : World} {b N : Nat} {f : Nat → Int} (h : Blk w b 3 (ia N f)) : In w (.slice (some ⟨b, 0, none⟩) N N) ((List.range N).map f) := by
  refine ⟨b, N, by simp, h.lt, fun k x hk => ?_⟩
  have hkN : k < N := by have := (List.getElem?_eq_some_iff.1 hk).1; simpa using this
  rw [h.cell, ia_get N f hkN]
  simp [hkN] at hk
  rw [hk]
/-- Numbers were returned, in memory of the call's own. -/
def GotF (w : World) (F : List Int) (e : Ending) (w' : World) : Prop := ∃ v, e = .returned v ∧ In w' v F ∧ Below w.heap.size w w'
/-- What lies in memory while distances are searched. -/
structure Sd (w wi : World) (tv : Value) (tb fb p b n cap N : Nat) (g : Nat → Rc) (f : Nat → Int) : Prop where
  frt : Frt wi p b n cap g
  far : Blk wi fb 3 (ia N f)
  box : Blk wi tb 24 #[tv]
  bel : Below w.heap.size w wi
  hb : w.heap.size ≤ b
  hp : w.heap.size ≤ p
  hf : w.heap.size ≤ fb
theorem Sd.on {w wi w' : World} {tv : Value} {tb fb p b n cap N : Nat} {g : Nat → Rc} {f : Nat → Int} (h : Sd w wi tv tb fb p b n cap N g f) (hb : Below wi.heap.size wi w') : Sd w w' tv tb fb p b n cap N g f :=
  ⟨h.frt.on hb, h.far.on hb, h.box.on hb, h.bel.trans (hb.mono h.bel.size), h.hb, h.hp, h.hf⟩
theorem Sd.fst {w wi w' : World} {tv : Value} {tb fb p b n cap N b' n' cap' : Nat} {g g' : Nat → Rc} {f : Nat → Int} (h : Sd w wi tv tb fb p b n cap N g f) (F : Frt w' p b' n' cap' g') (S : Fst wi w' p b b') : Sd w w' tv tb fb p b' n' cap' N g' f := by
  obtain ⟨k0, cur, k1, _⟩ := h.frt
  have n1 : fb ≠ p := h.far.ne k0 (by decide)
  have n2 : fb ≠ b := h.far.ne k1 (by decide)
  have n3 : tb ≠ p := h.box.ne k0 (by decide)
  have n4 : tb ≠ b := h.box.ne k1 (by decide)
  refine ⟨F, S.1.blk h.far (by rintro (e | e) <;> contradiction), S.1.blk h.box (by rintro (e | e) <;> contradiction), ?_, ?_, h.hp, h.hf⟩
  · refine h.bel.trans (S.1.below h.bel.size ?_)
    rintro k hk (e | e)
    · have := h.hp; omega
    · have := h.hb; omega
  · rcases S.2 with e | e
    · rw [e]; exact h.hb
    · exact Nat.le_trans h.bel.size e
theorem Sd.set {w wi : World} {tv : Value} {tb fb p b n cap N : Nat} {g : Nat → Rc} {f : Nat → Int} (h : Sd w wi tv tb fb p b n cap N g f) (k : Nat) (c : Int) : Sd w (wi.setCell ⟨fb, k, none⟩ (.int .i64 c)) tv tb fb p b n cap N g (upd f k c) := by
  obtain ⟨k0, cur, k1, r⟩ := h.frt
  have n1 : p ≠ fb := k0.ne h.far (by decide)
  have n2 : b ≠ fb := k1.ne h.far (by decide)
  have n3 : tb ≠ fb := h.box.ne h.far (by decide)
  refine ⟨⟨k0.far (p := ⟨fb, k, none⟩) n1 _, cur, k1.far (p := ⟨fb, k, none⟩) n2 _, r⟩, ?_, h.box.far (p := ⟨fb, k, none⟩) n3 _, h.bel.setCell (p := ⟨fb, k, none⟩) h.hf _, h.hb, h.hp, h.hf⟩
  rw [← ia_set]
  exact h.far.set k _
/-- What is opened by ports, at a cost so far. -/
def opn (c : Nat) (L : List Pt) : List Rc := L.filterMap fun p => if p.kind = 2 then some (p.peer.toNat, c + p.cost.toNat) else none
theorem opn_take {c : Nat} {L : List Pt} {i : Nat} {p : Pt} (h : L[i]? = some p) : opn c (L.take (i + 1)) = opn c (L.take i) ++ (if p.kind = 2 then [(p.peer.toNat, c + p.cost.toNat)] else []) := by
  unfold opn
  rw [List.take_add_one, h, List.filterMap_append]
  congr 1
  by_cases hk : p.kind = 2 <;> simp [hk]
theorem opn_mem {T : List (List Pt)} {v c : Nat} {L : List Pt} (hS : Snd T) (hL : T[v]? = some L) {y : Rc} (hy : y ∈ opn c L) : y.1 < T.length ∧ ∃ w, Gt T v y.1 w ∧ y.2 = c + w := by
  unfold opn at hy
  obtain ⟨p, hp, he⟩ := List.mem_filterMap.1 hy
  obtain ⟨i, hi⟩ := List.getElem?_of_mem hp
  by_cases hk : p.kind = 2
  · rw [if_pos hk] at he
    injection he with he
    obtain ⟨m, j, c', L', e1, _, e3, _, _, _, h4, _⟩ := hS.lk v i L p hL hi hk
    subst he
    have g : Gt T v m c' := ⟨L, i, p, hL, hi, hk, e1, e3⟩
    simp only [e1, e3, Int.toNat_natCast]
    exact ⟨(List.getElem?_eq_some_iff.1 h4).1, c', g, rfl⟩
  · rw [if_neg hk] at he; cases he
theorem opn_all {T : List (List Pt)} {v c m w : Nat} {L : List Pt} (hL : T[v]? = some L) (g : Gt T v m w) : (m, c + w) ∈ opn c L := by
  obtain ⟨L', i, p, hL', hp, hk, e1, e2⟩ := g
  rw [hL] at hL'
  injection hL' with hL'
  subst hL'
  unfold opn
  refine List.mem_filterMap.2 ⟨p, List.mem_of_getElem? hp, ?_⟩
  rw [if_pos hk, e1, e2, Int.toNat_natCast, Int.toNat_natCast]
theorem sum_one (h h' : Nat → Nat) (v : Nat) (e : ∀ k, k ≠ v → h' k = h k) : ∀ N, ((List.range N).map h').sum + (if v < N then h v else 0) = ((List.range N).map h).sum + (if v < N then h' v else 0)
  | 0 => by simp
  | N + 1 => by
    have ih := sum_one h h' v e N
    rw [List.range_succ, List.map_append, List.map_append, List.sum_append, List.sum_append]
    simp only [List.map_cons, List.map_nil, List.sum_cons, List.sum_nil, Nat.add_zero]
    by_cases e1 : v = N
    · subst e1
      rw [if_neg (Nat.lt_irrefl _), if_neg (Nat.lt_irrefl _)] at ih
      rw [if_pos (Nat.lt_succ_self _), if_pos (Nat.lt_succ_self _)]
      omega
    · rw [e N (fun e2 => e1 e2.symm)]
      by_cases e2 : v < N
      · rw [if_pos e2, if_pos e2] at ih
        rw [if_pos (by omega), if_pos (by omega)]
        omega
      · rw [if_neg e2, if_neg e2] at ih
        rw [if_neg (by omega), if_neg (by omega)]
        omega
/-- How many ports the switches have that are not told yet. -/
def rem (T : List (List Pt)) (f : Nat → Int) : Nat := ((List.range T.length).map fun k => if f k < 0 then (T.getD k []).length else 0).sum
theorem rem_tell {T : List (List Pt)} {f : Nat → Int} {v : Nat} {c : Int} {L : List Pt} (hL : T[v]? = some L) (hf : f v < 0) (hc : 0 ≤ c) : rem T (upd f v c) + L.length = rem T f := by
  have hv := (List.getElem?_eq_some_iff.1 hL).1
  have h := sum_one (fun k => if f k < 0 then (T.getD k []).length else 0) (fun k => if upd f v c k < 0 then (T.getD k []).length else 0) v (fun k hk => by simp only [upd_ne f c hk]) T.length
  rw [if_pos hv, if_pos hv] at h
  simp only [upd_at, if_pos hf, if_neg (by omega : ¬ c < 0)] at h
  have e : (T.getD v []).length = L.length := by rw [List.getD_eq_getElem?_getD, hL]; rfl
  rw [e] at h
  unfold rem
  omega
theorem rem_start {T : List (List Pt)} (hS : Snd T) (f : Nat → Int) : rem T f ≤ 36 := by
  have h : ∀ N, N ≤ T.length → ((List.range N).map fun k => if f k < 0 then (T.getD k []).length else 0).sum ≤ N * 6 := by
    intro N
    induction N with
    | zero => intro _; simp
    | succ N ih =>
      intro hN
      rw [List.range_succ, List.map_append, List.sum_append]
      simp only [List.map_cons, List.map_nil, List.sum_cons, List.sum_nil, Nat.add_zero]
      have h1 := ih (by omega)
      have h2 : (T.getD N []).length ≤ 6 := by
        rw [List.getD_eq_getElem?_getD, List.getElem?_eq_getElem (by omega)]
        exact hS.l6 _ (List.getElem_mem _)
      split <;> omega
  have h1 := h T.length (Nat.le_refl _)
  have h2 := hS.n6
  unfold rem
  omega
end Go.Proofs.Hd
namespace Go.Proofs
open Go.RowKit Go.Proofs.Hd Go.Lib
theorem infoInt : (Try.prog.info? 3).map (fun i => (i.zero, i.size, i.bytes)) = some (some (.int .i64 0), 1, 8) := by kernel_rfl
theorem make_i (N : Nat) (hN : N ≤ 1000000) (u : World) : (Instr.makeSlice 38 (.int .i64 (N : Int)) (.int .i64 (N : Int))).run Try.prog u = .ok (.slice (some ⟨u.heap.size, 0, none⟩) N N) (u.alloc (.cells (ia N (fun _ => 0)) 3)) := by
  obtain ⟨i0, hi0, hz0, hz1, hz2⟩ := info_parts infoInt
  have h := run_make (P := Try.prog) u 38 3 i0 _ Try.underlying38 hi0 hz0 .i64 .i64 N N (by omega) (by omega) (by rw [hz2]; omega) (by omega)
  rw [hz1] at h
  exact h.trans (by rw [Int.toNat_natCast, made_i])
end Go.Proofs

namespace Go.Proofs.Hd
open Go.RowKit
/-- The first k numbers are -1, the others 0. -/
def mns (k : Nat) : Nat → Int := fun j => if j < k then -1 else 0
theorem mns_succ (k : Nat) : upd (mns k) k (-1) = mns (k + 1) := by
  funext j
  unfold upd mns
  by_cases e : j = k
  · subst e; rw [if_pos rfl, if_pos (by omega)]
  · rw [if_neg e]
    by_cases h : j < k
    · rw [if_pos h, if_pos (by omega)]
    · rw [if_neg h, if_neg (by omega)]
theorem ia_congr {N : Nat} {f g : Nat → Int} (h : ∀ k, k < N → f k = g k) : ia N f = ia N g := by
  unfold ia
  congr 1
  exact List.map_congr_left fun k hk => by rw [h k (List.mem_range.1 hk)]
theorem mns_zero (N : Nat) : ia N (mns 0) = ia N (fun _ => 0) := ia_congr fun k _ => by simp [mns]
theorem mns_all (N : Nat) : ia N (mns N) = ia N (fun _ => -1) := ia_congr fun k hk => by simp [mns, hk]
/-- What a search knows at the head of its loop. -/
structure Lp (T : List (List Pt)) (a gk n : Nat) (g : Nat → Rc) (f : Nat → Int) : Prop where
  ho : hpo g n
  dj : Dj (Gt T) a T.length f (lst g n)
  mu : n + rem T f ≤ gk
  le : gk ≤ 37
  bd : ∀ x ∈ lst g n, x.2 ≤ 1000 * (37 - gk)
theorem Lp.skip {T : List (List Pt)} {a gk n : Nat} {g g' : Nat → Rc} {f : Nat → Int} (h : Lp T a gk (n + 1) g f) (ho : hpo g' n) (hp : (g 0 :: lst g' n).Perm (lst g (n + 1))) (hk : 0 ≤ f (g 0).1) : Lp T a (gk - 1) n g' f := by
  have hm := h.mu
  have hl := h.le
  refine ⟨ho, h.dj.skip hp hk, by omega, by omega, fun x hx => ?_⟩
  have := h.bd x (hp.subset (List.mem_cons_of_mem _ hx))
  omega
theorem Lp.min {T : List (List Pt)} {a gk n : Nat} {g : Nat → Rc} {f : Nat → Int} (h : Lp T a gk (n + 1) g f) : ∀ y ∈ lst g (n + 1), (g 0).2 ≤ y.2 := by
  intro y hy
  obtain ⟨k, hk, rfl⟩ := lst_mem.1 hy
  exact h.ho.min k hk
theorem Lp.at0 {T : List (List Pt)} {a gk n : Nat} {g : Nat → Rc} {f : Nat → Int} (h : Lp T a gk (n + 1) g f) : (g 0).1 < T.length ∧ (g 0).2 ≤ 1000 * (37 - gk) := by
  have hm : g 0 ∈ lst g (n + 1) := lst_mem.2 ⟨0, by omega, rfl⟩
  exact ⟨(h.dj.way _ hm).1, h.bd _ hm⟩
theorem Lp.tell {T : List (List Pt)} {a gk n n' : Nat} {g g0 g' : Nat → Rc} {f : Nat → Int} {L : List Pt} (hS : Snd T) (h : Lp T a gk (n + 1) g f) (hp : (g 0 :: lst g0 n).Perm (lst g (n + 1))) (hk : f (g 0).1 = -1) (hL : T[(g 0).1]? = some L) (ho : hpo g' n') (hn : n' ≤ L.length + n)
    (hM : (lst g' n').Perm (opn (g 0).2 L ++ lst g0 n)) : Lp T a (gk - 1) n' g' (upd f (g 0).1 ((g 0).2 : Int)) := by
  have hm := h.mu
  have hl := h.le
  have hr := rem_tell (f := f) (c := ((g 0).2 : Int)) hL (by omega) (by omega)
  refine ⟨ho, h.dj.tell hp h.min hk (upd_at _ _ _) (fun b hb => upd_ne _ _ hb) hM (fun y hy => opn_mem hS hL hy) (fun c w hg => opn_all hL hg), by omega, by omega, fun x hx => ?_⟩
  rcases List.mem_append.1 (hM.subset hx) with hx | hx
  · obtain ⟨_, w, hw, e⟩ := opn_mem hS hL hx
    have h1 := hw.lt hS
    have h2 := h.at0.2
    omega
  · have := h.bd x (hp.subset (List.mem_cons_of_mem _ hx))
    omega
theorem Lp.known {T : List (List Pt)} {a gk n : Nat} {g : Nat → Rc} {f : Nat → Int} (h : Lp T a gk n g f) {b : Nat} (hb : b < T.length) : -1 ≤ f b ∧ f b ≤ 1000000000 ∨ n = 0 := by
  rcases h.dj.low b hb with e | ⟨t, e, _⟩
  · left; omega
  · cases n with
    | zero => right; rfl
    | succ n =>
      left
      have h1 := h.dj.near b hb (g 0) (lst_mem.2 ⟨0, by omega, rfl⟩)
      have h2 := h.at0.2
      omega
end Go.Proofs.Hd
namespace Go.Proofs
open Go.RowKit Go.Proofs.Hd Go.Lib
attribute [local go_sem] run_asRc
set_option maxRecDepth 100000 in
set_option maxHeartbeats 4000000 in
theorem dist_c (tv : Value) (T : List (List Pt)) (a : Nat) (w : World) (hT : PsT w tv T) (hS : Snd T) (ha : a < T.length) : Calls Try.prog 23 #[.agg #[tv], .int .i64 a] w (GotF w (farL T a)) := by
  have HT := Lib.hid hT
  obtain ⟨A, cap, rfl, htm, hA⟩ := hT
  have h6 := hS.n6
  have htz : (T.length : Int) ≤ 6 := by omega
  obtain ⟨tb, to, rfl, hb0, hc⟩ := hA (by rintro rfl; simp at ha)
  have HC := Lib.hid hc
  have HS := Lib.hid hS
  have hmk := make_i T.length (by omega)
  have B1 : Hid (Below w.heap.size w ((w.alloc (.cells #[.slice (some ⟨tb, to, none⟩) T.length cap] 24)).alloc (.cells (ia T.length (fun _ => 0)) 3))) := below2 w _ _
  have N0 : Hid (Blk ((w.alloc (.cells #[.slice (some ⟨tb, to, none⟩) T.length cap] 24)).alloc (.cells (ia T.length (fun _ => 0)) 3)) w.heap.size 24 #[.slice (some ⟨tb, to, none⟩) T.length cap]) := (Blk.new w _ _).on (below1 _ _)
  have N1 : Hid (Blk ((w.alloc (.cells #[.slice (some ⟨tb, to, none⟩) T.length cap] 24)).alloc (.cells (ia T.length (fun _ => 0)) 3)) (w.heap.size + 1) 3 (ia T.length (mns 0))) := by
    show Blk _ _ _ _
    rw [mns_zero]; exact Blk.new2 w _ _ _
  clear hA hc hS
  go_enter Try.func23, Try.ntmps23
  go_wp2
  clear hmk
  go_loopg [6, 17] T.length (fun gk _ s17 wr => ∃ (k : Nat), k ≤ T.length ∧ gk = T.length - k ∧ s17 = .int .i64 k ∧ Hid (Blk wr (w.heap.size + 1) 3 (ia T.length (mns k))) ∧ Hid (Blk wr w.heap.size 24 #[.slice (some ⟨tb, to, none⟩) T.length cap]) ∧ Hid (Below w.heap.size w wr))
  case atStart => exact ⟨0, Nat.zero_le _, rfl, rfl, N1, N0, B1⟩
  case round =>
    clear N0 N1 B1
    obtain ⟨k, hk, rfl, rfl, N1, N0, B1⟩ := hrel
    by_cases hlt : k < T.length
    · have hltz : (k : Int) < (T.length : Int) := by omega
      have c := (N1.out.cell k).trans (ia_get _ _ hlt)
      have f := N1.out.free k
      have M1 : Hid (Blk (wr.setCell ⟨w.heap.size + 1, k, none⟩ (.int .i64 (-1))) (w.heap.size + 1) 3 (ia T.length (mns (k + 1)))) := by
        show Blk _ _ _ _
        rw [← mns_succ, ← ia_set]; exact N1.out.set k _
      have M0 : Hid (Blk (wr.setCell ⟨w.heap.size + 1, k, none⟩ (.int .i64 (-1))) w.heap.size 24 #[.slice (some ⟨tb, to, none⟩) T.length cap]) := N0.out.far (p := ⟨w.heap.size + 1, k, none⟩) (by show w.heap.size ≠ w.heap.size + 1; omega) _
      have M2 : Hid (Below w.heap.size w (wr.setCell ⟨w.heap.size + 1, k, none⟩ (.int .i64 (-1)))) := B1.out.setCell (p := ⟨w.heap.size + 1, k, none⟩) (by show w.heap.size ≤ w.heap.size + 1; omega) _
      clear N0 N1 B1
      go_wp2
      go_roundg (T.length - (k + 1))
      case measure => omega
      case rel => exact ⟨k + 1, by omega, rfl, by go_num, M1, M0, M2⟩
    · have hltz : ¬ (k : Int) < (T.length : Int) := by omega
      obtain rfl : k = T.length := by omega
      have hb2 := below2 wr (.cells #[.int .i64 a, .int .i64 0] 57) (.cells #[.slice (some ⟨wr.heap.size, 0, none⟩) 1 1] 59)
      have SD : Hid (Sd w ((wr.alloc (.cells #[.int .i64 a, .int .i64 0] 57)).alloc (.cells #[.slice (some ⟨wr.heap.size, 0, none⟩) 1 1] 59)) (.slice (some ⟨tb, to, none⟩) T.length cap) w.heap.size (w.heap.size + 1) (wr.heap.size + 1) wr.heap.size 1 1 T.length (fun _ => (a, 0)) (fun _ => -1)) := by
        have hsz := B1.out.size
        refine ⟨⟨Blk.new2 wr _ _ _, _, (Blk.new wr _ _).on (below1 _ _), Nat.le_refl _, by decide, rfl, fun k hk => ?_⟩, ?_, N0.out.on hb2, B1.out.trans (hb2.mono hsz), hsz, by omega, by omega⟩
        · obtain rfl : k = 0 := by omega
          exact ⟨rfl, rfl⟩
        · rw [← mns_all]; exact N1.out.on hb2
      have LP : Hid (Lp T a 37 1 (fun _ => (a, 0)) (fun _ => -1)) := by
        refine ⟨fun i i0 hi => by omega, Dj.begin ha, ?_, Nat.le_refl _, fun x hx => ?_⟩
        · have := rem_start HS.out (fun _ => -1); omega
        · simp [lst] at hx; subst hx; simp
      clear N0 N1 B1 hb2
      go_wp2
      generalize ((wr.alloc (.cells #[.int .i64 a, .int .i64 0] 57)).alloc (.cells #[.slice (some ⟨wr.heap.size, 0, none⟩) 1 1] 59)) = w0 at SD ⊢
      generalize hp : wr.heap.size + 1 = pb at SD ⊢
      generalize wr.heap.size = rb at SD
      clear hp
      go_loopg [8, 10, 56] 37 (fun gk _ _ _ wq => ∃ (b n cp : Nat) (g : Nat → Rc) (f : Nat → Int), Hid (Sd w wq (.slice (some ⟨tb, to, none⟩) T.length cap) w.heap.size (w.heap.size + 1) pb b n cp T.length g f) ∧ Hid (Lp T a gk n g f))
      case atStart => exact ⟨rb, 1, 1, _, _, SD, LP⟩
      case round =>
        clear SD LP
        obtain ⟨b, n, cp, g, f, SD, LP⟩ := hrel
        have c := SD.out.frt.cell
        cases n with
        | zero =>
          have HE : Hid (In wr (.slice (some ⟨w.heap.size + 1, 0, none⟩) T.length T.length) (farL T a)) := by
            show In _ _ _
            rw [← farL_of LP.out.dj.done]
            exact In.of SD.out.far
          have HB := Lib.hid SD.out.bel
          clear LP SD
          go_wp2_with fail
          (with_reducible refine (flen_c _ 0 cp _).mono ?_)
          rintro e w1 ⟨rfl, rfl⟩
          clear c
          go_wp2
          go_ret
          exact ⟨_, rfl, HE.out, HB.out⟩
        | succ n =>
          obtain ⟨m, hm1, hm2⟩ : ∃ m, m ≤ n + 1 ∧ n + 1 ≤ m := ⟨_, Nat.le_refl _, Nat.le_refl _⟩
          have HM : Hid (n + 1 = m) := Nat.le_antisymm hm2 hm1
          rw [HM.out] at c
          have hm0 : (0 : Int) < (m : Int) := by omega
          have hm0' : 0 < m := by omega
          have hmu := LP.out.mu
          have hle := LP.out.le
          have hcon := hpop_c pb b n cp g wr SD.out.frt (by omega) LP.out.ho
          obtain ⟨hv, hcb⟩ := LP.out.at0
          have hkn := LP.out.known hv
          obtain ⟨L, hL⟩ : ∃ L, T[(g 0).1]? = some L := ⟨_, List.getElem?_eq_getElem hv⟩
          have hl6 : L.length ≤ 6 := HS.out.l6 L (List.mem_of_getElem? hL)
          have HL := Lib.hid hL
          obtain ⟨x, hx⟩ : ∃ x, Hid (g 0 = x) := ⟨_, rfl⟩
          rw [hx.out] at hcon hv hcb hkn HL
          obtain ⟨xv, xc⟩ := x
          simp only at hcon hv hcb hkn HL
          have hvz : (xv : Int) < (T.length : Int) := by omega
          clear hL
          go_wp2_with fail
          (with_reducible refine (flen_c _ m cp _).mono ?_)
          rintro e w1 ⟨rfl, rfl⟩
          clear c
          go_wp2_with fail
          (with_reducible refine hcon.mono ?_)
          rintro e w2 ⟨rfl, g2, F2, O2, P2, S2⟩
          have hbn := below1 w2 (.cells #[.int .i64 xv, .int .i64 xc] 57)
          have SD2 := Lib.hid (SD.out.fst F2 S2)
          have SD3 := Lib.hid (SD2.out.on hbn)
          have NB : Hid (Blk (w2.alloc (.cells #[.int .i64 xv, .int .i64 xc] 57)) w2.heap.size 57 #[.int .i64 xv, .int .i64 xc]) := Blk.new w2 _ _
          have hnb : b < w2.heap.size := F2.lt.2
          have HO2 := Lib.hid O2
          have HP2 := Lib.hid P2
          have cf := (SD3.out.far.cell xv).trans (ia_get _ _ hv)
          have hfz : w.heap.size + 1 ≠ w2.heap.size := Nat.ne_of_lt SD2.out.far.lt
          clear hcon F2 O2 P2 S2 SD SD2 hbn
          have hgk : 1 ≤ gk := by omega
          by_cases hfx : 0 ≤ f xv
          · have LP2 : Hid (Lp T a (gk - 1) n g2 f) := LP.out.skip HO2.out (by rw [hx.out]; exact HP2.out) (by rw [hx.out]; exact hfx)
            clear LP HO2 HP2 NB hkn
            go_wp2
            go_roundg (gk - 1)
            case measure => omega
            case rel => exact ⟨b, n, cp, g2, f, SD3, LP2⟩
          · have hf1 : f xv = -1 := by omega
            have hfx' : ¬ 0 ≤ f xv := hfx
            have fr := SD3.out.far.free xv
            have SD4 := Lib.hid (SD3.out.set xv (xc : Int))
            have NB4 : Hid (Blk ((w2.alloc (.cells #[.int .i64 xv, .int .i64 xc] 57)).setCell ⟨w.heap.size + 1, xv, none⟩ (.int .i64 (xc : Int))) w2.heap.size 57 #[.int .i64 xv, .int .i64 xc]) := NB.out.far (p := ⟨w.heap.size + 1, xv, none⟩) (fun e => hfz e.symm) _
            obtain ⟨s, hs, A1, c1, rfl, hLm, hA1⟩ := HC.out xv L HL.out
            have cb := SD4.out.box.one
            have cs := on_some SD4.out.bel hs
            obtain ⟨nv, nc⟩ := NB4.out.two
            have HA1 := Lib.hid hA1
            have HF1 := Lib.hid hf1
            have hLz : (L.length : Int) ≤ 6 := by omega
            have BN : b ≠ w2.heap.size := Nat.ne_of_lt hnb
            clear hs hA1 NB SD3 hf1 hkn
            go_wp2
            clear cb cs nv nc cf fr
            generalize ((w2.alloc (.cells #[.int .i64 xv, .int .i64 xc] 57)).setCell ⟨w.heap.size + 1, xv, none⟩ (.int .i64 (xc : Int))) = w4 at SD4 NB4 ⊢
            generalize w2.heap.size = nb at NB4 BN ⊢
            clear hnb hfz
            go_loopg [10, 56] L.length (fun gi _ s56 wi => ∃ (i n' b' cp' : Nat) (g' : Nat → Rc), i ≤ L.length ∧ gi = L.length - i ∧ s56 = .int .i64 i ∧ n' ≤ i + n ∧ b' ≠ nb ∧ Hid (Sd w wi (.slice (some ⟨tb, to, none⟩) T.length cap) w.heap.size (w.heap.size + 1) pb b' n' cp' T.length g' (upd f xv (xc : Int))) ∧ Hid (hpo g' n') ∧ Hid ((lst g' n').Perm (opn xc (L.take i) ++ lst g2 n)) ∧ Hid (Blk wi nb 57 #[.int .i64 xv, .int .i64 xc]))
            case atStart => exact ⟨0, n, b, cp, g2, Nat.zero_le _, rfl, rfl, by omega, BN, SD4, HO2, by show List.Perm _ _; rw [List.take_zero]; exact List.Perm.refl _, NB4⟩
            case round =>
              clear SD4 HO2 NB4 BN
              obtain ⟨i, n', b', cp', g', hi, rfl, rfl, hn', hbn, SD5, HO5, HP5, NB5⟩ := hrel
              by_cases hit : i < L.length
              · have hitz : (i : Int) < (L.length : Int) := by omega
                obtain ⟨q, hq⟩ : ∃ q, L[i]? = some q := ⟨_, List.getElem?_eq_getElem hit⟩
                obtain ⟨b1, o1, rfl, _, hpc⟩ := HA1.out (by rintro rfl; simp at hit)
                have hap := (hpc i q hq).on SD5.out.bel
                have HQ := Lib.hid hq
                have hot := opn_take (c := xc) hq
                by_cases hk : q.kind = 2
                · obtain ⟨m', j', c', L', e1, e2, e3, hc1, hc2, _, _, _⟩ := HS.out.lk xv i L q HL.out hq hk
                  rw [if_pos hk, e1, e3, Int.toNat_natCast, Int.toNat_natCast] at hot
                  obtain ⟨kd, tn, pr, sp, co⟩ := q
                  simp only at hk e1 e2 e3
                  subst hk e1 e3
                  obtain ⟨d0, d1, d2, d3, d4⟩ := hap
                  have hb1 := below1 wr (.cells #[.int .i64 2, .int .i64 tn, .int .i64 (m' : Int), .int .i64 sp, .int .i64 (c' : Int)] 35)
                  have SD6 := Lib.hid (SD5.out.on hb1)
                  have NB6 := Lib.hid (NB5.out.on hb1)
                  obtain ⟨nv, nc⟩ := NB5.out.two
                  have hzn : ¬ nb = wr.heap.size := Nat.ne_of_lt NB5.out.lt
                  have hzl : nb < wr.heap.size := NB5.out.lt
                  obtain ⟨sm, hsm1, hsm2⟩ : ∃ sm : Nat, sm ≤ xc + c' ∧ xc + c' ≤ sm := ⟨_, Nat.le_refl _, Nat.le_refl _⟩
                  have ws : IntKind.i64.wrap ((xc : Int) + (c' : Int)) = (sm : Int) := by rw [IntKind.wrap_i64]; omega
                  have wsb : (xc : Int) + (c' : Int) = (sm : Int) := by omega
                  have HSM : Hid (xc + c' = sm) := Nat.le_antisymm hsm2 hsm1
                  have HOT : Hid (opn xc (L.take (i + 1)) = opn xc (L.take i) ++ [(m', sm)]) := by rw [← HSM.out]; exact hot
                  have hcon := hpush_c pb b' n' cp' g' (m', sm) _ SD6.out.frt (by omega) HO5.out
                  clear hpc hq hb1 NB5 SD5 hot e2
                  go_wp2_with fail
                  (with_reducible refine hcon.mono ?_)
                  rintro e w6 ⟨rfl, b6, cp6, g6, F6, O6, P6, S6⟩
                  have SD7 := Lib.hid (SD6.out.fst F6 S6)
                  have NB7 : Hid (Blk w6 nb 57 #[.int .i64 xv, .int .i64 xc]) := S6.1.blk NB6.out (by
                    rintro (e | e)
                    · exact NB6.out.ne SD6.out.frt.1 (by decide) e
                    · exact hbn e.symm)
                  have hb6 : b6 ≠ nb := by
                    rcases S6.2 with e | e
                    · rw [e]; exact hbn
                    · have := NB6.out.lt; omega
                  have P7 : Hid ((lst g6 (n' + 1)).Perm (opn xc (L.take (i + 1)) ++ lst g2 n)) := by
                    show List.Perm _ _
                    rw [HOT.out, List.append_assoc]
                    refine P6.trans ((List.Perm.cons _ HP5.out).trans ?_)
                    exact (List.perm_middle (l₁ := opn xc (L.take i)) (l₂ := lst g2 n) (a := (m', sm))).symm
                  have HO7 := Lib.hid O6
                  clear hcon SD6 NB6 F6 O6 P6 S6 HP5 HO5 d0 d1 d2 d3 d4 nv nc
                  go_wp2
                  go_roundg (L.length - (i + 1))
                  case measure => omega
                  case rel => exact ⟨i + 1, n' + 1, b6, cp6, g6, by omega, rfl, by go_num, by omega, hb6, SD7, HO7, P7, NB7⟩
                · rw [if_neg hk, List.append_nil] at hot
                  have HP6 : Hid ((lst g' n').Perm (opn xc (L.take (i + 1)) ++ lst g2 n)) := by
                    show List.Perm _ _
                    rw [hot]; exact HP5.out
                  obtain ⟨kd, tn, pr, sp, co⟩ := q
                  simp only at hk
                  obtain ⟨d0, d1, d2, d3, d4⟩ := hap
                  have hb1 := below1 wr (.cells #[.int .i64 kd, .int .i64 tn, .int .i64 pr, .int .i64 sp, .int .i64 co] 35)
                  have SD6 := Lib.hid (SD5.out.on hb1)
                  have NB6 := Lib.hid (NB5.out.on hb1)
                  clear hpc hq hb1 NB5 SD5 hot HP5
                  go_wp2
                  go_roundg (L.length - (i + 1))
                  case measure => omega
                  case rel => exact ⟨i + 1, n', b', cp', g', by omega, rfl, by go_num, by omega, hbn, SD6, HO5, HP6, NB6⟩
              · have hitz : ¬ (i : Int) < (L.length : Int) := by omega
                obtain rfl : i = L.length := by omega
                have LP2 : Hid (Lp T a (gk - 1) n' g' (upd f xv (xc : Int))) := by
                  have k := LP.out.tell HS.out (g0 := g2) (g' := g') (n' := n') (L := L) (by rw [hx.out]; exact HP2.out) (by rw [hx.out]; exact HF1.out) (by rw [hx.out]; exact HL.out) HO5.out hn' (by rw [hx.out]; have := HP5.out; rw [List.take_length] at this; exact this)
                  rw [hx.out] at k
                  exact k
                clear LP HO5 HP5 NB5 HP2
                go_wp2
                go_roundg (gk - 1)
                case measure => omega
                case rel => exact ⟨b', n', cp', g', _, SD5, LP2⟩
end Go.Proofs

namespace Go.Proofs.Hd
open Go.RowKit
theorem below_put2 {w : World} {B g : Nat} (hB : B ≤ g) (a0 a1 : Value) : Below B w ((w.setCell ⟨g, 0, none⟩ a0).setCell ⟨g, 1, none⟩ a1) :=
  ((Below.refl B w).setCell (p := ⟨g, 0, none⟩) hB a0).setCell (p := ⟨g, 1, none⟩) hB a1
theorem Blk.put2 {w : World} {g : Nat} {t : TypeId} {x0 x1 : Value} (h : Blk w g t #[x0, x1]) (a0 a1 : Value) : Blk ((w.setCell ⟨g, 0, none⟩ a0).setCell ⟨g, 1, none⟩ a1) g t #[a0, a1] := by
  have h1 := (h.set 0 a0).set 1 a1
  simpa using h1
/-- Where a link leads; none where there is no link. -/
noncomputable def othT (T : List (List Pt)) (n i : Int) : Option (Int × Int) := match ptAt T n i with
  | none => none
  | some p => open Classical in if p.kind = 2 ∧ sTp T = 0 then some (p.peer, p.spot) else none
/-- What Other answers. -/
def OthR (w : World) (o : Option (Int × Int)) (e : Ending) (w' : World) : Prop := (match o with | some p => e = .returned (.tuple #[.agg #[.int .i64 p.1, .int .i64 p.2], .bool true]) | none => e = .returned (.tuple #[.agg #[.int .i64 0, .int .i64 0], .bool false])) ∧ Below w.heap.size w w'
/-- The error of Far. -/
noncomputable def strT (T : List (List Pt)) (a : Int) : Int := if sTp T = 0 then (if inB a T.length = true then 0 else 7) else sTp T
theorem strT_zero {T : List (List Pt)} {a : Int} (h : strT T a = 0) : sTp T = 0 ∧ ∃ n : Nat, a = n ∧ n < T.length := by
  unfold strT at h
  split at h
  · rename_i h0
    split at h
    · rename_i h1
      simp [inB] at h1
      exact ⟨h0, a.toNat, by omega, by omega⟩
    · cases h
  · contradiction
theorem strT_nat {T : List (List Pt)} {a : Nat} (h : sTp T = 0) (ha : a < T.length) : strT T a = 0 := by
  unfold strT
  rw [if_pos h, if_pos (by simp [inB]; omega)]
/-- What Far answers. -/
def FarR (w : World) (T : List (List Pt)) (a : Int) (e : Ending) (w' : World) : Prop := (strT T a ≠ 0 ∧ e = .returned (.tuple #[.slice none 0 0, .int .i64 (strT T a)]) ∧ Below w.heap.size w w') ∨ (sTp T = 0 ∧ ∃ (n : Nat) (v : Value), a = n ∧ n < T.length ∧ e = .returned (.tuple #[v, .int .i64 0]) ∧ In w' v (farL T n) ∧ Below w.heap.size w w')
end Go.Proofs.Hd
namespace Go.Proofs
open Go.RowKit Go.Proofs.Hd Go.Lib
theorem start_c (tv : Value) (T : List (List Pt)) (a : Int) (w : World) (hT : PsT w tv T) : Calls Try.prog 22 #[.agg #[tv], .int .i64 a] w fun e w' => e = .returned (.int .i64 (strT T a)) ∧ Below w.heap.size w w' := by
  have HT := Lib.hid hT
  obtain ⟨A, cap, rfl, htm, -⟩ := hT
  have B0 := below1 w (.cells #[.slice A T.length cap] 24)
  have N0 : Hid (Blk (w.alloc (.cells #[.slice A T.length cap] 24)) w.heap.size 24 #[.slice A T.length cap]) := Blk.new w _ _
  by_cases hs : sTp T = 0
  · have hst : strT T a = if inB a T.length = true then 0 else 7 := by unfold strT; rw [if_pos hs]
    go_enter Try.func22, Try.ntmps22
    go_wp2_with fail
    (with_reducible refine (tpsound_c _ T _ (HT.out.on B0)).mono ?_)
    rintro e w1 ⟨rfl, hb⟩
    rw [hs]
    have d0 := (N0.out.on hb).one
    have HB := Lib.hid (B0.trans (hb.mono B0.size))
    have HST := Lib.hid hst
    clear hb B0 N0 hst
    cases hx : inB a T.length with
    | true =>
      rw [hx, if_pos rfl] at HST
      go_wp2_with fail
      (with_reducible refine (within_c true a T.length _ hx).mono ?_)
      rintro e w2 ⟨rfl, rfl⟩
      go_wp2
      go_ret
      exact ⟨by rw [HST.out]; rfl, HB.out⟩
    | false =>
      rw [hx, if_neg (by decide)] at HST
      go_wp2_with fail
      (with_reducible refine (within_c false a T.length _ hx).mono ?_)
      rintro e w2 ⟨rfl, rfl⟩
      go_wp2
      go_ret
      exact ⟨by rw [HST.out]; rfl, HB.out⟩
  · have hst : strT T a = sTp T := by unfold strT; rw [if_neg hs]
    go_enter Try.func22, Try.ntmps22
    go_wp2_with fail
    (with_reducible refine (tpsound_c _ T _ (HT.out.on B0)).mono ?_)
    rintro e w1 ⟨rfl, hb⟩
    have HB := Lib.hid (B0.trans (hb.mono B0.size))
    obtain ⟨x, hx⟩ : ∃ x, sTp T = x := ⟨_, rfl⟩
    rw [hx] at hs hst ⊢
    have HST := Lib.hid hst
    clear hb B0 N0 hst hx
    go_wp2
    go_ret
    exact ⟨by rw [HST.out]; rfl, HB.out⟩
theorem far_c (tv : Value) (T : List (List Pt)) (a : Int) (w : World) (hT : PsT w tv T) : Calls Try.prog 14 #[.agg #[tv], .int .i64 a] w (FarR w T a) := by
  have HT := Lib.hid hT
  obtain ⟨A, cap, rfl, htm, -⟩ := hT
  have B0 := below1 w (.cells #[.slice A T.length cap] 24)
  have N0 : Hid (Blk (w.alloc (.cells #[.slice A T.length cap] 24)) w.heap.size 24 #[.slice A T.length cap]) := Blk.new w _ _
  go_enter Try.func14, Try.ntmps14
  go_wp2_with fail
  (with_reducible refine (start_c _ T a _ (HT.out.on B0)).mono ?_)
  rintro e w1 ⟨rfl, hb⟩
  have HB := Lib.hid (B0.trans (hb.mono B0.size))
  have d0 := (N0.out.on hb).one
  clear hb B0 N0
  obtain ⟨x, hx⟩ : ∃ x, strT T a = x := ⟨_, rfl⟩
  by_cases h0 : x = 0
  · subst h0
    obtain ⟨hs, n, rfl, hn⟩ := strT_zero hx
    rw [hx]
    have HS := Lib.hid (Snd.of hs)
    have HZ := Lib.hid hs
    clear hx hs
    go_wp2_with fail
    (with_reducible refine (dist_c _ T n _ (HT.out.on HB.out) HS.out hn).mono ?_)
    rintro e w2 ⟨v, rfl, hv, hb2⟩
    have HB2 := Lib.hid (HB.out.trans (hb2.mono HB.out.size))
    have HV := Lib.hid hv
    clear hb2 hv HB d0
    go_wp2
    go_ret2
    exact .inr ⟨HZ.out, n, v, rfl, hn, rfl, HV.out, HB2.out⟩
  · rw [hx]
    have HX := Lib.hid hx
    clear hx d0
    go_wp2
    go_ret2
    exact .inl ⟨by rw [HX.out]; exact h0, by rw [HX.out]; rfl, HB.out⟩
set_option maxRecDepth 100000 in
set_option maxHeartbeats 1000000 in
theorem other_c (tv : Value) (T : List (List Pt)) (n i : Int) (w : World) (hT : PsT w tv T) : Calls Try.prog 12 #[.agg #[tv], .agg #[.int .i64 n, .int .i64 i]] w (OthR w (othT T n i)) := by
  have HT := Lib.hid hT
  obtain ⟨A, cap, rfl, htm, -⟩ := hT
  have B0 : Below w.heap.size w (((w.alloc (.cells #[.slice A T.length cap] 24)).alloc (.cells #[.int .i64 n, .int .i64 i] 26)).alloc (.cells #[.int .i64 0, .int .i64 0] 26)) := below3 w _ _ _
  have N0 : Hid (Blk (((w.alloc (.cells #[.slice A T.length cap] 24)).alloc (.cells #[.int .i64 n, .int .i64 i] 26)).alloc (.cells #[.int .i64 0, .int .i64 0] 26)) w.heap.size 24 #[.slice A T.length cap]) := ((Blk.new w _ _).on (below1 _ _)).on (below1 _ _)
  have N2 : Hid (Blk (((w.alloc (.cells #[.slice A T.length cap] 24)).alloc (.cells #[.int .i64 n, .int .i64 i] 26)).alloc (.cells #[.int .i64 0, .int .i64 0] 26)) (w.heap.size + 1 + 1) 26 #[.int .i64 0, .int .i64 0]) := Blk.new3 _ _ _ _ _
  go_enter Try.func12, Try.ntmps12
  go_wp2_with fail
  (with_reducible refine (port_c _ T n i _ (HT.out.on B0)).mono ?_)
  rintro e w1 ⟨he, hb⟩
  have HB := Lib.hid (B0.trans (hb.mono B0.size))
  have M0 := Lib.hid (N0.out.on hb)
  have M2 := Lib.hid (N2.out.on hb)
  clear hb B0 N0 N2
  cases hp : ptAt T n i with
  | none =>
    rw [hp] at he
    simp only at he
    subst he
    have HO : Hid (othT T n i = none) := by show _ = _; unfold othT; rw [hp]
    have hb2 := below1 w1 (.cells #[.int .i64 0, .int .i64 0, .int .i64 0, .int .i64 0, .int .i64 0] 35)
    have M3 := M2.out.on hb2
    have K := M3.put2 (.int .i64 0) (.int .i64 0)
    obtain ⟨y0, y1⟩ := M3.two
    obtain ⟨z0, z1⟩ := K.two
    have f0 := M3.free 0
    have f1 := M3.free 1
    have HB3 := Lib.hid ((HB.out.trans (hb2.mono HB.out.size)).trans (below_put2 (B := w.heap.size) (g := w.heap.size + 1 + 1) (by omega) (.int .i64 0) (.int .i64 0)))
    clear hb2 M3 K HB M0 M2
    go_wp2
    exact bodyPost_ret (v := .tuple #[.agg #[.int .i64 0, .int .i64 0], .bool false]) (by simp [results, Try.results12, go_sem, z0, z1]) rfl ⟨by first | trivial | rw [HO.out], HB3.out⟩
  | some p =>
    rw [hp] at he
    simp only at he
    subst he
    obtain ⟨kd, tn, pr, sp, co⟩ := p
    have hb2 := below1 w1 (.cells #[.int .i64 kd, .int .i64 tn, .int .i64 pr, .int .i64 sp, .int .i64 co] 35)
    by_cases hk : kd = 2
    · subst hk
      have M3 := Lib.hid (M2.out.on hb2)
      have M4 := Lib.hid (M0.out.on hb2)
      have NP : Hid (Blk (w1.alloc (.cells #[.int .i64 2, .int .i64 tn, .int .i64 pr, .int .i64 sp, .int .i64 co] 35)) w1.heap.size 35 #[.int .i64 2, .int .i64 tn, .int .i64 pr, .int .i64 sp, .int .i64 co]) := Blk.new w1 _ _
      have HB2 := Lib.hid (HB.out.trans (hb2.mono HB.out.size))
      have t0 := M4.out.one
      clear hb2 M0 M2 HB
      go_wp2_with fail
      (with_reducible refine (tpsound_c _ T _ (HT.out.on HB2.out)).mono ?_)
      rintro e w3 ⟨rfl, hb3⟩
      have M5 := M3.out.on hb3
      obtain ⟨q0, q1, q2, q3, q4⟩ := (NP.out.on hb3).five
      have HB3 := Lib.hid (HB2.out.trans (hb3.mono HB2.out.size))
      obtain ⟨y0, y1⟩ := M5.two
      have f0 := M5.free 0
      have f1 := M5.free 1
      clear t0 M4 NP M3 hb3 HB2
      by_cases hs : sTp T = 0
      · have HO : Hid (othT T n i = some (pr, sp)) := by show _ = _; unfold othT; rw [hp]; simp only; rw [if_pos (by simp [hs])]
        have K := M5.put2 (.int .i64 pr) (.int .i64 sp)
        obtain ⟨z0, z1⟩ := K.two
        have HB4 := Lib.hid (HB3.out.trans (below_put2 (B := w.heap.size) (g := w.heap.size + 1 + 1) (by omega) (.int .i64 pr) (.int .i64 sp)))
        rw [hs]
        clear M5 K HB3 hs hp
        go_wp2
        exact bodyPost_ret (v := .tuple #[.agg #[.int .i64 pr, .int .i64 sp], .bool true]) (by simp [results, Try.results12, go_sem, z0, z1]) rfl ⟨by first | trivial | rw [HO.out], HB4.out⟩
      · have HO : Hid (othT T n i = none) := by show _ = _; unfold othT; rw [hp]; simp only; rw [if_neg (fun h => hs h.2)]
        have K := M5.put2 (.int .i64 0) (.int .i64 0)
        obtain ⟨z0, z1⟩ := K.two
        have HB4 := Lib.hid (HB3.out.trans (below_put2 (B := w.heap.size) (g := w.heap.size + 1 + 1) (by omega) (.int .i64 0) (.int .i64 0)))
        obtain ⟨x, hx⟩ : ∃ x, sTp T = x := ⟨_, rfl⟩
        rw [hx] at hs ⊢
        clear M5 K HB3 hx hp
        go_wp2
        exact bodyPost_ret (v := .tuple #[.agg #[.int .i64 0, .int .i64 0], .bool false]) (by simp [results, Try.results12, go_sem, z0, z1]) rfl ⟨by first | trivial | rw [HO.out], HB4.out⟩
    · have HO : Hid (othT T n i = none) := by show _ = _; unfold othT; rw [hp]; simp only; rw [if_neg (fun h => hk h.1)]
      have M3 := M2.out.on hb2
      have K := M3.put2 (.int .i64 0) (.int .i64 0)
      obtain ⟨y0, y1⟩ := M3.two
      obtain ⟨z0, z1⟩ := K.two
      have f0 := M3.free 0
      have f1 := M3.free 1
      have HB3 := Lib.hid ((HB.out.trans (hb2.mono HB.out.size)).trans (below_put2 (B := w.heap.size) (g := w.heap.size + 1 + 1) (by omega) (.int .i64 0) (.int .i64 0)))
      have hk2 : (kd != 2) = true := by simp [hk]
      clear hb2 M3 K HB M0 M2 hp
      go_wp2
      exact bodyPost_ret (v := .tuple #[.agg #[.int .i64 0, .int .i64 0], .bool false]) (by simp [results, Try.results12, go_sem, z0, z1]) rfl ⟨by first | trivial | rw [HO.out], HB3.out⟩
set_option maxHeartbeats 1000000 in
theorem ints_c (v u : Value) (F : List Int) (w : World) (hv : In w v F) (hu : In w u F) (hF : F.length ≤ 1000000) : Calls Try.prog 15 #[v, u] w fun e w' => e = .returned (.bool true) ∧ Below w.heap.size w w' := by
  obtain ⟨b, c, rfl, hb, hc⟩ := hv
  obtain ⟨b2, c2, rfl, hb2, hc2⟩ := hu
  have hFz : (F.length : Int) ≤ 1000000 := by omega
  have HC := Lib.hid hc
  have HC2 := Lib.hid hc2
  clear hc hc2
  go_enter Try.func15, Try.ntmps15
  go_wp2
  go_loopg [5] F.length (fun gk s5 wr => ∃ k : Nat, k ≤ F.length ∧ gk = F.length - k ∧ s5 = .int .i64 k ∧ Hid (Below w.heap.size w wr))
  case atStart => exact ⟨0, Nat.zero_le _, rfl, rfl, Below.refl _ _⟩
  case round =>
    obtain ⟨k, hk, rfl, rfl, HB⟩ := hrel
    by_cases hlt : k < F.length
    · have hltz : (k : Int) < (F.length : Int) := by omega
      obtain ⟨x, hx⟩ : ∃ x, F[k]? = some x := ⟨_, List.getElem?_eq_getElem hlt⟩
      have d1 := on_some HB.out (HC.out k x hx)
      have d2 := on_some HB.out (HC2.out k x hx)
      clear hx
      go_wp2_with fail
      go_quiet (fail)
      have HB2 := Lib.hid (bldrewN HB.out nq)
      clear d1 d2 HB
      generalize wr.drewN nq = w2 at HB2 ⊢
      go_wp2
      go_roundg (F.length - (k + 1))
      case measure => omega
      case rel => exact ⟨k + 1, by omega, rfl, by go_num, HB2⟩
    · have hltz : ¬ (k : Int) < (F.length : Int) := by omega
      go_wp2
      go_ret
      exact ⟨rfl, HB.out⟩
end Go.Proofs

namespace Go.Proofs.Hd
open Go.RowKit
theorem Way.cost {G : Nat → Nat → Nat → Prop} {a : Nat} (hG : ∀ b c w, G b c w → w ≤ 1000) : ∀ {vs : List Nat} {s : Nat}, Way G a vs s → s + 1000 ≤ 1000 * vs.length := by
  intro vs s h
  induction h with
  | start => simp
  | link _ g ih =>
    have := hG _ _ _ g
    rw [List.length_cons]
    omega
theorem dst_le {T : List (List Pt)} (hS : Snd T) {a b : Nat} (ha : a < T.length) : dst (Gt T) a b ≤ 6000 := by
  rcases dst_isFar (Gt T) a (b + 1) b (Nat.lt_succ_self b) with ⟨e, _⟩ | ⟨t, e, ⟨vs, hw⟩, hm⟩
  · omega
  · obtain ⟨us, q, h1, h2, h3⟩ := hw.once
    have hl := nodup_len h2 (h3.lt ha fun b c w g => (g.lt hS).2.1)
    have hc := h3.cost fun b c w g => (g.lt hS).2.2.2.2
    have h6 := hS.n6
    have := hm us q h3
    rw [e]
    omega
/-- The port p of switch a lies on a shortest way to b. -/
def nxt (T : List (List Pt)) (a b : Nat) (p : Pt) : Prop := p.kind = 2 ∧ p.cost + dst (Gt T) b p.peer.toNat = dst (Gt T) b a
/-- Port i is the first of switch a on a shortest way to b. -/
def isNx (T : List (List Pt)) (a b i : Nat) : Prop := ∃ (L : List Pt) (p : Pt), T[a]? = some L ∧ L[i]? = some p ∧ nxt T a b p ∧ ∀ j q, j < i → L[j]? = some q → ¬ nxt T a b q
theorem nxt_some {T : List (List Pt)} (hS : Snd T) {a b : Nat} {L : List Pt} (hL : T[a]? = some L) (hne : b ≠ a) (h : 0 ≤ dst (Gt T) b a) : ∃ (i : Nat) (p : Pt), L[i]? = some p ∧ nxt T a b p := by
  obtain ⟨c, w, hg, h1, h2⟩ := dst_last hne h
  obtain ⟨L', i, p, hL', hp, hk, e1, e2⟩ := hg.sym hS
  rw [hL] at hL'
  injection hL' with hL'
  subst hL'
  refine ⟨i, p, hp, hk, ?_⟩
  rw [e1, e2, Int.toNat_natCast]
  omega
/-- What Next answers. -/
def NxR (w : World) (T : List (List Pt)) (a b : Int) (e : Ending) (w' : World) : Prop := Below w.heap.size w w' ∧
  ((strT T a ≠ 0 ∧ e = .returned (.tuple #[.int .i64 0, .int .i64 (strT T a)])) ∨
   (strT T a = 0 ∧ a = b ∧ e = .returned (.tuple #[.int .i64 0, .int .i64 1])) ∨
   (strT T a = 0 ∧ a ≠ b ∧ inB b T.length = false ∧ e = .returned (.tuple #[.int .i64 0, .int .i64 7])) ∨
   ∃ n m : Nat, sTp T = 0 ∧ a = n ∧ b = m ∧ n < T.length ∧ m < T.length ∧ n ≠ m ∧ ((dst (Gt T) m n < 0 ∧ e = .returned (.tuple #[.int .i64 0, .int .i64 7])) ∨ (0 ≤ dst (Gt T) m n ∧ ∃ i : Nat, isNx T n m i ∧ e = .returned (.tuple #[.int .i64 i, .int .i64 0]))))
end Go.Proofs.Hd
namespace Go.Proofs
open Go.RowKit Go.Proofs.Hd Go.Lib
set_option maxRecDepth 100000 in
set_option maxHeartbeats 2000000 in
theorem next_c (tv : Value) (T : List (List Pt)) (a b : Int) (w : World) (hT : PsT w tv T) : Calls Try.prog 17 #[.agg #[tv], .int .i64 a, .int .i64 b] w (NxR w T a b) := by
  have HT := Lib.hid hT
  obtain ⟨A, cap, rfl, htm, hA⟩ := hT
  have HA := Lib.hid hA
  have B0 := below1 w (.cells #[.slice A T.length cap] 24)
  have N0 : Hid (Blk (w.alloc (.cells #[.slice A T.length cap] 24)) w.heap.size 24 #[.slice A T.length cap]) := Blk.new w _ _
  clear hA
  go_enter Try.func17, Try.ntmps17
  go_wp2_with fail
  (with_reducible refine (start_c _ T a _ (HT.out.on B0)).mono ?_)
  rintro e w1 ⟨rfl, hb⟩
  have HB := Lib.hid (B0.trans (hb.mono B0.size))
  have M0 := Lib.hid (N0.out.on hb)
  have d0 := M0.out.one
  clear hb B0 N0
  obtain ⟨x, hx⟩ : ∃ x, strT T a = x := ⟨_, rfl⟩
  by_cases h0 : x = 0
  · subst h0
    obtain ⟨hs, n, rfl, hn⟩ := strT_zero hx
    rw [hx]
    have HX := Lib.hid hx
    have HS := Lib.hid (Snd.of hs)
    have HZ := Lib.hid hs
    clear hx hs
    by_cases hab : b = (n : Int)
    · subst hab
      clear d0
      go_wp2
      go_ret2
      exact ⟨HB.out, .inr (.inl ⟨HX.out, rfl, rfl⟩)⟩
    · cases hbi : inB b T.length with
      | false =>
        go_wp2_with fail
        (with_reducible refine (within_c false b T.length _ hbi).mono ?_)
        rintro e w2 ⟨rfl, rfl⟩
        clear d0
        go_wp2
        go_ret2
        exact ⟨HB.out, .inr (.inr (.inl ⟨HX.out, fun e => hab e.symm, hbi, rfl⟩))⟩
      | true =>
        obtain ⟨m, rfl⟩ : ∃ m : Nat, b = (m : Int) := ⟨b.toNat, by simp [inB] at hbi; omega⟩
        have hm : m < T.length := by simp [inB] at hbi; omega
        have hnz : (n : Int) < (T.length : Int) := by omega
        have hmn : n ≠ m := by omega
        go_wp2_with fail
        (with_reducible refine (within_c true (m : Int) T.length _ hbi).mono ?_)
        rintro e w2 ⟨rfl, rfl⟩
        go_wp2_with fail
        (with_reducible refine (dist_c _ T m _ (HT.out.on HB.out) HS.out hm).mono ?_)
        rintro e w3 ⟨v, rfl, hv, hb3⟩
        have HB3 := Lib.hid (HB.out.trans (hb3.mono HB.out.size))
        have M3 := Lib.hid (M0.out.on hb3)
        obtain ⟨fb, fc, rfl, hfl, hfc⟩ := hv
        have cn := hfc n _ (farL_get T m hn)
        have HF := Lib.hid hfc
        have eL := farL_len T m
        rw [eL]
        obtain ⟨D, hD⟩ : ∃ D, dst (Gt T) m n = D := ⟨_, rfl⟩
        rw [hD] at cn
        have HD := Lib.hid hD
        have hDl : D ≤ 6000 := by rw [← hD]; exact dst_le HS.out hm
        have hDg : -1 ≤ D := by rw [← hD]; exact dst_ge _ _ _
        clear hfc hb3 HB M0 d0 eL hD
        by_cases hneg : D < 0
        · go_wp2
          go_ret2
          exact ⟨HB3.out, .inr (.inr (.inr ⟨n, m, HZ.out, rfl, rfl, hn, hm, hmn, .inl ⟨by rw [HD.out]; exact hneg, rfl⟩⟩))⟩
        · obtain ⟨L, hL⟩ : ∃ L, T[n]? = some L := ⟨_, List.getElem?_eq_getElem hn⟩
          obtain ⟨tb, to, rfl, _, hc⟩ := HA.out (by rintro rfl; simp at hn)
          obtain ⟨s, hs, A1, c1, rfl, hLm, hA1⟩ := hc n L hL
          have cs := on_some HB3.out hs
          have cb := M3.out.one
          have HL := Lib.hid hL
          have HA1 := Lib.hid hA1
          have hl6 : L.length ≤ 6 := HS.out.l6 L (List.mem_of_getElem? hL)
          have hLz : (L.length : Int) ≤ 6 := by omega
          have HC3 := Lib.hid cn
          clear hs hc hA1 hL
          go_wp2
          clear cs cb cn
          go_loopg [10, 11, 41] L.length (fun gi _ _ s41 wi => ∃ (i : Nat), i ≤ L.length ∧ gi = L.length - i ∧ s41 = .int .i64 i ∧ Hid (∀ j q, j < i → L[j]? = some q → ¬ nxt T n m q) ∧ Hid (Below w3.heap.size w3 wi))
          case atStart => exact ⟨0, Nat.zero_le _, rfl, rfl, fun j q hj => absurd hj (Nat.not_lt_zero _), Below.refl _ _⟩
          case round =>
            obtain ⟨i, hi, rfl, rfl, HN, HW⟩ := hrel
            by_cases hit : i < L.length
            · have hitz : (i : Int) < (L.length : Int) := by omega
              obtain ⟨q, hq⟩ : ∃ q, L[i]? = some q := ⟨_, List.getElem?_eq_getElem hit⟩
              obtain ⟨b1, o1, rfl, _, hpc⟩ := HA1.out (by rintro rfl; simp at hit)
              have hap := ((hpc i q hq).on HB3.out).on HW.out
              clear hpc
              by_cases hk : q.kind = 2
              · obtain ⟨m', j', c', L', e1, e2, e3, hc1, hc2, _, hmL, _⟩ := HS.out.lk n i L q HL.out hq hk
                have hmT : m' < T.length := (List.getElem?_eq_some_iff.1 hmL).1
                have hmz : (m' : Int) < (T.length : Int) := by omega
                obtain ⟨D', hD'⟩ : ∃ D', dst (Gt T) m m' = D' := ⟨_, rfl⟩
                have hnx : nxt T n m q ↔ (c' : Int) + D' = D := by
                  unfold nxt
                  rw [e1, e3, Int.toNat_natCast, hD', HD.out]
                  simp [hk]
                have hDl' : D' ≤ 6000 := by rw [← hD']; exact dst_le HS.out hm
                have hDg' : -1 ≤ D' := by rw [← hD']; exact dst_ge _ _ _
                have HQ := Lib.hid hq
                have HX2 := Lib.hid hnx
                have HD' := Lib.hid hD'
                obtain ⟨kd, tn, pr, sp, co⟩ := q
                simp only at hk e1 e2 e3
                subst hk e1 e3
                obtain ⟨d0, d1, d2, d3, d4⟩ := hap
                have hb1 := below1 wr (.cells #[.int .i64 2, .int .i64 tn, .int .i64 (m' : Int), .int .i64 sp, .int .i64 (c' : Int)] 35)
                have HW1 := Lib.hid (HW.out.trans (hb1.mono HW.out.size))
                have g1 := on_some HW1.out HC3.out
                have g2 : _ := on_some HW1.out (HF.out m' _ (farL_get T m hmT))
                rw [HD'.out] at g2
                have ws : IntKind.i64.wrap ((c' : Int) + D') = (c' : Int) + D' := by rw [IntKind.wrap_i64]; omega
                clear hq hnx hD' hmL hb1 e2 HW
                by_cases hz : (c' : Int) + D' = D
                · have hzb : ((c' : Int) + D' == D) = true := by simp [hz]
                  have HE : Hid (isNx T n m i) := ⟨L, _, HL.out, HQ.out, HX2.out.2 hz, HN.out⟩
                  obtain ⟨S, hS1⟩ : ∃ S, (c' : Int) + D' = S := ⟨_, rfl⟩
                  go_wp2_with fail
                  go_quiet (fail)
                  have HW2 := Lib.hid (bldrewN HW1.out nq)
                  clear g1 g2 d0 d1 d2 d3 d4 HW1
                  generalize ((wr.alloc (.cells #[.int .i64 2, .int .i64 tn, .int .i64 (m' : Int), .int .i64 sp, .int .i64 (c' : Int)] 35)).drewN nq) = w5 at HW2 ⊢
                  go_wp2
                  go_ret2
                  exact ⟨HB3.out.trans (HW2.out.mono HB3.out.size), .inr (.inr (.inr ⟨n, m, HZ.out, rfl, rfl, hn, hm, hmn, .inr ⟨by rw [HD.out]; omega, i, HE.out, rfl⟩⟩))⟩
                · have hzb : ((c' : Int) + D' == D) = false := beq_false_of_ne hz
                  have HN2 : Hid (∀ j q, j < i + 1 → L[j]? = some q → ¬ nxt T n m q) := fun j q hj hq => by
                    by_cases e : j = i
                    · subst e
                      rw [HQ.out] at hq
                      injection hq with hq
                      subst hq
                      exact fun h => hz (HX2.out.1 h)
                    · exact HN.out j q (by omega) hq
                  go_wp2_with fail
                  go_quiet (fail)
                  have HW2 := Lib.hid (bldrewN HW1.out nq)
                  clear g1 g2 d0 d1 d2 d3 d4 HW1
                  generalize ((wr.alloc (.cells #[.int .i64 2, .int .i64 tn, .int .i64 (m' : Int), .int .i64 sp, .int .i64 (c' : Int)] 35)).drewN nq) = w5 at HW2 ⊢
                  go_wp2
                  go_roundg (L.length - (i + 1))
                  case measure => omega
                  case rel => exact ⟨i + 1, by omega, rfl, by go_num, HN2, HW2⟩
              · have HN2 : Hid (∀ j q, j < i + 1 → L[j]? = some q → ¬ nxt T n m q) := fun j q' hj hq' => by
                  by_cases e : j = i
                  · subst e
                    rw [hq] at hq'
                    injection hq' with hq'
                    subst hq'
                    exact fun h => hk h.1
                  · exact HN.out j q' (by omega) hq'
                obtain ⟨kd, tn, pr, sp, co⟩ := q
                simp only at hk
                have hkb : (kd == 2) = false := beq_false_of_ne hk
                obtain ⟨d0, d1, d2, d3, d4⟩ := hap
                have hb1 := below1 wr (.cells #[.int .i64 kd, .int .i64 tn, .int .i64 pr, .int .i64 sp, .int .i64 co] 35)
                have HW1 := Lib.hid (HW.out.trans (hb1.mono HW.out.size))
                clear hq hb1 HW HN
                go_wp2_with fail
                go_quiet (fail)
                have HW2 := Lib.hid (bldrewN HW1.out nq)
                clear d0 d1 d2 d3 d4 HW1
                generalize ((wr.alloc (.cells #[.int .i64 kd, .int .i64 tn, .int .i64 pr, .int .i64 sp, .int .i64 co] 35)).drewN nq) = w5 at HW2 ⊢
                go_wp2
                go_roundg (L.length - (i + 1))
                case measure => omega
                case rel => exact ⟨i + 1, by omega, rfl, by go_num, HN2, HW2⟩
            · exfalso
              obtain ⟨j, q, hq, hnx⟩ := nxt_some HS.out (b := m) HL.out (fun e => hmn e.symm) (by rw [HD.out]; omega)
              have := (List.getElem?_eq_some_iff.1 hq).1
              exact HN.out j q (by omega) hq hnx
  · rw [hx]
    have HX := Lib.hid hx
    clear hx d0
    go_wp2
    go_ret2
    exact ⟨HB.out, .inl ⟨by rw [HX.out]; exact h0, by rw [HX.out]; rfl⟩⟩
end Go.Proofs

namespace Go.Proofs.Hd
open Go.RowKit
/-- The topology that awake looks at. -/
def T7 : List (List Pt) := [[⟨1, 0, 0, 0, 0⟩, ⟨2, 0, 1, 0, 5⟩], [⟨2, 0, 0, 1, 5⟩]]
theorem T7_sound : sTp T7 = 0 := by
  refine sTp_ok (by decide) fun n i L p hn hL hp => ?_
  have hn2 : n < 2 := hn
  rcases (show n = 0 ∨ n = 1 by omega) with rfl | rfl
  · injection hL with hL
    subst hL
    have hi : i < 2 := (List.getElem?_eq_some_iff.1 hp).1
    rcases (show i = 0 ∨ i = 1 by omega) with rfl | rfl
    · injection hp with hp; subst hp; decide
    · injection hp with hp; subst hp; decide
  · injection hL with hL
    subst hL
    have hi : i < 1 := (List.getElem?_eq_some_iff.1 hp).1
    obtain rfl : i = 0 := by omega
    injection hp with hp; subst hp; decide
theorem T7_far : dst (Gt T7) 0 1 = 5 := by
  have g : Gt T7 0 1 5 := ⟨_, 1, _, rfl, rfl, rfl, rfl, rfl⟩
  have h0 := dst_self (Gt T7) 0
  have h1 := dst_link (a := 0) g (by omega)
  obtain ⟨c, w, hg, h2, h3⟩ := dst_last (G := Gt T7) (a := 0) (b := 1) (by omega) h1.1
  have hc := hg.lt (Snd.of T7_sound)
  have hc2 : c < 2 := hc.1
  obtain rfl : c = 0 := by omega
  obtain ⟨L, i, p, hL, hp, hk, e1, e2⟩ := hg
  injection hL with hL
  subst hL
  have hi : i < 2 := (List.getElem?_eq_some_iff.1 hp).1
  rcases (show i = 0 ∨ i = 1 by omega) with rfl | rfl
  · injection hp with hp; subst hp; simp at hk
  · injection hp with hp; subst hp
    have : w = 5 := by simp at e2; omega
    omega
theorem T7_next {i : Nat} (h : isNx T7 1 0 i) : i = 0 := by
  obtain ⟨L, p, hL, hp, _⟩ := h
  injection hL with hL
  subst hL
  have : i < 1 := (List.getElem?_eq_some_iff.1 hp).1
  omega
theorem T7_other : othT T7 0 1 = some (1, 0) := by
  have e : ptAt T7 0 1 = some ⟨2, 0, 1, 0, 5⟩ := rfl
  unfold othT
  rw [e]
  simp [T7_sound]
theorem T7_edges : (eTo T7 T7.length).length = 1 := by decide
theorem T7_ports : ports T7 ≤ 2000000 := by decide
end Go.Proofs.Hd
namespace Go.Proofs
open Go.RowKit Go.Proofs.Hd Go.Lib
theorem run_eqS (w : World) (a b c d : Int) : (Op.equalIn 10000 26 (.agg #[.int .i64 a, .int .i64 b]) (.agg #[.int .i64 c, .int .i64 d])).run Try.prog w = .ok ((a == c) && (b == d)) w := by
  cases h1 : a == c <;> cases h2 : b == d <;> go_simp
attribute [local go_sem high] run_eqS
set_option maxRecDepth 100000 in
set_option maxHeartbeats 2000000 in
theorem awake7_c (w : World) : Calls Try.prog 13 #[] w fun e w' => e = .returned (.bool true) ∧ Below w.heap.size w w' := by
  obtain ⟨W, hW⟩ : ∃ W, (((w.alloc (.cells #[.int .i64 1, .int .i64 0, .int .i64 0, .int .i64 0, .int .i64 0, .int .i64 2, .int .i64 0, .int .i64 1, .int .i64 0, .int .i64 5] 35)).alloc (.cells #[.int .i64 2, .int .i64 0, .int .i64 0, .int .i64 1, .int .i64 5] 35)).alloc (.cells #[.slice (some ⟨w.heap.size, 0, none⟩) 2 2, .slice (some ⟨w.heap.size + 1, 0, none⟩) 1 1] 33)).alloc (.cells #[.slice (some ⟨w.heap.size + 1 + 1, 0, none⟩) 2 2] 24) = W := ⟨_, rfl⟩
  have B0 : Below w.heap.size w W := by rw [← hW]; exact below4 w _ _ _ _
  have N0 : Blk W w.heap.size 35 #[.int .i64 1, .int .i64 0, .int .i64 0, .int .i64 0, .int .i64 0, .int .i64 2, .int .i64 0, .int .i64 1, .int .i64 0, .int .i64 5] := by rw [← hW]; exact (((Blk.new w _ _).on (below1 _ _)).on (below1 _ _)).on (below1 _ _)
  have N1 : Blk W (w.heap.size + 1) 35 #[.int .i64 2, .int .i64 0, .int .i64 0, .int .i64 1, .int .i64 5] := by rw [← hW]; exact ((Blk.new2 w _ _ _).on (below1 _ _)).on (below1 _ _)
  have N2 : Blk W (w.heap.size + 1 + 1) 33 #[.slice (some ⟨w.heap.size, 0, none⟩) 2 2, .slice (some ⟨w.heap.size + 1, 0, none⟩) 1 1] := by rw [← hW]; exact (Blk.new3 w _ _ _ _).on (below1 _ _)
  have N3 : Blk W (w.heap.size + 1 + 1 + 1) 24 #[.slice (some ⟨w.heap.size + 1 + 1, 0, none⟩) 2 2] := by
    rw [← hW]
    have h := Blk.new (((w.alloc (.cells #[.int .i64 1, .int .i64 0, .int .i64 0, .int .i64 0, .int .i64 0, .int .i64 2, .int .i64 0, .int .i64 1, .int .i64 0, .int .i64 5] 35)).alloc (.cells #[.int .i64 2, .int .i64 0, .int .i64 0, .int .i64 1, .int .i64 5] 35)).alloc (.cells #[.slice (some ⟨w.heap.size, 0, none⟩) 2 2, .slice (some ⟨w.heap.size + 1, 0, none⟩) 1 1] 33)) 24 #[.slice (some ⟨w.heap.size + 1 + 1, 0, none⟩) 2 2]
    have e : (((w.alloc (.cells #[.int .i64 1, .int .i64 0, .int .i64 0, .int .i64 0, .int .i64 0, .int .i64 2, .int .i64 0, .int .i64 1, .int .i64 0, .int .i64 5] 35)).alloc (.cells #[.int .i64 2, .int .i64 0, .int .i64 0, .int .i64 1, .int .i64 5] 35)).alloc (.cells #[.slice (some ⟨w.heap.size, 0, none⟩) 2 2, .slice (some ⟨w.heap.size + 1, 0, none⟩) 1 1] 33)).heap.size = w.heap.size + 1 + 1 + 1 := by simp
    rw [e] at h
    exact h
  have P0 : Ps W (.slice (some ⟨w.heap.size, 0, none⟩) 2 2) [⟨1, 0, 0, 0, 0⟩, ⟨2, 0, 1, 0, 5⟩] := by
    refine ⟨_, 2, rfl, by decide, fun _ => ⟨_, 0, rfl, N0.lt, fun k p hp => ?_⟩⟩
    have hi : k < 2 := (List.getElem?_eq_some_iff.1 hp).1
    rcases (show k = 0 ∨ k = 1 by omega) with rfl | rfl
    · injection hp with hp; subst hp; exact ⟨(N0.cell _).trans rfl, (N0.cell _).trans rfl, (N0.cell _).trans rfl, (N0.cell _).trans rfl, (N0.cell _).trans rfl⟩
    · injection hp with hp; subst hp; exact ⟨(N0.cell _).trans rfl, (N0.cell _).trans rfl, (N0.cell _).trans rfl, (N0.cell _).trans rfl, (N0.cell _).trans rfl⟩
  have P1 : Ps W (.slice (some ⟨w.heap.size + 1, 0, none⟩) 1 1) [⟨2, 0, 0, 1, 5⟩] := by
    refine ⟨_, 1, rfl, by decide, fun _ => ⟨_, 0, rfl, N1.lt, fun k p hp => ?_⟩⟩
    have hi : k < 1 := (List.getElem?_eq_some_iff.1 hp).1
    obtain rfl : k = 0 := by omega
    injection hp with hp; subst hp; exact ⟨(N1.cell _).trans rfl, (N1.cell _).trans rfl, (N1.cell _).trans rfl, (N1.cell _).trans rfl, (N1.cell _).trans rfl⟩
  have HT : Hid (PsT W (.slice (some ⟨w.heap.size + 1 + 1, 0, none⟩) 2 2) T7) := by
    refine ⟨_, 2, rfl, by decide, fun _ => ⟨_, 0, rfl, N2.lt, fun k L hL => ?_⟩⟩
    have hi : k < 2 := (List.getElem?_eq_some_iff.1 hL).1
    rcases (show k = 0 ∨ k = 1 by omega) with rfl | rfl
    · injection hL with hL; subst hL; exact ⟨_, (N2.cell _).trans rfl, P0⟩
    · injection hL with hL; subst hL; exact ⟨_, (N2.cell _).trans rfl, P1⟩
  have HB := Lib.hid B0
  have HN := Lib.hid N3
  have HW := Lib.hid hW
  clear P0 P1 N0 N1 N2 N3 B0 hW
  go_enter Try.func13, Try.ntmps13
  go_wp2_with fail
  rw [HW.out]
  (with_reducible refine (far_c _ T7 0 _ HT.out).mono ?_)
  rintro e w1 h1
  rcases h1 with ⟨hz, _⟩ | ⟨_, n, v, hn, _, rfl, hv, hb1⟩
  · exact absurd (strT_nat (a := 0) T7_sound (by decide)) hz
  obtain rfl : n = 0 := by omega
  obtain ⟨fb, fc, rfl, hfl, hfc⟩ := hv
  have c1 := hfc 1 _ (farL_get T7 0 (by decide))
  rw [T7_far] at c1
  rw [show (farL T7 0).length = 2 from farL_len T7 0]
  have HB1 := Lib.hid (HB.out.trans (hb1.mono HB.out.size))
  have HN1 := Lib.hid (HN.out.on hb1)
  have HT1 := Lib.hid (HT.out.on hb1)
  have d1 := HN1.out.one
  have HC1 := Lib.hid c1
  clear hfc hn HB HN HT HW hb1 c1
  go_wp2_with fail
  (with_reducible refine (next_c _ T7 1 0 _ HT1.out).mono ?_)
  rintro e w2 ⟨hb2, h2⟩
  obtain rfl : e = .returned (.tuple #[.int .i64 0, .int .i64 0]) := by
    have hs1 : strT T7 1 = 0 := strT_nat (a := 1) T7_sound (by decide)
    rcases h2 with ⟨hz, _⟩ | ⟨_, hz, _⟩ | ⟨_, _, hz, _⟩ | ⟨n, m, _, hn, hm, _, _, _, ⟨hz, _⟩ | ⟨_, i, hi, he⟩⟩
    · exact absurd hs1 hz
    · cases hz
    · cases hz
    · obtain rfl : n = 1 := by omega
      obtain rfl : m = 0 := by omega
      rw [T7_far] at hz
      cases hz
    · obtain rfl : n = 1 := by omega
      obtain rfl : m = 0 := by omega
      obtain rfl := T7_next hi
      exact he
  have HB2 := Lib.hid (HB1.out.trans (hb2.mono HB1.out.size))
  have HN2 := Lib.hid (HN1.out.on hb2)
  have HT2 := Lib.hid (HT1.out.on hb2)
  have HC2 := Lib.hid (on_some hb2 HC1.out)
  have d2 := HN2.out.one
  clear h2 hb2 HB1 HN1 HT1 HC1 d1
  go_wp2_with fail
  (with_reducible refine (other_c _ T7 0 1 _ HT2.out).mono ?_)
  rintro e w3 ⟨h3, hb3⟩
  rw [T7_other] at h3
  simp only at h3
  subst h3
  have hb4 := below1 w3 (.cells #[.int .i64 1, .int .i64 0] 26)
  have HB4 := Lib.hid ((HB2.out.trans (hb3.mono HB2.out.size)).trans (hb4.mono (Nat.le_trans HB2.out.size hb3.size)))
  have HN4 := Lib.hid ((HN2.out.on hb3).on hb4)
  have HT4 := Lib.hid ((HT2.out.on hb3).on hb4)
  have HC4 := Lib.hid (on_some hb4 (on_some hb3 HC2.out))
  have NS : Hid (Blk (w3.alloc (.cells #[.int .i64 1, .int .i64 0] 26)) w3.heap.size 26 #[.int .i64 1, .int .i64 0]) := Blk.new w3 _ _
  have d4 := HN4.out.one
  clear hb3 hb4 HB2 HN2 HT2 HC2 d2
  go_wp2_with fail
  (with_reducible refine (tpsound_c _ T7 _ HT4.out).mono ?_)
  rintro e w5 ⟨rfl, hb5⟩
  rw [T7_sound]
  have HB5 := Lib.hid (HB4.out.trans (hb5.mono HB4.out.size))
  have HT5 := Lib.hid (HT4.out.on hb5)
  have c5 := on_some hb5 HC4.out
  have d5 := (HN4.out.on hb5).one
  obtain ⟨s0, s1⟩ := (NS.out.on hb5).two
  clear hb5 HB4 HN4 HT4 HC4 NS d4
  go_wp2_with fail
  (with_reducible refine (edges_c _ T7 _ HT5.out T7_ports).mono ?_)
  rintro e w6 ⟨v6, rfl, O6, hb6⟩
  rw [T7_edges] at O6
  obtain ⟨A6, k6, rfl⟩ : ∃ A6 k6, v6 = .slice A6 1 k6 := by
    rcases O6.2 with ⟨_, h⟩ | ⟨g, cp, cur, rfl, _⟩
    · cases h
    · exact ⟨_, _, rfl⟩
  have HB6 := Lib.hid (HB5.out.trans (hb6.mono HB5.out.size))
  clear O6 hb6 HB5 HT5 c5 d5 s0 s1
  go_wp2
  go_ret
  exact ⟨rfl, HB6.out⟩
end Go.Proofs
