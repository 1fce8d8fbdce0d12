/-
  Plain facts on worlds: blocks known whole, rows that a call owns, appending what lies anywhere to such a row. No program in sight. No conditions.
  Contracts of package cube: Sound, Has, Make, All, Set, agree, withBit: what they return, and that they change nothing that was there. No conditions.
  Rules in memory, as rows of twelve cells; equality of two rules; contracts of package rule: the order's method, Same, Before, Set. No conditions.
  Plain mathematics of a stable sort by insertion and symmetric merging (as package slices does it): rows of elements that bear tags, the order by 'lt' and, where neither is less, by tags. No program in sight. No conditions.
  slices.SortStableFunc's family over elements of several cells: what a program must bear (StL), and the contract of slices.swapRangeCmpFunc. Conditions as each theorem lists them.
  The contract of slices.rotateCmpFunc. Conditions as the theorem lists them.
  The contract of slices.symMergeCmpFunc where one of the runs is a single element. Conditions as the theorems list them.
-/
import Derived.Test.YtkbeppknmdejnaaJ1
import Derived.Deep.AppendLies
import Derived.Laws.OwnMore
import Derived.OneCell
import Derived.Deep.Onto
import Derived.Maps.AppendAt
import Derived.Laws.AppendOwnNone
import Derived.BigFrame
import Derived.Lib.AppendStr
import Derived.Lib.AppendZeros
import Derived.Deep.RegionHeld3
import Derived.Sort.LotA
import Derived.Test.YtkbeppknmdejnaaProg
import Derived.Shelf.SlSortCmp.KitK
import Derived.Sort.WalkB2
import Derived.Sort.WalkB12
import Derived.Deep.LoopGhost
namespace Go.Proofs
open Go.RowKit
theorem below1 (w : World) (o : Obj) : Below w.heap.size w (w.alloc o) := (Below.refl _ _).alloc (Nat.le_refl _) _
theorem below2 (w : World) (o p : Obj) : Below w.heap.size w ((w.alloc o).alloc p) := (below1 w o).alloc (by simp) _
theorem below3 (w : World) (o p q : Obj) : Below w.heap.size w (((w.alloc o).alloc p).alloc q) := (below2 w o p).alloc (by simp; omega) _
theorem below4 (w : World) (o p q r : Obj) : Below w.heap.size w ((((w.alloc o).alloc p).alloc q).alloc r) := (below3 w o p q).alloc (by simp; omega) _
end Go.Proofs
namespace Go.Proofs.Hd
open Go.RowKit
theorem grown_of_below {w w' : World} (hb : Below w.heap.size w w') (row : Option Nat) : w.grownBy w' row := ⟨hb.os, hb.tape, hb.output, hb.size, fun k hk _ => hb.block k hk⟩
theorem own_on {w w' : World} {base : Nat} {e : TypeId} {size : Nat} {v : Value} {n : Nat} {xs : List Value} (h : w.ownsRow base e size v n xs) (hb : Below w.heap.size w w') : w'.ownsRow base e size v n xs := by
  refine h.kept (grown_of_below hb none) ?_
  cases v.ownBlock with
  | none => exact .inl rfl
  | some k => exact .inr (by simp)
/-- Block g is just these cells, and may be written. -/
def Blk (w : World) (g : Nat) (t : TypeId) (cs : Array Value) : Prop := w.heap[g]? = some (.cells cs t (0, 0))
theorem Blk.lt {w : World} {g : Nat} {t : TypeId} {cs : Array Value} (h : Blk w g t cs) : g < w.heap.size := by
  rcases Nat.lt_or_ge g w.heap.size with hlt | hge
  · exact hlt
  · unfold Blk at h; rw [Array.getElem?_eq_none hge] at h; cases h
theorem Blk.cell {w : World} {g : Nat} {t : TypeId} {cs : Array Value} (h : Blk w g t cs) (i : Nat) : w.cell? ⟨g, i, none⟩ = cs[i]? := cell_of_row w g i cs t (0, 0) h
theorem Blk.free {w : World} {g : Nat} {t : TypeId} {cs : Array Value} (h : Blk w g t cs) (i : Nat) : w.frozen? ⟨g, i, none⟩ = false := by
  unfold Blk at h; simp [World.frozen?, h]
theorem Blk.on {w w' : World} {g : Nat} {t : TypeId} {cs : Array Value} (h : Blk w g t cs) (hb : Below w.heap.size w w') : Blk w' g t cs := (hb.block g h.lt).trans h
theorem Blk.new (w : World) (t : TypeId) (cs : Array Value) : Blk (w.alloc (.cells cs t)) w.heap.size t cs := heap_alloc_new w _
theorem Blk.far {w : World} {g : Nat} {t : TypeId} {cs : Array Value} (h : Blk w g t cs) {p : Addr} (hp : g ≠ p.block) (u : Value) : Blk (w.setCell p u) g t cs := (Below.heap_setCell w p u g hp).trans h
theorem Blk.set {w : World} {g : Nat} {t : TypeId} {cs : Array Value} (h : Blk w g t cs) (i : Nat) (u : Value) : Blk (w.setCell ⟨g, i, none⟩ u) g t (cs.setIfInBounds i u) := by
  unfold Blk at h ⊢; simp [World.setCell, Array.getElem?_modify, h]
theorem Blk.grown {w w' : World} {g : Nat} {t : TypeId} {cs : Array Value} {row : Option Nat} (h : Blk w g t cs) (hb : w.grownBy w' row) (hg : some g ≠ row) : Blk w' g t cs := (hb.block g h.lt hg).trans h
/-- A row that is owned and a block of another element type are apart. -/
theorem own_apart {w : World} {base : Nat} {e t : TypeId} {size n g : Nat} {v : Value} {xs : List Value} {cs : Array Value} (h : w.ownsRow base e size v n xs) (hg : Blk w g t cs) (hne : e ≠ t) : some g ≠ v.ownBlock := by
  rcases h.2 with ⟨rfl, _⟩ | ⟨g', cap, cur, rfl, _, hh, _⟩
  · simp [Value.ownBlock]
  · intro he
    have e1 : g = g' := by simpa [Value.ownBlock] using he
    subst e1
    unfold Blk at hg
    rw [hh] at hg
    injection hg with hg
    injection hg with _ ht
    exact hne ht
theorem own_base {w : World} {base : Nat} {e : TypeId} {size n g : Nat} {v : Value} {xs : List Value} (h : w.ownsRow base e size v n xs) (hg : g < base) : some g ≠ v.ownBlock := by
  intro he
  have := (h.lt g he.symm).1
  omega
/-- Block g holds cells of type t. -/
def TB (w : World) (g : Nat) (t : TypeId) : Prop := ∃ cs fr, w.heap[g]? = some (.cells cs t fr)
theorem TB.lt {w : World} {g : Nat} {t : TypeId} (h : TB w g t) : g < w.heap.size := by
  obtain ⟨cs, fr, h⟩ := h
  rcases Nat.lt_or_ge g w.heap.size with hlt | hge
  · exact hlt
  · rw [Array.getElem?_eq_none hge] at h; cases h
theorem TB.on {w w' : World} {g : Nat} {t : TypeId} (h : TB w g t) (hb : Below w.heap.size w w') : TB w' g t := by
  obtain ⟨cs, fr, e⟩ := h
  exact ⟨cs, fr, (hb.block g (TB.lt ⟨cs, fr, e⟩)).trans e⟩
theorem TB.grown {w w' : World} {g : Nat} {t : TypeId} {row : Option Nat} (h : TB w g t) (hb : w.grownBy w' row) (hg : some g ≠ row) : TB w' g t := by
  obtain ⟨cs, fr, e⟩ := h
  exact ⟨cs, fr, (hb.block g (TB.lt ⟨cs, fr, e⟩) hg).trans e⟩
theorem TB.set {w : World} {g i : Nat} {t : TypeId} {v : Value} (h : TB w g t) : TB (w.setCell ⟨g, i, none⟩ v) g t := by
  obtain ⟨cs, fr, e⟩ := h
  refine ⟨cs.setIfInBounds i v, fr, ?_⟩
  simp [World.setCell, Array.getElem?_modify, e]
theorem own_apartT {w : World} {base : Nat} {e t : TypeId} {size n g : Nat} {v : Value} {xs : List Value} (h : w.ownsRow base e size v n xs) (hg : TB w g t) (hne : e ≠ t) : some g ≠ v.ownBlock := by
  rcases h.2 with ⟨rfl, _⟩ | ⟨g', cap, cur, rfl, _, hh, _⟩
  · simp [Value.ownBlock]
  · intro he
    have e1 : g = g' := by simpa [Value.ownBlock] using he
    subst e1
    obtain ⟨cs, fr, hg⟩ := hg
    rw [hh] at hg
    injection hg with hg
    injection hg with _ ht
    exact hne ht
/-- v is a slice of m elements of 'size' cells each that reads as the cells 'news'. -/
def Src (w : World) (size : Nat) (v : Value) (m : Nat) (news : List Value) : Prop :=
  news.length = m * size ∧ (∀ u ∈ news, u.oneCell' = true) ∧ ((m = 0 ∧ ∃ c, v = .slice none 0 c) ∨ ∃ ad c, v = .slice (some ad) m c ∧ ∀ (j : Nat) (u : Value), news[j]? = some u → w.cell? (ad.add j) = some u)
section
variable {P : Program} (w : World)
theorem run_app (base : Nat) (t ty e : TypeId) (i : TypeInfo) (z : Value) (size bytes : Nat) (ht : P.underlying t = some (.slice e)) (hi : P.info? e = some i) (hz : i.zero = some z)
    (hsize : i.size = size) (hby : i.bytes = bytes) (hzs : z.cells.size = size) (hsz : 0 < size) (v : Value) (n : Nat) (xs : List Value) (hown : w.ownsRow base e size v n xs)
    (x : Value) (m : Nat) (news : List Value) (hx : Src w size x m news) (h63 : n + m ≤ maxLen) (hbytes : (n + m) * bytes ≤ 140737488355328) (hbase : base ≤ w.heap.size) :
    ∃ v' w', (Builtin.append_ #[t, t] ty #[v, x]).run P w = .ok v' w' ∧ w'.ownsRow base e size v' (n + m) (xs ++ news) ∧ w.grownBy w' v.ownBlock := by
  obtain ⟨hl, h1, ⟨rfl, c, rfl⟩ | ⟨ad, c, rfl, hc⟩⟩ := hx
  · obtain rfl : news = [] := List.eq_nil_of_length_eq_zero (by simpa using hl)
    refine ⟨v, w, ?_, by simpa using hown, World.grownBy.refl w _⟩
    rcases hown.2 with ⟨rfl, rfl⟩ | ⟨g, cap, cur, rfl, _, _, hnc, _⟩
    · simp [Builtin.append_, run_underlying ht, sizeOf, typeInfo, hi, Builtin.lenOf, Builtin.firstCells]
    · simp [Builtin.append_, run_underlying ht, sizeOf, typeInfo, hi, Builtin.lenOf, Builtin.firstCells, hnc, storeCells]
  · obtain ⟨v', w', hr, h2, h3, _, _⟩ := run_append_own_at (P := P) w base t ty e i z size bytes ht hi hz hsize hby hzs hsz v n xs hown ad m c news hl hc h1 h63 hbytes hbase
    exact ⟨v', w', hr, h2, h3⟩
theorem wp_app {o : Oper} {a : Act} {K : Act → World → Prop} {Q : Exit → Act → World → Prop} (s x : Operand) (t : TypeId)
    (ho : o.op = .call { callee := .builtin .append, args := #[s, x], argTypes := #[t, t] }) (base : Nat) (e : TypeId) (i : TypeInfo) (z : Value) (size bytes : Nat) (ht : P.underlying t = some (.slice e)) (hi : P.info? e = some i) (hz : i.zero = some z)
    (hsize : i.size = size) (hby : i.bytes = bytes) (hzs : z.cells.size = size) (hsz : 0 < size) (v : Value) (n : Nat) (xs : List Value) (hs : a.eval s = v) (hown : w.ownsRow base e size v n xs)
    (y : Value) (m : Nat) (news : List Value) (hy : a.eval x = y) (hx : Src w size y m news) (h63 : n + m ≤ maxLen) (hbytes : (n + m) * bytes ≤ 140737488355328) (hbase : base ≤ w.heap.size)
    (h : ∀ v' w', w'.ownsRow base e size v' (n + m) (xs ++ news) → w.grownBy w' v.ownBlock → K (a.put o.dst v') w') : o.wp P a w K Q := by
  obtain ⟨v', w', hr, h2, h3⟩ := run_app (P := P) w base t o.type e i z size bytes ht hi hz hsize hby hzs hsz v n xs hown y m news hx h63 hbytes hbase
  exact Lib.wp_append_run w s x t t ho v y hs hy v' w' hr (h v' w' h2 h3)
theorem wpList_app {ops : Array Oper} {rest : List Oper} {o : Oper} {a : Act} {Q : Exit → Act → World → Prop} (hgd : o.guard = none) (s x : Operand) (t : TypeId)
    (ho : o.op = .call { callee := .builtin .append, args := #[s, x], argTypes := #[t, t] }) (base : Nat) (e : TypeId) (i : TypeInfo) (z : Value) (size bytes : Nat) (ht : P.underlying t = some (.slice e)) (hi : P.info? e = some i) (hz : i.zero = some z)
    (hsize : i.size = size) (hby : i.bytes = bytes) (hzs : z.cells.size = size) (hsz : 0 < size) (v : Value) (n : Nat) (xs : List Value) (hs : a.eval s = v) (hown : w.ownsRow base e size v n xs)
    (y : Value) (m : Nat) (news : List Value) (hy : a.eval x = y) (hx : Src w size y m news) (h63 : n + m ≤ maxLen) (hbytes : (n + m) * bytes ≤ 140737488355328) (hbase : base ≤ w.heap.size)
    (h : ∀ v' w', w'.ownsRow base e size v' (n + m) (xs ++ news) → w.grownBy w' v.ownBlock → wpList P ops Q rest (a.put o.dst v') w') : wpList P ops Q (o :: rest) a w :=
  wpList_plain hgd fun _ hK => wp_app w s x t ho base e i z size bytes ht hi hz hsize hby hzs hsz v n xs hs hown y m news hy hx h63 hbytes hbase fun v' w' h2 h3 => hK _ _ (h v' w' h2 h3)
end
section
variable {P : Program} (w : World)
theorem step_app {ops : Array Oper} {o : Oper} {a : Act} {K : Act → World → Prop} {Q : Exit → Act → World → Prop} {E : Prop} (hgd : o.guard = none) (s x : Operand) (t : TypeId)
    (ho : o.op = .call { callee := .builtin .append, args := #[s, x], argTypes := #[t, t] }) (base : Nat) (e : TypeId) (i : TypeInfo) (z : Value) (size bytes : Nat) (ht : P.underlying t = some (.slice e)) (hi : P.info? e = some i) (hz : i.zero = some z)
    (hsize : i.size = size) (hby : i.bytes = bytes) (hzs : z.cells.size = size) (hsz : 0 < size) (v : Value) (n : Nat) (xs : List Value) (hs : a.eval s = v) (hown : w.ownsRow base e size v n xs)
    (y : Value) (m : Nat) (news : List Value) (hy : a.eval x = y) (hx : Src w size y m news) (h63 : n + m ≤ maxLen) (hbytes : (n + m) * bytes ≤ 140737488355328) (hbase : base ≤ w.heap.size)
    (h : ∀ v' w', w'.ownsRow base e size v' (n + m) (xs ++ news) → w.grownBy w' v.ownBlock → K (a.put o.dst v') w') :
    if Region.wanted o (yielded ops a.tmps) = true then Oper.wp P o a w K Q else E := by
  have hw : Region.wanted o (yielded ops a.tmps) = true := by simp [Region.wanted, hgd]
  rw [if_pos hw]
  exact wp_app w s x t ho base e i z size bytes ht hi hz hsize hby hzs hsz v n xs hs hown y m news hy hx h63 hbytes hbase h
end
theorem wpList_appW {P : Program} (w : World) {ops : Array Oper} {rest : List Oper} {o : Oper} {a : Act} {Q : Exit → Act → World → Prop} (hw : Region.wanted o (yielded ops a.tmps) = true) (s x : Operand) (t : TypeId)
    (ho : o.op = .call { callee := .builtin .append, args := #[s, x], argTypes := #[t, t] }) (base : Nat) (e : TypeId) (i : TypeInfo) (z : Value) (size bytes : Nat) (ht : P.underlying t = some (.slice e)) (hi : P.info? e = some i) (hz : i.zero = some z)
    (hsize : i.size = size) (hby : i.bytes = bytes) (hzs : z.cells.size = size) (hsz : 0 < size) (v : Value) (n : Nat) (xs : List Value) (hs : a.eval s = v) (hown : w.ownsRow base e size v n xs)
    (y : Value) (m : Nat) (news : List Value) (hy : a.eval x = y) (hx : Src w size y m news) (h63 : n + m ≤ maxLen) (hbytes : (n + m) * bytes ≤ 140737488355328) (hbase : base ≤ w.heap.size)
    (h : ∀ v' w', w'.ownsRow base e size v' (n + m) (xs ++ news) → w.grownBy w' v.ownBlock → wpList P ops Q rest (a.put o.dst v') w') : wpList P ops Q (o :: rest) a w :=
  BigFrame.wpList_want hw fun _ hK => wp_app w s x t ho base e i z size bytes ht hi hz hsize hby hzs hsz v n xs hs hown y m news hy hx h63 hbytes hbase fun v' w' h2 h3 => hK _ _ (h v' w' h2 h3)
end Go.Proofs.Hd

namespace Go.Proofs
open Go.RowKit Go.Proofs.Hd
attribute [local go_sem] uv_and uv_or uv_xor uv_andNot uv_shr uv_shl uv_add uv_sub uv_nonneg

theorem run_eq2 (w : World) (a b c d : Int) : (Op.equalIn 10000 24 (.agg #[.int .u64 a, .int .u64 b]) (.agg #[.int .u64 c, .int .u64 d])).run Try.prog w = .ok (eq2 a b c d) w := by
  unfold eq2
  cases h1 : a == c <;> cases h2 : b == d <;> go_simp
theorem run_eq4 (w : World) (a b c d e f g h : Int) : (Op.equalIn 10000 26 (.agg #[.int .u64 a, .int .u64 b, .int .u64 c, .int .u64 d]) (.agg #[.int .u64 e, .int .u64 f, .int .u64 g, .int .u64 h])).run Try.prog w = .ok (eq4 a b c d e f g h) w := by
  unfold eq4
  cases h1 : a == e <;> cases h2 : b == f <;> cases h3 : c == g <;> cases h4 : d == h <;> go_simp
attribute [local go_sem high] run_eq2 run_eq4
theorem zero4_new (w : World) : Zero4 (w.alloc (.cells #[.int .u64 0, .int .u64 0, .int .u64 0, .int .u64 0] 26)) w.heap.size := by
  intro i hi
  rcases (show i = 0 ∨ i = 1 ∨ i = 2 ∨ i = 3 by omega) with rfl | rfl | rfl | rfl <;> simp
theorem zero2_new (w : World) : Zero2 (w.alloc (.cells #[.int .u64 0, .int .u64 0] 24)) w.heap.size := by
  intro i hi
  rcases (show i = 0 ∨ i = 1 by omega) with rfl | rfl <;> simp
theorem zero4_at (w : World) (r : Nat) (h : r = w.heap.size) : Zero4 (w.alloc (.cells #[.int .u64 0, .int .u64 0, .int .u64 0, .int .u64 0] 26)).drew r := by
  subst h; exact fun i hi => zero4_new w i hi
theorem zero2_at (w : World) (r : Nat) (h : r = w.heap.size) : Zero2 (w.alloc (.cells #[.int .u64 0, .int .u64 0] 24)).drew r := by
  subst h; exact fun i hi => zero2_new w i hi

set_option maxHeartbeats 1000000 in
theorem sound_c (cvh cvl cch ccl : BitVec 64) (w : World) : Calls Try.prog 17 #[.agg #[.int .u64 (uv cvh), .int .u64 (uv cvl), .int .u64 (uv cch), .int .u64 (uv ccl)]] w fun e w' => e = .returned (.bool (sndB cvh cvl cch ccl)) ∧ Below w.heap.size w w' := by
  have S0 := below1 w (.cells #[.int .u64 (uv cvh), .int .u64 (uv cvl), .int .u64 (uv cch), .int .u64 (uv ccl)] 26)
  go_enter Try.func17, Try.ntmps17
  go_wp2_with fail
  go_region_held3 (fun w' => Below w.heap.size w w' ∧ w'.cell? ⟨w.heap.size, 0, none⟩ = some (.int .u64 (uv cvh)) ∧ w'.cell? ⟨w.heap.size, 1, none⟩ = some (.int .u64 (uv cvl)) ∧ w'.cell? ⟨w.heap.size, 2, none⟩ = some (.int .u64 (uv cch)) ∧ w'.cell? ⟨w.heap.size, 3, none⟩ = some (.int .u64 (uv ccl)))
    (first
      | exact hold4 (by assumption) (by assumption)
      | exact ⟨S0.drew, by go_simp, by go_simp, by go_simp, by go_simp⟩)
    (first
      | (go_at_call 25; (with_reducible refine (and_c _ _ _ _ _).mono ?_); rintro e w' ⟨rfl, hb⟩))
  go_wp2
  go_ret
  exact ⟨ret_bool (sndB_eq _ _ _ _), And.left (by assumption)⟩

set_option maxHeartbeats 1000000 in
theorem set_c (hh hl svh svl sch scl : BitVec 64) (w : World) : Calls Try.prog 22 #[.agg #[.int .u64 (uv hh), .int .u64 (uv hl)], .agg #[.int .u64 (uv svh), .int .u64 (uv svl), .int .u64 (uv sch), .int .u64 (uv scl)]] w fun e w' => e = .returned (.agg #[.int .u64 (uv ((hh &&& ~~~sch) ||| (svh &&& sch))), .int .u64 (uv ((hl &&& ~~~scl) ||| (svl &&& scl)))]) ∧ Below w.heap.size w w' := by
  have S0 := below3 w (.cells #[.int .u64 (uv hh), .int .u64 (uv hl)] 24) (.cells #[.int .u64 (uv svh), .int .u64 (uv svl), .int .u64 (uv sch), .int .u64 (uv scl)] 26) (.cells #[.int .u64 0, .int .u64 0] 24)
  have Z0 := zero2_at ((w.alloc (.cells #[.int .u64 (uv hh), .int .u64 (uv hl)] 24)).alloc (.cells #[.int .u64 (uv svh), .int .u64 (uv svl), .int .u64 (uv sch), .int .u64 (uv scl)] 26)) (w.heap.size + 1 + 1) (by simp)
  go_enter Try.func22, Try.ntmps22
  go_wp2_with fail
  go_region_held3 (fun w' => Below w.heap.size w w' ∧ w'.cell? ⟨w.heap.size, 0, none⟩ = some (.int .u64 (uv hh)) ∧ w'.cell? ⟨w.heap.size, 1, none⟩ = some (.int .u64 (uv hl)) ∧ w'.cell? ⟨w.heap.size + 1, 0, none⟩ = some (.int .u64 (uv svh)) ∧ w'.cell? ⟨w.heap.size + 1, 1, none⟩ = some (.int .u64 (uv svl)) ∧ w'.cell? ⟨w.heap.size + 1, 2, none⟩ = some (.int .u64 (uv sch)) ∧ w'.cell? ⟨w.heap.size + 1, 3, none⟩ = some (.int .u64 (uv scl)))
    (first
      | exact hold6 (by assumption) (by assumption)
      | exact shold6 (sets2 _ _ _ _) (by assumption) (by omega) (by first | omega | (simp; done) | (simp; omega)) (by first | omega | (simp; done) | (simp; omega)) (by first | omega | (simp; done) | (simp; omega)) (by first | omega | (simp; done) | (simp; omega)) (by first | omega | (simp; done) | (simp; omega)) (by first | omega | (simp; done) | (simp; omega))
      | exact ⟨S0.drew, by go_simp, by go_simp, by go_simp, by go_simp, by go_simp, by go_simp⟩)
    (first
      | (go_at_call 30; (with_reducible refine (less_c _ _ _ _ _).mono ?_); rintro e w' ⟨rfl, hb⟩; have Z := Zero2.on hb (by assumption); obtain ⟨z0, y0, z1, y1⟩ := Z.out)
      | (go_at_call 25; (with_reducible refine (and_c _ _ _ _ _).mono ?_); rintro e w' ⟨rfl, hb⟩; have Z := Zero2.on hb (by assumption); obtain ⟨z0, y0, z1, y1⟩ := Z.out)
      | (go_at_call 29; (with_reducible refine (or_c _ _ _ _ _).mono ?_); rintro e w' ⟨rfl, hb⟩; have Z := Zero2.on hb (by assumption); obtain ⟨z0, y0, z1, y1⟩ := Z.out))
  go_wp2
  exact bodyPost_ret (v := .agg #[.int .u64 (uv ((hh &&& ~~~sch) ||| (svh &&& sch))), .int .u64 (uv ((hl &&& ~~~scl) ||| (svl &&& scl)))]) (by simp [results, Try.results22, go_sem, z0, z1]) rfl ⟨rfl, And.left (by assumption)⟩

end Go.Proofs

namespace Go.Proofs.Hd
open Go.RowKit
instance : Inhabited Cb := ⟨⟨0#64, 0#64, 0#64, 0#64⟩⟩
/-- A rule: its priority, the two words each of its match's value and care, its kind, port and table, and what it sets. -/
structure Rl where
  pri : Int
  m : Cb
  kind : Int
  port : Int
  tab : Int
  s : Cb
instance : Inhabited Rl := ⟨⟨0, default, 0, 0, 0, default⟩⟩
/-- Its cells. -/
def Rl.cs (r : Rl) : List Value := [.int .i64 r.pri, .int .u64 (uv r.m.vh), .int .u64 (uv r.m.vl), .int .u64 (uv r.m.ch), .int .u64 (uv r.m.cl), .int .i64 r.kind, .int .i64 r.port, .int .i64 r.tab, .int .u64 (uv r.s.vh), .int .u64 (uv r.s.vl), .int .u64 (uv r.s.ch), .int .u64 (uv r.s.cl)]
theorem Rl.cs_len (r : Rl) : r.cs.length = 12 := rfl
theorem Rl.cs_one (r : Rl) : ∀ v ∈ r.cs, v.oneCell' = true := by
  intro v hv
  unfold Rl.cs at hv
  simp only [List.mem_cons, List.not_mem_nil, or_false] at hv
  rcases hv with rfl | rfl | rfl | rfl | rfl | rfl | rfl | rfl | rfl | rfl | rfl | rfl <;> rfl
/-- Are two rules the same? -/
def eqR (a b : Rl) : Bool := (a.pri == b.pri) && ((uv a.m.vh == uv b.m.vh) && ((uv a.m.vl == uv b.m.vl) && ((uv a.m.ch == uv b.m.ch) && ((uv a.m.cl == uv b.m.cl) && ((a.kind == b.kind) && ((a.port == b.port) && ((a.tab == b.tab) && ((uv a.s.vh == uv b.s.vh) && ((uv a.s.vl == uv b.s.vl) && ((uv a.s.ch == uv b.s.ch) && (uv a.s.cl == uv b.s.cl)))))))))))
theorem Cb.ext_uv {a b : Cb} (h1 : uv a.vh = uv b.vh) (h2 : uv a.vl = uv b.vl) (h3 : uv a.ch = uv b.ch) (h4 : uv a.cl = uv b.cl) : a = b := by
  obtain ⟨a1, a2, a3, a4⟩ := a
  obtain ⟨b1, b2, b3, b4⟩ := b
  have e1 := uv_inj h1
  have e2 := uv_inj h2
  have e3 := uv_inj h3
  have e4 := uv_inj h4
  simp only at e1 e2 e3 e4
  subst e1 e2 e3 e4
  rfl
theorem eqR_iff {a b : Rl} : eqR a b = true ↔ a = b := by
  unfold eqR
  simp only [Bool.and_eq_true, beq_iff_eq]
  constructor
  · rintro ⟨h1, h2, h3, h4, h5, h6, h7, h8, h9, h10, h11, h12⟩
    have e1 := Cb.ext_uv h2 h3 h4 h5
    have e2 := Cb.ext_uv h9 h10 h11 h12
    obtain ⟨a1, a2, a3, a4, a5, a6⟩ := a
    obtain ⟨b1, b2, b3, b4, b5, b6⟩ := b
    simp only at h1 h6 h7 h8 e1 e2
    subst h1 h6 h7 h8 e1 e2
    rfl
  · rintro rfl
    simp
theorem eqR_self (a : Rl) : eqR a a = true := eqR_iff.2 rfl
end Go.Proofs.Hd
namespace Go.Proofs
open Go.RowKit Go.Proofs.Hd Go.Sort
attribute [local go_sem] uv_nonneg
set_option maxRecDepth 100000 in
set_option maxHeartbeats 4000000 in
theorem run_eqR (w : World) (a b : Rl) : (Op.equalIn 10000 30 (.agg #[.int .i64 a.pri, .int .u64 (uv a.m.vh), .int .u64 (uv a.m.vl), .int .u64 (uv a.m.ch), .int .u64 (uv a.m.cl), .int .i64 a.kind, .int .i64 a.port, .int .i64 a.tab, .int .u64 (uv a.s.vh), .int .u64 (uv a.s.vl), .int .u64 (uv a.s.ch), .int .u64 (uv a.s.cl)]) (.agg #[.int .i64 b.pri, .int .u64 (uv b.m.vh), .int .u64 (uv b.m.vl), .int .u64 (uv b.m.ch), .int .u64 (uv b.m.cl), .int .i64 b.kind, .int .i64 b.port, .int .i64 b.tab, .int .u64 (uv b.s.vh), .int .u64 (uv b.s.vl), .int .u64 (uv b.s.ch), .int .u64 (uv b.s.cl)])).run Try.prog w = .ok (eqR a b) w := by
  unfold eqR
  cases h1 : a.pri == b.pri
  · go_simp
  cases h2 : uv a.m.vh == uv b.m.vh
  · go_simp
  cases h3 : uv a.m.vl == uv b.m.vl
  · go_simp
  cases h4 : uv a.m.ch == uv b.m.ch
  · go_simp
  cases h5 : uv a.m.cl == uv b.m.cl
  · go_simp
  cases h6 : a.kind == b.kind
  · go_simp
  cases h7 : a.port == b.port
  · go_simp
  cases h8 : a.tab == b.tab
  · go_simp
  cases h9 : uv a.s.vh == uv b.s.vh
  · go_simp
  cases h10 : uv a.s.vl == uv b.s.vl
  · go_simp
  cases h11 : uv a.s.ch == uv b.s.ch
  · go_simp
  cases h12 : uv a.s.cl == uv b.s.cl <;> go_simp
attribute [irreducible] eqR
attribute [local go_sem high] run_eqR
set_option maxRecDepth 100000 in
/-- The order's method: below 0 if the first rule's priority is the greater one. -/
theorem comp_g (a b : Rl) (r : Int) (w : World) (hr : icmp b.pri a.pri = r) : Calls Try.prog 21 #[.agg #[.int .i64 a.pri, .int .u64 (uv a.m.vh), .int .u64 (uv a.m.vl), .int .u64 (uv a.m.ch), .int .u64 (uv a.m.cl), .int .i64 a.kind, .int .i64 a.port, .int .i64 a.tab, .int .u64 (uv a.s.vh), .int .u64 (uv a.s.vl), .int .u64 (uv a.s.ch), .int .u64 (uv a.s.cl)], .agg #[.int .i64 b.pri, .int .u64 (uv b.m.vh), .int .u64 (uv b.m.vl), .int .u64 (uv b.m.ch), .int .u64 (uv b.m.cl), .int .i64 b.kind, .int .i64 b.port, .int .i64 b.tab, .int .u64 (uv b.s.vh), .int .u64 (uv b.s.vl), .int .u64 (uv b.s.ch), .int .u64 (uv b.s.cl)]] w fun e w' => e = .returned (.int .i64 r) ∧ Grew w w' := by
  have G0 : Grew w ((w.alloc (.cells #[.int .i64 a.pri, .int .u64 (uv a.m.vh), .int .u64 (uv a.m.vl), .int .u64 (uv a.m.ch), .int .u64 (uv a.m.cl), .int .i64 a.kind, .int .i64 a.port, .int .i64 a.tab, .int .u64 (uv a.s.vh), .int .u64 (uv a.s.vl), .int .u64 (uv a.s.ch), .int .u64 (uv a.s.cl)] 47)).alloc (.cells #[.int .i64 b.pri, .int .u64 (uv b.m.vh), .int .u64 (uv b.m.vl), .int .u64 (uv b.m.ch), .int .u64 (uv b.m.cl), .int .i64 b.kind, .int .i64 b.port, .int .i64 b.tab, .int .u64 (uv b.s.vh), .int .u64 (uv b.s.vl), .int .u64 (uv b.s.ch), .int .u64 (uv b.s.cl)] 47)) := (Grew.alloc1 _ _).trans (Grew.alloc1 _ _)
  go_enter Try.func21, Try.ntmps21
  go_wp2_with fail
  refine (cmpI_g _ _ r _ hr).mono ?_
  rintro e w' ⟨rfl, hb⟩
  have G := G0.trans hb
  clear G0 hb
  go_wp2
  go_ret
  exact ⟨rfl, G⟩
set_option maxRecDepth 100000 in
theorem same_r (a b : Rl) (x : Bool) (w : World) (hx : eqR a b = x) : Calls Try.prog 15 #[.agg #[.int .i64 a.pri, .int .u64 (uv a.m.vh), .int .u64 (uv a.m.vl), .int .u64 (uv a.m.ch), .int .u64 (uv a.m.cl), .int .i64 a.kind, .int .i64 a.port, .int .i64 a.tab, .int .u64 (uv a.s.vh), .int .u64 (uv a.s.vl), .int .u64 (uv a.s.ch), .int .u64 (uv a.s.cl)], .agg #[.int .i64 b.pri, .int .u64 (uv b.m.vh), .int .u64 (uv b.m.vl), .int .u64 (uv b.m.ch), .int .u64 (uv b.m.cl), .int .i64 b.kind, .int .i64 b.port, .int .i64 b.tab, .int .u64 (uv b.s.vh), .int .u64 (uv b.s.vl), .int .u64 (uv b.s.ch), .int .u64 (uv b.s.cl)]] w fun e w' => e = .returned (.bool x) ∧ Below w.heap.size w w' := by
  have B0 := below2 w (.cells #[.int .i64 a.pri, .int .u64 (uv a.m.vh), .int .u64 (uv a.m.vl), .int .u64 (uv a.m.ch), .int .u64 (uv a.m.cl), .int .i64 a.kind, .int .i64 a.port, .int .i64 a.tab, .int .u64 (uv a.s.vh), .int .u64 (uv a.s.vl), .int .u64 (uv a.s.ch), .int .u64 (uv a.s.cl)] 30) (.cells #[.int .i64 b.pri, .int .u64 (uv b.m.vh), .int .u64 (uv b.m.vl), .int .u64 (uv b.m.ch), .int .u64 (uv b.m.cl), .int .i64 b.kind, .int .i64 b.port, .int .i64 b.tab, .int .u64 (uv b.s.vh), .int .u64 (uv b.s.vl), .int .u64 (uv b.s.ch), .int .u64 (uv b.s.cl)] 30)
  go_enter Try.func15, Try.ntmps15
  go_wp2
  go_ret
  exact ⟨rfl, B0⟩
set_option maxRecDepth 100000 in
theorem before_r (a b : Rl) (x : Bool) (w : World) (hx : decide (b.pri < a.pri) = x) : Calls Try.prog 16 #[.agg #[.int .i64 a.pri, .int .u64 (uv a.m.vh), .int .u64 (uv a.m.vl), .int .u64 (uv a.m.ch), .int .u64 (uv a.m.cl), .int .i64 a.kind, .int .i64 a.port, .int .i64 a.tab, .int .u64 (uv a.s.vh), .int .u64 (uv a.s.vl), .int .u64 (uv a.s.ch), .int .u64 (uv a.s.cl)], .agg #[.int .i64 b.pri, .int .u64 (uv b.m.vh), .int .u64 (uv b.m.vl), .int .u64 (uv b.m.ch), .int .u64 (uv b.m.cl), .int .i64 b.kind, .int .i64 b.port, .int .i64 b.tab, .int .u64 (uv b.s.vh), .int .u64 (uv b.s.vl), .int .u64 (uv b.s.ch), .int .u64 (uv b.s.cl)]] w fun e w' => e = .returned (.bool x) ∧ Below w.heap.size w w' := by
  have B0 := below2 w (.cells #[.int .i64 a.pri, .int .u64 (uv a.m.vh), .int .u64 (uv a.m.vl), .int .u64 (uv a.m.ch), .int .u64 (uv a.m.cl), .int .i64 a.kind, .int .i64 a.port, .int .i64 a.tab, .int .u64 (uv a.s.vh), .int .u64 (uv a.s.vl), .int .u64 (uv a.s.ch), .int .u64 (uv a.s.cl)] 30) (.cells #[.int .i64 b.pri, .int .u64 (uv b.m.vh), .int .u64 (uv b.m.vl), .int .u64 (uv b.m.ch), .int .u64 (uv b.m.cl), .int .i64 b.kind, .int .i64 b.port, .int .i64 b.tab, .int .u64 (uv b.s.vh), .int .u64 (uv b.s.vl), .int .u64 (uv b.s.ch), .int .u64 (uv b.s.cl)] 30)
  obtain ⟨r, hr⟩ : ∃ r, icmp b.pri a.pri = r := ⟨_, rfl⟩
  have hrx : decide (r < 0) = x := by
    rw [← hx, ← hr]
    unfold icmp
    by_cases h1 : b.pri < a.pri
    · rw [if_pos h1]; simp [h1]
    · rw [if_neg h1]; by_cases h2 : a.pri < b.pri <;> simp [h1, h2]
  clear hx
  go_enter Try.func16, Try.ntmps16
  go_wp2_with fail
  refine (comp_g a b r _ hr).mono ?_
  rintro e w' ⟨rfl, hb⟩
  have B := B0.trans (hb.below.mono B0.size)
  clear B0 hb
  go_wp2
  go_ret
  exact ⟨by subst hrx; rfl, B⟩
set_option maxRecDepth 100000 in
set_option maxHeartbeats 1000000 in
theorem rset_r (r : Rl) (hh hl : BitVec 64) (w : World) : Calls Try.prog 13 #[.agg #[.int .i64 r.pri, .int .u64 (uv r.m.vh), .int .u64 (uv r.m.vl), .int .u64 (uv r.m.ch), .int .u64 (uv r.m.cl), .int .i64 r.kind, .int .i64 r.port, .int .i64 r.tab, .int .u64 (uv r.s.vh), .int .u64 (uv r.s.vl), .int .u64 (uv r.s.ch), .int .u64 (uv r.s.cl)], .agg #[.int .u64 (uv hh), .int .u64 (uv hl)]] w fun e w' => e = .returned (.agg #[.int .u64 (uv ((hh &&& ~~~r.s.ch) ||| (r.s.vh &&& r.s.ch))), .int .u64 (uv ((hl &&& ~~~r.s.cl) ||| (r.s.vl &&& r.s.cl)))]) ∧ Below w.heap.size w w' := by
  have B0 := below3 w (.cells #[.int .i64 r.pri, .int .u64 (uv r.m.vh), .int .u64 (uv r.m.vl), .int .u64 (uv r.m.ch), .int .u64 (uv r.m.cl), .int .i64 r.kind, .int .i64 r.port, .int .i64 r.tab, .int .u64 (uv r.s.vh), .int .u64 (uv r.s.vl), .int .u64 (uv r.s.ch), .int .u64 (uv r.s.cl)] 30) (.cells #[.int .u64 (uv hh), .int .u64 (uv hl)] 24) (.cells #[.int .u64 0, .int .u64 0] 24)
  have Z0 := zero2_new ((w.alloc (.cells #[.int .i64 r.pri, .int .u64 (uv r.m.vh), .int .u64 (uv r.m.vl), .int .u64 (uv r.m.ch), .int .u64 (uv r.m.cl), .int .i64 r.kind, .int .i64 r.port, .int .i64 r.tab, .int .u64 (uv r.s.vh), .int .u64 (uv r.s.vl), .int .u64 (uv r.s.ch), .int .u64 (uv r.s.cl)] 30)).alloc (.cells #[.int .u64 (uv hh), .int .u64 (uv hl)] 24))
  go_enter Try.func13, Try.ntmps13
  go_wp2_with fail
  refine (set_c _ _ _ _ _ _ _).mono ?_
  rintro e w' ⟨rfl, hb⟩
  have B := B0.trans (hb.mono B0.size)
  have Z := Zero2.on hb Z0
  obtain ⟨z0, y0, z1, y1⟩ := Z.out
  have hz : (w.heap.size + 1 + 1) < w'.heap.size := by have := World.block_lt_of_cell? w' _ z0; simpa using this
  clear B0 hb
  simp at z0 y0 z1 y1
  go_wp2
  exact bodyPost_ret (v := .agg #[.int .u64 (uv ((hh &&& ~~~r.s.ch) ||| (r.s.vh &&& r.s.ch))), .int .u64 (uv ((hl &&& ~~~r.s.cl) ||| (r.s.vl &&& r.s.cl)))]) (by simp [results, Try.results13, go_sem, z0, z1]) rfl ⟨rfl, (B.setCell (by simp; omega) _).setCell (by simp; omega) _⟩
end Go.Proofs

namespace Go.Proofs.Hd
open Go.Sort
variable {α : Type}
/-- The order of a stable sort: by lt, and by tags where neither is less. -/
def tlB (lt : α → α → Bool) (tg : α → Nat) (x y : α) : Bool := lt x y || (!lt y x && decide (tg x < tg y))
variable {lt : α → α → Bool} {tg : α → Nat}
theorem tlB_false {x y : α} : tlB lt tg x y = false ↔ lt x y = false ∧ (lt y x = true ∨ tg y ≤ tg x) := by
  unfold tlB
  cases lt x y <;> cases lt y x <;> simp
theorem tlB_true {x y : α} : tlB lt tg x y = true ↔ lt x y = true ∨ (lt y x = false ∧ tg x < tg y) := by
  unfold tlB
  cases lt x y <;> cases lt y x <;> simp
theorem swo_tlB (h : SWO lt) (tg : α → Nat) : SWO (tlB lt tg) where
  irrefl x := by rw [tlB_false]; exact ⟨h.irrefl x, .inr (Nat.le_refl _)⟩
  trans x y z h1 h2 := by
    rw [tlB_true] at *
    rcases h1 with h1 | ⟨h1, t1⟩ <;> rcases h2 with h2 | ⟨h2, t2⟩
    · exact .inl (h.trans _ _ _ h1 h2)
    · left
      cases e : lt x z with
      | true => rfl
      | false => rw [h.ntrans _ _ _ e h2] at h1; cases h1
    · left
      cases e : lt x z with
      | true => rfl
      | false => rw [h.ntrans _ _ _ h1 e] at h2; cases h2
    · exact .inr ⟨h.ntrans _ _ _ h2 h1, Nat.lt_trans t1 t2⟩
  ntrans x y z h1 h2 := by
    rw [tlB_false] at *
    obtain ⟨h1, t1⟩ := h1
    obtain ⟨h2, t2⟩ := h2
    refine ⟨h.ntrans _ _ _ h1 h2, ?_⟩
    cases e : lt z x with
    | true => exact .inl rfl
    | false =>
      right
      rcases t1 with t1 | t1
      · rw [h.ntrans _ _ _ h2 e] at t1; cases t1
      · rcases t2 with t2 | t2
        · rw [h.ntrans _ _ _ e h1] at t2; cases t2
        · omega
/-- What bears the lesser tag stands first unless the other is less. -/
theorem tlB_lr {x y : α} (ht : tg x < tg y) (h : lt y x = false) : tlB lt tg y x = false := tlB_false.2 ⟨h, .inr (by omega)⟩
theorem tlB_rl (hS : SWO lt) {x y : α} (h : lt y x = true) : tlB lt tg x y = false := tlB_false.2 ⟨hS.asymmA h, .inl h⟩
theorem lt_of_tlB {x y : α} (h : tlB lt tg x y = false) : lt x y = false := (tlB_false.1 h).1
/-- What is less than x, and y is no less than .. -/
theorem lt_trans_n (hS : SWO lt) {x y z : α} (h1 : lt x y = true) (h2 : lt z y = false) : lt x z = true := by
  cases e : lt x z with
  | true => rfl
  | false => rw [hS.ntrans _ _ _ e h2] at h1; cases h1
theorem lt_ntrans (hS : SWO lt) {x y z : α} (h1 : lt y x = false) (h2 : lt y z = true) : lt x z = true := by
  cases e : lt x z with
  | true => rfl
  | false => rw [hS.ntrans _ _ _ h1 e] at h2; cases h2

/-! ### rotations, as functions of places -/
def rotF (f : Nat → α) (a m b x : Nat) : α := if a ≤ x ∧ x < a + (b - m) then f (x + (m - a)) else if a + (b - m) ≤ x ∧ x < b then f (x - (b - m)) else f x
def swpR (f : Nat → α) (a b n x : Nat) : α := if a ≤ x ∧ x < a + n then f (x + (b - a)) else if b ≤ x ∧ x < b + n then f (x - (b - a)) else f x
theorem rot_more (f : Nat → α) (m i j x : Nat) (hij : j < i) (him : i ≤ m) : rotF (swpR f (m - i) m j) (m - (i - j)) m (m + j) x = rotF f (m - i) m (m + j) x := by
  unfold rotF swpR
  repeat' split
  all_goals first | rfl | (exfalso; omega) | (congr 1; omega)
theorem rot_less (f : Nat → α) (m i j x : Nat) (hij : i < j) (him : i ≤ m) : rotF (swpR f (m - i) (m + j - i) i) (m - i) m (m + (j - i)) x = rotF f (m - i) m (m + j) x := by
  unfold rotF swpR
  repeat' split
  all_goals first | rfl | (exfalso; omega) | (congr 1; omega)
theorem rot_same (f : Nat → α) (m i x : Nat) (him : i ≤ m) : swpR f (m - i) m i x = rotF f (m - i) m (m + i) x := by
  unfold rotF swpR
  repeat' split
  all_goals first | rfl | (exfalso; omega) | (congr 1; omega)
theorem rotF_congr {f g : Nat → α} (h : ∀ x, f x = g x) (a m b x : Nat) : rotF f a m b x = rotF g a m b x := by unfold rotF; simp only [h]
theorem rot_none1 (f : Nat → α) (a b x : Nat) : rotF f a a b x = f x := by
  unfold rotF
  repeat' split
  all_goals first | rfl | (exfalso; omega) | (congr 1; omega)
theorem rot_none2 (f : Nat → α) (a m x : Nat) : rotF f a m m x = f x := by
  unfold rotF
  repeat' split
  all_goals first | rfl | (exfalso; omega) | (congr 1; omega)

/-- Two sorted runs, the second one's tags above the first one's, parted at s and e: what stands left of both cuts goes ahead of all else. -/
theorem cross (hS : SWO lt) (f : Nat → α) (a m b s e : Nat) (h1 : a ≤ s) (h2 : s ≤ m) (h3 : m ≤ e) (h4 : e ≤ b)
    (hl : ∀ i j, a ≤ i → i < j → j < m → tlB lt tg (f j) (f i) = false) (hr : ∀ i j, m ≤ i → i < j → j < b → tlB lt tg (f j) (f i) = false)
    (ht : ∀ i j, a ≤ i → i < m → m ≤ j → j < b → tg (f i) < tg (f j))
    (c1 : s < m → m < e → lt (f (e - 1)) (f s) = true) (c2 : a < s → e < b → lt (f e) (f (s - 1)) = false) :
    ∀ i j, a ≤ i → i < s + (e - m) → s + (e - m) ≤ j → j < b → tlB lt tg (rotF f s m e j) (rotF f s m e i) = false := by
  intro i j hi hi2 hj hj2
  have hT := swo_tlB hS tg
  have L : ∀ x y, a ≤ x → x ≤ y → y < m → tlB lt tg (f y) (f x) = false := fun x y q1 q2 q3 => by
    rcases Nat.lt_or_ge x y with h | h
    · exact hl x y q1 h q3
    · rw [show x = y by omega]; exact hT.irrefl _
  have R : ∀ x y, m ≤ x → x ≤ y → y < b → tlB lt tg (f y) (f x) = false := fun x y q1 q2 q3 => by
    rcases Nat.lt_or_ge x y with h | h
    · exact hr x y q1 h q3
    · rw [show x = y by omega]; exact hT.irrefl _
  -- right of the cuts
  have J : (∃ y, s ≤ y ∧ y < m ∧ rotF f s m e j = f y) ∨ (∃ y, e ≤ y ∧ y < b ∧ rotF f s m e j = f y) := by
    unfold rotF
    rw [if_neg (by omega)]
    by_cases he : j < e
    · rw [if_pos ⟨hj, he⟩]; exact .inl ⟨_, by omega, by omega, rfl⟩
    · rw [if_neg (by omega)]; exact .inr ⟨_, by omega, hj2, rfl⟩
  have I : (∃ x, a ≤ x ∧ x < s ∧ rotF f s m e i = f x) ∨ (∃ x, m ≤ x ∧ x < e ∧ rotF f s m e i = f x) := by
    unfold rotF
    by_cases hs : i < s
    · rw [if_neg (by omega), if_neg (by omega)]; exact .inl ⟨_, hi, hs, rfl⟩
    · rw [if_pos ⟨by omega, hi2⟩]; exact .inr ⟨_, by omega, by omega, rfl⟩
  rcases I with ⟨x, x1, x2, ex⟩ | ⟨x, x1, x2, ex⟩ <;> rcases J with ⟨y, y1, y2, ey⟩ | ⟨y, y1, y2, ey⟩ <;> rw [ex, ey]
  · exact L x y x1 (by omega) y2
  · refine tlB_lr (ht x y x1 (by omega) (by omega) y2) ?_
    have q1 := lt_of_tlB (R e y (by omega) y1 y2)
    have q2 := c2 (by omega) (by omega)
    have q3 := lt_of_tlB (L x (s - 1) x1 (by omega) (by omega))
    exact hS.ntrans _ _ _ (hS.ntrans _ _ _ q1 q2) q3
  · refine tlB_rl hS ?_
    have q1 := lt_of_tlB (R x (e - 1) x1 (by omega) (by omega))
    have q2 := c1 (by omega) (by omega)
    have q3 := lt_of_tlB (L s y h1 y1 y2)
    exact lt_ntrans hS q1 (lt_trans_n hS q2 q3)
  · exact R x y x1 (by omega) y2
/-- .. and the two sides are two sorted runs each. -/
theorem sides (f : Nat → α) (a m b s e : Nat) (h1 : a ≤ s) (h2 : s ≤ m) (h3 : m ≤ e) (h4 : e ≤ b)
    (hl : ∀ i j, a ≤ i → i < j → j < m → tlB lt tg (f j) (f i) = false) (hr : ∀ i j, m ≤ i → i < j → j < b → tlB lt tg (f j) (f i) = false)
    (ht : ∀ i j, a ≤ i → i < m → m ≤ j → j < b → tg (f i) < tg (f j)) :
    ((∀ i j, a ≤ i → i < j → j < s → tlB lt tg (rotF f s m e j) (rotF f s m e i) = false) ∧ (∀ i j, s ≤ i → i < j → j < s + (e - m) → tlB lt tg (rotF f s m e j) (rotF f s m e i) = false) ∧
      (∀ i j, a ≤ i → i < s → s ≤ j → j < s + (e - m) → tg (rotF f s m e i) < tg (rotF f s m e j))) ∧
    ((∀ i j, s + (e - m) ≤ i → i < j → j < e → tlB lt tg (rotF f s m e j) (rotF f s m e i) = false) ∧ (∀ i j, e ≤ i → i < j → j < b → tlB lt tg (rotF f s m e j) (rotF f s m e i) = false) ∧
      (∀ i j, s + (e - m) ≤ i → i < e → e ≤ j → j < b → tg (rotF f s m e i) < tg (rotF f s m e j))) := by
  have A : ∀ x, x < s → rotF f s m e x = f x := fun x hx => by unfold rotF; rw [if_neg (by omega), if_neg (by omega)]
  have B : ∀ x, s ≤ x → x < s + (e - m) → rotF f s m e x = f (x + (m - s)) := fun x q1 q2 => by unfold rotF; rw [if_pos ⟨q1, q2⟩]
  have C : ∀ x, s + (e - m) ≤ x → x < e → rotF f s m e x = f (x - (e - m)) := fun x q1 q2 => by unfold rotF; rw [if_neg (by omega), if_pos ⟨q1, q2⟩]
  have D : ∀ x, e ≤ x → rotF f s m e x = f x := fun x hx => by unfold rotF; rw [if_neg (by omega), if_neg (by omega)]
  refine ⟨⟨fun i j q1 q2 q3 => ?_, fun i j q1 q2 q3 => ?_, fun i j q1 q2 q3 q4 => ?_⟩, ⟨fun i j q1 q2 q3 => ?_, fun i j q1 q2 q3 => ?_, fun i j q1 q2 q3 q4 => ?_⟩⟩
  · rw [A i (by omega), A j q3]; exact hl i j q1 q2 (by omega)
  · rw [B i q1 (by omega), B j (by omega) q3]; exact hr _ _ (by omega) (by omega) (by omega)
  · rw [A i q2, B j q3 q4]; exact ht _ _ (by omega) (by omega) (by omega) (by omega)
  · rw [C i q1 (by omega), C j (by omega) q3]; exact hl _ _ (by omega) (by omega) (by omega)
  · rw [D i q1, D j (by omega)]; exact hr _ _ (by omega) q2 q3
  · rw [C i q1 q2, D j q3]; exact ht _ _ (by omega) (by omega) (by omega) (by omega)

/-! ### rows -/
variable [Inhabited α]
theorem glue {a mid b : Nat} {d1 d2 d3 : Array α} (h1 : a ≤ mid) (h2 : mid ≤ b) (hb : b ≤ d1.size) (P1 : PermIn a mid d1 d2) (P2 : PermIn mid b d2 d3) (S1 : SortedIn (tlB lt tg) a mid d2) (S2 : SortedIn (tlB lt tg) mid b d3)
    (X : ∀ i j, a ≤ i → i < mid → mid ≤ j → j < b → tlB lt tg d1[j]! d1[i]! = false) : SortedIn (tlB lt tg) a b d3 ∧ PermIn a b d1 d3 := by
  refine ⟨fun i j q1 q2 q3 => ?_, permIn_trans _ _ _ _ _ (permIn_mono _ _ _ _ _ _ (Nat.le_refl _) h2 hb P1) (permIn_mono _ _ _ _ _ _ h1 (Nat.le_refl _) (by rw [P1.1]; exact hb) P2)⟩
  by_cases hj : j < mid
  · rw [P2.2.1 j (.inl hj), P2.2.1 i (.inl (by omega))]; exact S1 i j q1 q2 hj
  · by_cases hi : mid ≤ i
    · exact S2 i j hi q2 q3
    · have K1 : ∀ i, a ≤ i → i < mid → (∀ j, mid ≤ j → j < b → tlB lt tg d1[j]! d2[i]! = false) := permIn_all d1 d2 a mid (fun x => ∀ j, mid ≤ j → j < b → tlB lt tg d1[j]! x = false) (by omega) P1 (fun i q1 q2 j q3 q4 => X i j q1 q2 q3 q4)
      have K2 := permIn_all d2 d3 mid b (fun x => tlB lt tg x d2[i]! = false) (by rw [P1.1]; exact hb) P2 (fun j q3 q4 => by rw [P1.2.1 j (.inr q3)]; exact K1 i q1 (by omega) j q3 q4)
      rw [P2.2.1 i (.inl (by omega))]
      exact K2 j (by omega) q3
theorem sorted_two {a mid b : Nat} {d : Array α} (S1 : SortedIn (tlB lt tg) a mid d) (S2 : SortedIn (tlB lt tg) mid b d) (X : ∀ i j, a ≤ i → i < mid → mid ≤ j → j < b → tlB lt tg d[j]! d[i]! = false) : SortedIn (tlB lt tg) a b d := by
  intro i j q1 q2 q3
  by_cases hj : j < mid
  · exact S1 i j q1 q2 hj
  · by_cases hi : mid ≤ i
    · exact S2 i j hi q2 q3
    · exact X i j q1 (by omega) (by omega) q3
/-- What a merge of [a, m) and [m, b) is told. -/
structure Runs (lt : α → α → Bool) (tg : α → Nat) (a m b : Nat) (d : Array α) : Prop where
  l : SortedIn (tlB lt tg) a m d
  r : SortedIn (tlB lt tg) m b d
  t : ∀ i j, a ≤ i → i < m → m ≤ j → j < b → tg d[i]! < tg d[j]!
/-- Behind the rotation. -/
theorem Runs.rot {a m b s e : Nat} {d d' : Array α} (hS : SWO lt) (h : Runs lt tg a m b d) (h1 : a ≤ s) (h2 : s ≤ m) (h3 : m ≤ e) (h4 : e ≤ b) (hd : ∀ x, d'[x]! = rotF (fun x => d[x]!) s m e x)
    (c1 : s < m → m < e → lt d[e - 1]! d[s]! = true) (c2 : a < s → e < b → lt d[e]! d[s - 1]! = false) :
    Runs lt tg a s (s + (e - m)) d' ∧ Runs lt tg (s + (e - m)) e b d' ∧ ∀ i j, a ≤ i → i < s + (e - m) → s + (e - m) ≤ j → j < b → tlB lt tg d'[j]! d'[i]! = false := by
  have X := cross hS (fun x => d[x]!) a m b s e h1 h2 h3 h4 h.l h.r h.t c1 c2
  have S := sides (lt := lt) (tg := tg) (fun x => d[x]!) a m b s e h1 h2 h3 h4 h.l h.r h.t
  obtain ⟨⟨s1, s2, s3⟩, s4, s5, s6⟩ := S
  refine ⟨⟨fun i j q1 q2 q3 => ?_, fun i j q1 q2 q3 => ?_, fun i j q1 q2 q3 q4 => ?_⟩, ⟨fun i j q1 q2 q3 => ?_, fun i j q1 q2 q3 => ?_, fun i j q1 q2 q3 q4 => ?_⟩, fun i j q1 q2 q3 q4 => ?_⟩ <;> rw [hd, hd]
  · exact s1 i j q1 q2 q3
  · exact s2 i j q1 q2 q3
  · exact s3 i j q1 q2 q3 q4
  · exact s4 i j q1 q2 q3
  · exact s5 i j q1 q2 q3
  · exact s6 i j q1 q2 q3 q4
  · exact X i j q1 q2 q3 q4
/-- A run of one element goes into the run behind it. -/
theorem Runs.one_left {a b e : Nat} {d d' : Array α} (hS : SWO lt) (h : Runs lt tg a (a + 1) b d) (h3 : a + 1 ≤ e) (h4 : e ≤ b) (hd : ∀ x, d'[x]! = rotF (fun x => d[x]!) a (a + 1) e x)
    (c1 : a + 1 < e → lt d[e - 1]! d[a]! = true) (c2 : e < b → lt d[e]! d[a]! = false) : SortedIn (tlB lt tg) a b d' := by
  obtain ⟨r1, r2, X⟩ := h.rot hS (Nat.le_refl a) (by omega) h3 h4 hd (fun _ => c1) (fun q => by omega)
  refine sorted_two r1.r (sorted_two r2.l r2.r fun i j q1 q2 q3 q4 => ?_) X
  have ei : d'[i]! = d[a]! := by rw [hd]; unfold rotF; rw [if_neg (by omega), if_pos ⟨q1, q2⟩]; simp only; congr 1; omega
  have ej : d'[j]! = d[j]! := by rw [hd]; unfold rotF; rw [if_neg (by omega), if_neg (by omega)]
  rw [ei, ej]
  refine tlB_lr (h.t a j (Nat.le_refl _) (by omega) (by omega) q4) ?_
  have c := c2 (by omega)
  rcases Nat.lt_or_ge e j with he | he
  · exact hS.ntrans _ _ _ (lt_of_tlB (h.r e j (by omega) he q4)) c
  · rw [show j = e by omega]; exact c
/-- A run of one element goes into the run ahead of it. -/
theorem Runs.one_right {a m s : Nat} {d d' : Array α} (hS : SWO lt) (h : Runs lt tg a m (m + 1) d) (h1 : a ≤ s) (h2 : s ≤ m) (hd : ∀ x, d'[x]! = rotF (fun x => d[x]!) s m (m + 1) x)
    (c1 : s < m → lt d[m]! d[s]! = true) (c2 : a < s → lt d[m]! d[s - 1]! = false) : SortedIn (tlB lt tg) a (m + 1) d' := by
  obtain ⟨r1, r2, X⟩ := h.rot hS h1 h2 (Nat.le_succ m) (Nat.le_refl _) hd (fun q _ => c1 q) (fun _ q => by omega)
  refine sorted_two (sorted_two r1.l r1.r fun i j q1 q2 q3 q4 => ?_) r2.l X
  have ej : d'[j]! = d[m]! := by rw [hd]; unfold rotF; rw [if_pos ⟨q3, q4⟩]; simp only; congr 1; omega
  have ei : d'[i]! = d[i]! := by rw [hd]; unfold rotF; rw [if_neg (by omega), if_neg (by omega)]
  rw [ei, ej]
  refine tlB_lr (h.t i m q1 (by omega) (Nat.le_refl _) (by omega)) ?_
  have c := c2 (by omega)
  rcases Nat.lt_or_ge i (s - 1) with he | he
  · exact hS.ntrans _ _ _ c (lt_of_tlB (h.l i (s - 1) q1 he (by omega)))
  · rw [show i = s - 1 by omega]; exact c

/-! ### insertion -/
theorem insInner_perm (lt : α → α → Bool) (a b : Nat) : ∀ (j : Nat) (d : Array α), a ≤ j → j < b → b ≤ d.size → PermIn a b d (insInner lt a j d)
  | 0, d, _, _, _ => by unfold insInner; exact permIn_refl _ _ _
  | j + 1, d, h1, h2, h3 => by
    unfold insInner
    split
    · rename_i hc
      simp only [Bool.and_eq_true, decide_eq_true_eq] at hc
      exact permIn_trans _ _ _ _ _ (swp_permIn d a b (j + 1) j h1 h2 (by omega) (by omega) h3) (insInner_perm lt a b j _ (by omega) (by omega) (by rw [swp_size]; exact h3))
    · exact permIn_refl _ _ _
theorem insInner_tag (lt : α → α → Bool) (tg : α → Nat) (a : Nat) : ∀ (j : Nat) (d : Array α), j < d.size → (∀ y, a ≤ y → y < j → tg d[y]! < tg d[j]!) → insInner lt a j d = insInner (tlB lt tg) a j d
  | 0, d, _, _ => by unfold insInner; rfl
  | j + 1, d, hs, h => by
    unfold insInner
    by_cases ha : j + 1 > a
    · have e : tlB lt tg d[j + 1]! d[j]! = lt d[j + 1]! d[j]! := by
        have := h j (by omega) (by omega)
        unfold tlB
        rw [show decide (tg d[j + 1]! < tg d[j]!) = false by simp; omega]
        simp
      rw [e]
      split
      · refine insInner_tag lt tg a j _ (by rw [swp_size]; omega) fun y q1 q2 => ?_
        rw [swp_get d hs (by omega), swp_get d hs (by omega), if_neg (by omega), if_neg (by omega), if_pos rfl]
        exact h y q1 (by omega)
      · rfl
    · rw [show decide (j + 1 > a) = false by simp; omega]; simp
theorem insOuter_tag (lt : α → α → Bool) (tg : α → Nat) (a b : Nat) : ∀ (n i : Nat) (d : Array α), b - i = n → a < i → b ≤ d.size → (∀ q, i ≤ q → q < b → ∀ y, a ≤ y → y < q → tg d[y]! < tg d[q]!) → insOuter lt a b i d = insOuter (tlB lt tg) a b i d
  | 0, i, d, hn, _, _, _ => by rw [insOuter, if_neg (by omega), insOuter, if_neg (by omega)]
  | n + 1, i, d, hn, hi, hb, h => by
    have e1 : ∀ l : α → α → Bool, insOuter l a b i d = insOuter l a b (i + 1) (insInner l a i d) := fun l => by rw [insOuter, if_pos (by omega)]
    rw [e1 lt, e1 (tlB lt tg), ← insInner_tag lt tg a i d (by omega) (fun y q1 q2 => h i (Nat.le_refl _) (by omega) y q1 q2)]
    have P := insInner_perm lt a (i + 1) i d (by omega) (by omega) (by omega)
    refine insOuter_tag lt tg a b n (i + 1) _ (by omega) (by omega) (by rw [P.1]; exact hb) fun q q1 q2 y y1 y2 => ?_
    rw [P.2.1 q (.inr q1)]
    by_cases hy : y < i + 1
    · exact permIn_all d _ a (i + 1) (fun x => tg x < tg d[q]!) (by omega) P (fun z z1 z2 => h q (by omega) q2 z z1 (by omega)) y y1 hy
    · rw [P.2.1 y (.inr (by omega))]; exact h q (by omega) q2 y y1 y2
theorem insertion_stable (hS : SWO lt) (d : Array α) (a b : Nat) (hab : a ≤ b) (hb : b ≤ d.size) (h : ∀ i j, a ≤ i → i < j → j < b → tg d[i]! < tg d[j]!) :
    PermIn a b d (insertionSort lt d a b) ∧ SortedIn (tlB lt tg) a b (insertionSort lt d a b) := by
  have e : insertionSort lt d a b = insertionSort (tlB lt tg) d a b := by
    unfold insertionSort
    exact insOuter_tag lt tg a b _ (a + 1) d rfl (by omega) hb fun q q1 q2 y y1 y2 => h y q y1 y2 q2
  rw [e]
  exact insertionSort_holds (swo_tlB hS tg) d a b hab hb

/-! ### blocks -/
theorem dvd_lt {s c a : Nat} (h1 : s ∣ c) (h2 : s ∣ a) (h : c < a) : c + s ≤ a := by
  obtain ⟨u, rfl⟩ := h1
  obtain ⟨v, rfl⟩ := h2
  have : u < v := Nat.lt_of_mul_lt_mul_left h
  calc s * u + s = s * (u + 1) := by rw [Nat.mul_add, Nat.mul_one]
    _ ≤ s * v := Nat.mul_le_mul_left _ this
/-- From lo to hi, in blocks of s from multiples of s on: each is sorted, and its tags are its own places. -/
def Bl (lt : α → α → Bool) (tg : α → Nat) (s lo hi : Nat) (d : Array α) : Prop :=
  ∀ c, s ∣ c → lo ≤ c → c < hi → (∀ i, c ≤ i → i < c + s → i < hi → c ≤ tg d[i]! ∧ tg d[i]! < c + s) ∧ SortedIn (tlB lt tg) c (min (c + s) hi) d
theorem Bl.none (lt : α → α → Bool) (tg : α → Nat) (s a : Nat) (d : Array α) : Bl lt tg s a a d := fun c _ h1 h2 => by omega
theorem Bl.snoc {s a b : Nat} {d d' : Array α} (h : Bl lt tg s 0 a d) (hs : s ∣ a) (hab : a < b) (hbs : b ≤ a + s) (hb : b ≤ d.size) (P : PermIn a b d d') (S : SortedIn (tlB lt tg) a b d') (T : ∀ i, a ≤ i → i < b → a ≤ tg d[i]! ∧ tg d[i]! < a + s) : Bl lt tg s 0 b d' := by
  intro c h1 _ h3
  rcases Nat.lt_or_ge c a with hc | hc
  · have hca := dvd_lt h1 hs hc
    obtain ⟨q1, q2⟩ := h c h1 (Nat.zero_le _) hc
    rw [show min (c + s) a = c + s by omega] at q2
    rw [show min (c + s) b = c + s by omega]
    exact ⟨fun i z1 z2 z3 => by rw [P.2.1 i (.inl (by omega))]; exact q1 i z1 z2 (by omega), fun i j z1 z2 z3 => by rw [P.2.1 i (.inl (by omega)), P.2.1 j (.inl (by omega))]; exact q2 i j z1 z2 z3⟩
  · have hca : c = a := by
      rcases Nat.lt_or_ge a c with h | h
      · have := dvd_lt hs h1 h; omega
      · omega
    subst hca
    rw [show min (c + s) b = b by omega]
    exact ⟨fun i z1 z2 z3 => permIn_all d d' c b (fun x => c ≤ tg x ∧ tg x < c + s) hb P T i z1 z3, S⟩
theorem Bl.rest {s a b n : Nat} {d d' : Array α} (h : Bl lt tg s a n d) (hab : a ≤ b) (P : PermIn a b d d') : Bl lt tg s b n d' := by
  intro c h1 h2 h3
  obtain ⟨q1, q2⟩ := h c h1 (by omega) h3
  exact ⟨fun i z1 z2 z3 => by rw [P.2.1 i (.inr (by omega))]; exact q1 i z1 z2 z3, fun i j z1 z2 z3 => by rw [P.2.1 i (.inr (by omega)), P.2.1 j (.inr (by omega))]; exact q2 i j z1 z2 z3⟩
/-- Two blocks side by side are two runs. -/
theorem Bl.two {s a b n : Nat} {d : Array α} (h : Bl lt tg s a n d) (hs : s ∣ a) (h1 : a + s < b) (h2 : b ≤ a + 2 * s) (h3 : b ≤ n) : Runs lt tg a (a + s) b d ∧ ∀ i, a ≤ i → i < b → a ≤ tg d[i]! ∧ tg d[i]! < a + 2 * s := by
  obtain ⟨p1, p2⟩ := h a hs (Nat.le_refl _) (by omega)
  obtain ⟨q1, q2⟩ := h (a + s) ((Nat.dvd_add_right hs).2 (Nat.dvd_refl s)) (by omega) (by omega)
  rw [show min (a + s) n = a + s by omega] at p2
  refine ⟨⟨p2, fun i j z1 z2 z3 => q2 i j z1 z2 (by omega), fun i j z1 z2 z3 z4 => ?_⟩, fun i z1 z2 => ?_⟩
  · have := p1 i z1 z2 (by omega); have := q1 j z3 (by omega) (by omega); omega
  · rcases Nat.lt_or_ge i (a + s) with hi | hi
    · have := p1 i z1 hi (by omega); omega
    · have := q1 i hi (by omega) (by omega); omega
/-- One block and no more. -/
theorem Bl.last {s a n : Nat} {d : Array α} (h : Bl lt tg s a n d) (hs : s ∣ a) (h1 : a < n) (h2 : n ≤ a + s) : SortedIn (tlB lt tg) a n d ∧ ∀ i, a ≤ i → i < n → a ≤ tg d[i]! ∧ tg d[i]! < a + 2 * s := by
  obtain ⟨p1, p2⟩ := h a hs (Nat.le_refl _) h1
  rw [show min (a + s) n = n by omega] at p2
  exact ⟨p2, fun i z1 z2 => by have := p1 i z1 (by omega) z2; omega⟩
theorem Bl.all {s n : Nat} {d : Array α} (h : Bl lt tg s 0 n d) (hn : n ≤ s) : SortedIn (tlB lt tg) 0 n d := by
  rcases Nat.eq_zero_or_pos n with rfl | hp
  · intro i j _ _ h3; omega
  · have := (h 0 (Nat.dvd_zero s) (Nat.le_refl _) hp).2
    rwa [show min (0 + s) n = n by omega] at this
attribute [irreducible] tlB
end Go.Proofs.Hd

namespace Go.Proofs
open Go.Shelf Go.RowKit Go.Lib Go.Sort Go.Proofs.Hd
/-- How the library's numbers are called here. -/
def Try.stR : Go.Shelf.Ren := ⟨fun | 20 => 33 | n => n, fun | 22 => 51 | 24 => 47 | 25 => 53 | 3 => 3 | 0 => 0 | 4 => 4 | n => n, fun | n => n⟩
/-- A program bears the family's functions and types; an element is of k cells. -/
structure StL (P : Program) (k : Nat) : Prop where
  mixed : P.follows .mixedOrders = true
  fSwap : P.funcs[39]? = some Try.f39
  fRot : P.funcs[38]? = some Try.f38
  fSym : P.funcs[34]? = some Try.f34
  fStb : P.funcs[27]? = some Try.f27
  fTop : P.funcs[20]? = some Try.f20
  ins : SlLaysF0.n20 P Try.stR
  t0 : P.underlying 0 = some (TypeDesc.tuple #[])
  a0 : ∀ w, (isAgg 0).run P w = .ok false w
  z0 : ∀ w, (Go.sizeOf 0).run P w = .ok 1 w
  v0 : ∀ w, (zeroValue 0).run P w = .ok (Value.tuple #[]) w
  t3 : P.underlying 3 = some (TypeDesc.int IntKind.i64)
  a3 : ∀ w, (isAgg 3).run P w = .ok false w
  z3 : ∀ w, (Go.sizeOf 3).run P w = .ok 1 w
  v3 : ∀ w, (zeroValue 3).run P w = .ok (Value.int IntKind.i64 0) w
  t4 : P.underlying 4 = some TypeDesc.bool
  a4 : ∀ w, (isAgg 4).run P w = .ok false w
  z4 : ∀ w, (Go.sizeOf 4).run P w = .ok 1 w
  v4 : ∀ w, (zeroValue 4).run P w = .ok (Value.bool false) w
  tS : P.underlying 51 = some (TypeDesc.slice 47)
  aS : ∀ w, (isAgg 51).run P w = .ok false w
  zS : ∀ w, (Go.sizeOf 51).run P w = .ok 1 w
  vS : ∀ w, (zeroValue 51).run P w = .ok (Value.slice none 0 0) w
  tC : P.underlying 53 = some (TypeDesc.func #[47, 47] #[3] false)
  aC : ∀ w, (isAgg 53).run P w = .ok false w
  zC : ∀ w, (Go.sizeOf 53).run P w = .ok 1 w
  vC : ∀ w, (zeroValue 53).run P w = .ok Value.nilFunc w
  tU : P.underlying 64 = some (TypeDesc.int IntKind.u64)
  aU : ∀ w, (isAgg 64).run P w = .ok false w
  zU : ∀ w, (Go.sizeOf 64).run P w = .ok 1 w
  vU : ∀ w, (zeroValue 64).run P w = .ok (Value.int IntKind.u64 0) w
  aE : ∀ w, (isAgg 47).run P w = .ok true w
  zE : ∀ w, (Go.sizeOf 47).run P w = .ok k w
theorem Try.stL : StL Try.prog 12 := {
  mixed := by kernel_rfl
  fSwap := Try.func39
  fRot := Try.func38
  fSym := Try.func34
  fStb := Try.func27
  fTop := Try.func20
  ins := {
    mixed := by kernel_rfl
    f20 := ⟨Try.f33.name, by decide, Try.func33.trans (congrArg some (by kernel_rfl))⟩
    t0 := by kernel_rfl
    a0 := fun _ => rfl
    z0 := fun _ => rfl
    v0 := fun _ => rfl
    t3 := by kernel_rfl
    a3 := fun _ => rfl
    z3 := fun _ => rfl
    v3 := fun _ => rfl
    t4 := by kernel_rfl
    a4 := fun _ => rfl
    z4 := fun _ => rfl
    v4 := fun _ => rfl
    t22 := by kernel_rfl
    a22 := fun _ => rfl
    z22 := fun _ => rfl
    v22 := fun _ => rfl
    t25 := by kernel_rfl
    a25 := fun _ => rfl
    z25 := fun _ => rfl
    v25 := fun _ => rfl }
  t0 := by kernel_rfl
  a0 := fun _ => rfl
  z0 := fun _ => rfl
  v0 := fun _ => rfl
  t3 := by kernel_rfl
  a3 := fun _ => rfl
  z3 := fun _ => rfl
  v3 := fun _ => rfl
  t4 := by kernel_rfl
  a4 := fun _ => rfl
  z4 := fun _ => rfl
  v4 := fun _ => rfl
  tS := by kernel_rfl
  aS := fun _ => rfl
  zS := fun _ => rfl
  vS := fun _ => rfl
  tC := by kernel_rfl
  aC := fun _ => rfl
  zC := fun _ => rfl
  vC := fun _ => rfl
  tU := by kernel_rfl
  aU := fun _ => rfl
  zU := fun _ => rfl
  vU := fun _ => rfl
  aE := fun _ => rfl
  zE := fun _ => rfl }

variable {P : Program} {k : Nat} {α : Type} [Inhabited α]
theorem swpR_step {d dk : Array α} {a b n i : Nat} (hab : a + n ≤ b) (hb : b + n ≤ d.size) (hi : i < n) (hs : dk.size = d.size) (h : ∀ x, dk[x]! = swpR (fun x => d[x]!) a b i x) : ∀ x, (swp dk (a + i) (b + i))[x]! = swpR (fun x => d[x]!) a b (i + 1) x := by
  intro x
  rw [swp_get dk (by omega) (by omega), h, h, h]
  unfold swpR
  repeat' split
  all_goals first | rfl | (exfalso; omega) | (simp only; congr 1; omega)

set_option maxHeartbeats 4000000 in
set_option maxRecDepth 1000000 in
/-- slices.swapRangeCmpFunc: two ranges that do not overlap change places. -/
theorem swapRange_c (L : StL P k) (enc : α → List Value) (g : Nat) (cb : Array Value) (blk off cap N a b n : Nat) (d0 d : Array α) (w0 w : World)
    (R : RowK enc k w0 blk off d0) (h0 : d0.size = N) (hN : d.size = N) (S : SWK enc k w0 blk off d w) (hab : a + n ≤ b) (hb : b + n ≤ N) (hsz : N < 1152921504606846976) :
    Calls P 39 #[.slice (some ⟨blk, off, none⟩) N cap, .int .i64 a, .int .i64 b, .int .i64 n, .func (.func g) #[] cb] w fun e w' =>
      e = .returned (.tuple #[]) ∧ ∃ d', SWK enc k w0 blk off d' w' ∧ PermIn a (b + n) d d' ∧ ∀ x, d'[x]! = swpR (fun x => d[x]!) a b n x := by
  have mixed := L.mixed; have t0 := L.t0; have a0 := L.a0; have z0 := L.z0; have v0 := L.v0; have t3 := L.t3; have a3 := L.a3; have z3 := L.z3; have v3 := L.v3; have t4 := L.t4; have a4 := L.a4; have z4 := L.z4; have v4 := L.v4; have t22 := L.tS; have a22 := L.aS; have z22 := L.zS; have v22 := L.vS; have t25 := L.tC; have a25 := L.aC; have z25 := L.zC; have v25 := L.vC
  have aE := L.aE; have zE := L.zE
  have FG := L.fSwap
  have S0 : Aside (SWK enc k w0 blk off d w) := S
  have N0 : Hid (∀ x, d[x]! = swpR (fun x => d[x]!) a b 0 x) := fun x => by unfold swpR; rw [if_neg (by omega), if_neg (by omega)]
  have Q0 : Hid (PermIn a (b + n) d d) := permIn_refl _ _ _
  clear S L
  go_enter FG, Try.ntmps39
  go_wp2
  go_loopg [10] n (fun kx s10 wr => ∃ (i : Nat) (dk : Array α), s10 = .int .i64 i ∧ i ≤ n ∧ n - i ≤ kx ∧ dk.size = N ∧ Aside (SWK enc k w0 blk off dk wr) ∧ Hid (PermIn a (b + n) d dk) ∧ Hid (∀ x, dk[x]! = swpR (fun x => d[x]!) a b i x))
  case atStart => exact ⟨0, d, rfl, Nat.zero_le _, by omega, hN, S0, Q0, N0⟩
  case round =>
    clear S0 Q0 N0
    obtain ⟨i, dk, rfl, hin, hkx, hds, S1, Q1, N1⟩ := hrel
    by_cases hlt : i < n
    · have hltz : (i : Int) < (n : Int) := by omega
      go_wp2_with fail
      have ea44 : ((a : Int) + (i : Int)).toNat = a + i := by omega
      have pa44 : (0 : Int) ≤ (a : Int) + (i : Int) := by omega
      have ba44 : (a : Int) + (i : Int) < (N : Int) := by omega
      have ra44 : IntKind.i64.wrap ((a : Int) + (i : Int)) = (a : Int) + (i : Int) := by rw [IntKind.wrap_i64]; omega
      have ec44 : ((b : Int) + (i : Int)).toNat = b + i := by omega
      have pc44 : (0 : Int) ≤ (b : Int) + (i : Int) := by omega
      have bc44 : (b : Int) + (i : Int) < (N : Int) := by omega
      have rc44 : IntKind.i64.wrap ((b : Int) + (i : Int)) = (b : Int) + (i : Int) := by rw [IntKind.wrap_i64]; omega
      have S2 : Aside (SWK enc k w0 blk off (swp dk (a + i) (b + i)) ((wr.drew.setCells blk (off + (a + i) * k) (enc dk[b + i]!)).setCells blk (off + (b + i) * k) (enc dk[a + i]!))) := S1.out.swapped R (a + i) (b + i) (by omega) (by omega)
      have l44a := S1.out.ld1 R (by omega) P (a + i) (by omega)
      have l44b := S1.out.ld1 R (by omega) P (b + i) (by omega)
      have s44a := S1.out.st1 R (by omega) P (a + i) (by omega) dk[b + i]!
      have s44b := S1.out.st2 R (by omega) P (a + i) (b + i) (by omega) (by omega) dk[b + i]! dk[a + i]!
      have n44a : (enc dk[a + i]!).length = k := R.hk _
      have n44b : (enc dk[b + i]!).length = k := R.hk _
      generalize enc dk[a + i]! = cI44 at S2 l44a s44b n44a
      generalize enc dk[b + i]! = cJ44 at S2 l44b s44a s44b n44b
      clear S1
      go_wp2_with fail
      go_big_region_o
      clear l44a l44b s44a s44b
      generalize (wr.drew.setCells blk (off + (a + i) * k) cJ44).setCells blk (off + (b + i) * k) cI44 = w2 at S2 ⊢
      go_wp2
      go_roundg (n - (i + 1))
      case measure => omega
      case rel =>
        exact ⟨i + 1, swp dk (a + i) (b + i), by go_num, by omega, Nat.le_refl _, by rw [size_swp]; exact hds, S2,
          permIn_trans _ _ _ _ _ Q1.out (swp_permIn dk a (b + n) (a + i) (b + i) (by omega) (by omega) (by omega) (by omega) (by omega)), swpR_step hab (by omega) hlt (hds.trans hN.symm) N1.out⟩
    · have hltz : ¬ (i : Int) < (n : Int) := by omega
      obtain rfl : i = n := by omega
      go_wp2
      go_end0
      exact ⟨rfl, dk, S1.out, Q1.out, N1.out⟩
end Go.Proofs

namespace Go.Proofs
open Go.Shelf Go.RowKit Go.Lib Go.Sort Go.Proofs.Hd
variable {P : Program} {k : Nat} {α : Type} [Inhabited α]
set_option maxHeartbeats 4000000 in
set_option maxRecDepth 1000000 in
/-- slices.rotateCmpFunc: the two parts of a range change places. -/
theorem rotate_c (L : StL P k) (enc : α → List Value) (g : Nat) (cb : Array Value) (blk off cap N a m b : Nat) (d0 d : Array α) (w0 w : World)
    (R : RowK enc k w0 blk off d0) (h0 : d0.size = N) (hN : d.size = N) (S : SWK enc k w0 blk off d w) (ham : a < m) (hmb : m < b) (hb : b ≤ N) (hsz : N < 1152921504606846976) :
    Calls P 38 #[.slice (some ⟨blk, off, none⟩) N cap, .int .i64 a, .int .i64 m, .int .i64 b, .func (.func g) #[] cb] w fun e w' =>
      e = .returned (.tuple #[]) ∧ ∃ d', SWK enc k w0 blk off d' w' ∧ PermIn a b d d' ∧ ∀ x, d'[x]! = rotF (fun x => d[x]!) a m b x := by
  have mixed := L.mixed; have t0 := L.t0; have a0 := L.a0; have z0 := L.z0; have v0 := L.v0; have t3 := L.t3; have a3 := L.a3; have z3 := L.z3; have v3 := L.v3; have t4 := L.t4; have a4 := L.a4; have z4 := L.z4; have v4 := L.v4; have t22 := L.tS; have a22 := L.aS; have z22 := L.zS; have v22 := L.vS; have t25 := L.tC; have a25 := L.aC; have z25 := L.zC; have v25 := L.vC
  have FG := L.fRot
  have S0 : Aside (SWK enc k w0 blk off d w) := S
  obtain ⟨i0, hi0⟩ : ∃ i0, a + i0 = m := ⟨m - a, by omega⟩
  obtain ⟨j0, hj0⟩ : ∃ j0, m + j0 = b := ⟨b - m, by omega⟩
  have r1 : IntKind.i64.wrap ((m : Int) - (a : Int)) = (i0 : Int) := by rw [IntKind.wrap_i64]; omega
  have r2 : IntKind.i64.wrap ((b : Int) - (m : Int)) = (j0 : Int) := by rw [IntKind.wrap_i64]; omega
  have N0 : Hid (∀ x, rotF (fun x => d[x]!) (m - i0) m (m + j0) x = rotF (fun x => d[x]!) a m b x) := fun x => by rw [hj0, show m - i0 = a by omega]
  have Q0 : Hid (PermIn a b d d) := permIn_refl _ _ _
  have CALL : Aside (∀ (dk : Array α) (wr : World) (x y n : Nat), dk.size = N → SWK enc k w0 blk off dk wr → x + n ≤ y → y + n ≤ N → Calls P 39 #[.slice (some ⟨blk, off, none⟩) N cap, .int .i64 x, .int .i64 y, .int .i64 n, .func (.func g) #[] cb] wr fun e w' =>
      e = .returned (.tuple #[]) ∧ ∃ d', SWK enc k w0 blk off d' w' ∧ PermIn x (y + n) dk d' ∧ ∀ z, d'[z]! = swpR (fun z => dk[z]!) x y n z) :=
    fun dk wr x y n q1 q2 q3 q4 => swapRange_c L enc g cb blk off cap N x y n d0 dk w0 wr R h0 q1 q2 q3 q4 hsz
  have eg : ∀ args w, (callFunc 39 args).run P w = .ok (.enter 39 args) w := enters_of L.fSwap (by kernel_rfl) rfl
  clear S L
  go_enter FG, Try.ntmps38
  go_wp2
  go_loopg [10, 11] (i0 + j0) (fun kx s10 s11 wr => ∃ (i j : Nat) (dk : Array α), s10 = .int .i64 i ∧ s11 = .int .i64 j ∧ 0 < i ∧ 0 < j ∧ a + i ≤ m ∧ m + j ≤ b ∧ i + j ≤ kx ∧ dk.size = N ∧ Aside (SWK enc k w0 blk off dk wr) ∧ Hid (PermIn a b d dk) ∧
    Hid (∀ x, rotF (fun x => dk[x]!) (m - i) m (m + j) x = rotF (fun x => d[x]!) a m b x))
  case atStart => exact ⟨i0, j0, d, by go_num, by go_num, by omega, by omega, by omega, by omega, Nat.le_refl _, hN, S0, Q0, N0⟩
  case round =>
    clear S0 Q0 N0 r1 r2 hi0 hj0
    obtain ⟨i, j, dk, rfl, rfl, hi, hj, him, hjb, hkx, hds, S1, Q1, N1⟩ := hrel
    obtain ⟨x, hx⟩ : ∃ x, x + i = m := ⟨m - i, by omega⟩
    have r1 : IntKind.i64.wrap ((m : Int) - (i : Int)) = (x : Int) := by rw [IntKind.wrap_i64]; omega
    have r1' : (m : Int) - (i : Int) = (x : Int) := by omega
    rcases Nat.lt_trichotomy i j with hij | hij | hij
    · -- the second part is longer
      have c1 : ¬ (i : Int) = (j : Int) := by omega
      have c2 : ¬ (j : Int) < (i : Int) := by omega
      obtain ⟨y, hy⟩ : ∃ y, y + i = m + j := ⟨m + j - i, by omega⟩
      obtain ⟨j', hj'⟩ : ∃ j', j' + i = j := ⟨j - i, by omega⟩
      have r2 : IntKind.i64.wrap ((m : Int) + (j : Int) - (i : Int)) = (y : Int) := by rw [IntKind.wrap_i64]; omega
      have r2' : (m : Int) + (j : Int) - (i : Int) = (y : Int) := by omega
      have r3 : IntKind.i64.wrap ((j : Int) - (i : Int)) = (j' : Int) := by rw [IntKind.wrap_i64]; omega
      have r4 : IntKind.i64.wrap ((m : Int) + (j : Int)) = (m : Int) + (j : Int) := by rw [IntKind.wrap_i64]; omega
      have hcon := CALL.out dk wr x y i hds S1.out (by omega) (by omega)
      go_wp2_with (go_at_call 39; refine hcon.mono ?_; rintro e w' ⟨rfl, d', S2, Q2, N2⟩)
      go_roundg (i + j')
      case measure => omega
      case rel =>
        refine ⟨i, j', d', rfl, by first | rfl | go_num | (congr 1; omega), hi, by omega, him, by omega, Nat.le_refl _, by rw [Q2.1]; exact hds, S2, (show PermIn a b d d' from ?_), fun z => ?_⟩
        · exact permIn_trans _ _ _ _ _ Q1.out (permIn_mono _ _ _ _ _ _ (by omega) (by omega) (by omega) Q2)
        · rw [← N1.out z, rotF_congr N2]
          have := rot_less (fun z => dk[z]!) m i j z hij (by omega)
          rw [show m - i = x by omega, show m + j - i = y by omega, show j - i = j' by omega] at this
          rw [show m - i = x by omega]
          exact this
    · -- they are of one length
      subst hij
      have hcon := CALL.out dk wr x m i hds S1.out (by omega) (by omega)
      go_wp2_with (go_at_call 39; refine hcon.mono ?_; rintro e w' ⟨rfl, d', S2, Q2, N2⟩)
      go_end0
      refine ⟨rfl, d', S2, permIn_trans _ _ _ _ _ Q1.out (permIn_mono _ _ _ _ _ _ (by omega) (by omega) (by omega) Q2), fun z => ?_⟩
      rw [← N1.out z, N2 z]
      have := rot_same (fun z => dk[z]!) m i z (by omega)
      rw [show m - i = x by omega] at this ⊢
      exact this
    · -- the first part is longer
      have c1 : ¬ (i : Int) = (j : Int) := by omega
      have c2 : (j : Int) < (i : Int) := by omega
      obtain ⟨i', hi'⟩ : ∃ i', i' + j = i := ⟨i - j, by omega⟩
      have r3 : IntKind.i64.wrap ((i : Int) - (j : Int)) = (i' : Int) := by rw [IntKind.wrap_i64]; omega
      have hcon := CALL.out dk wr x m j hds S1.out (by omega) (by omega)
      go_wp2_with (go_at_call 39; refine hcon.mono ?_; rintro e w' ⟨rfl, d', S2, Q2, N2⟩)
      go_roundg (i' + j)
      case measure => omega
      case rel =>
        refine ⟨i', j, d', by first | rfl | go_num | (congr 1; omega), rfl, by omega, hj, by omega, hjb, Nat.le_refl _, by rw [Q2.1]; exact hds, S2, (show PermIn a b d d' from ?_), fun z => ?_⟩
        · exact permIn_trans _ _ _ _ _ Q1.out (permIn_mono _ _ _ _ _ _ (by omega) (by omega) (by omega) Q2)
        · rw [← N1.out z, rotF_congr N2]
          have := rot_more (fun z => dk[z]!) m i j z hij (by omega)
          rw [show m - i = x by omega, show i - j = i' by omega] at this
          rw [show m - i = x by omega]
          exact this
end Go.Proofs

namespace Go.Proofs.Hd
open Go.Sort
variable {α : Type} [Inhabited α]
theorem rot_up {d dk : Array α} {a x : Nat} (hx : a ≤ x) (hs : dk.size = d.size) (hb : x + 1 < d.size) (h : ∀ y, dk[y]! = rotF (fun y => d[y]!) a (a + 1) (x + 1) y) : ∀ y, (swp dk x (x + 1))[y]! = rotF (fun y => d[y]!) a (a + 1) (x + 1 + 1) y := by
  intro y
  rw [swp_get dk (by omega) (by omega), h, h, h]
  unfold rotF
  repeat' split
  all_goals first | rfl | (exfalso; omega) | (simp only; congr 1; omega)
theorem rot_down {d dk : Array α} {m x : Nat} (hx : x + 1 ≤ m) (hs : dk.size = d.size) (hb : m < d.size) (h : ∀ y, dk[y]! = rotF (fun y => d[y]!) (x + 1) m (m + 1) y) : ∀ y, (swp dk (x + 1) x)[y]! = rotF (fun y => d[y]!) x m (m + 1) y := by
  intro y
  rw [swp_get dk (by omega) (by omega), h, h, h]
  unfold rotF
  repeat' split
  all_goals first | rfl | (exfalso; omega) | (simp only; congr 1; omega)
end Go.Proofs.Hd
namespace Go.Proofs
open Go.Shelf Go.RowKit Go.Lib Go.Sort Go.Proofs.Hd
variable {P : Program} {k : Nat} {α : Type} [Inhabited α]
set_option maxHeartbeats 8000000 in
set_option maxRecDepth 1000000 in
theorem sym_left (L : StL P k) (enc : α → List Value) (cf : α → α → Int) (tg : α → Nat) (g : Nat) (cb : Array Value) (blk off cap N a m b : Nat) (d0 d : Array α) (w0 w : World)
    (eg : ∀ args w, (callFunc g args).run P w = .ok (.enter g args) w) (hcmp : CmpLays P g cb enc k cf blk off N w0) (hS : SWO (ltOf cf)) (R : RowK enc k w0 blk off d0) (h0 : d0.size = N) (hN : d.size = N) (S : SWK enc k w0 blk off d w)
    (U : Runs (ltOf cf) tg a m b d) (ham : a < m) (hmb : m < b) (hb : b ≤ N) (hsz : N < 1152921504606846976) (hone : m = a + 1) :
    Calls P 34 #[.slice (some ⟨blk, off, none⟩) N cap, .int .i64 a, .int .i64 m, .int .i64 b, .func (.func g) #[] cb] w fun e w' =>
      e = .returned (.tuple #[]) ∧ ∃ d', SWK enc k w0 blk off d' w' ∧ PermIn a b d d' ∧ SortedIn (tlB (ltOf cf) tg) a b d' := by
  have mixed := L.mixed; have t0 := L.t0; have a0 := L.a0; have z0 := L.z0; have v0 := L.v0; have t3 := L.t3; have a3 := L.a3; have z3 := L.z3; have v3 := L.v3; have t4 := L.t4; have a4 := L.a4; have z4 := L.z4; have v4 := L.v4; have t22 := L.tS; have a22 := L.aS; have z22 := L.zS; have v22 := L.vS; have t25 := L.tC; have a25 := L.aC; have z25 := L.zC; have v25 := L.vC; have tU := L.tU; have aU := L.aU; have zU := L.zU; have vU := L.vU
  have aE := L.aE; have zE := L.zE
  have FG := L.fSym
  have HC : Aside _ := hcmp
  have S0 : Aside (SWK enc k w0 blk off d w) := S
  have r0 : IntKind.i64.wrap ((m : Int) - (a : Int)) = 1 := by rw [IntKind.wrap_i64]; omega
  have r0' : (m : Int) - (a : Int) = 1 := by omega
  have HU : Hid (Runs (ltOf cf) tg a m b d) := U
  have HS : Hid (SWO (ltOf cf)) := hS
  have N0 : Hid (∀ y, d[y]! = rotF (fun y => d[y]!) a (a + 1) (a + 1) y) := fun y => (rot_none2 _ _ _ _).symm
  have Q0 : Hid (PermIn a b d d) := permIn_refl _ _ _
  have HO : Hid (m = a + 1) := hone
  clear S L hcmp U hS hone
  go_enter FG, Try.ntmps34
  go_wp2
  go_loopg [10, 11] (b - m) (fun kx si sj wr => ∃ (i j : Nat), si = .int .i64 i ∧ sj = .int .i64 j ∧ m ≤ i ∧ i ≤ j ∧ j ≤ b ∧ j - i ≤ kx ∧ Aside (SWK enc k w0 blk off d wr) ∧ Hid (m < i → ltOf cf d[i - 1]! d[a]! = true) ∧ Hid (j < b → ltOf cf d[j]! d[a]! = false))
  case atStart => exact ⟨m, b, by first | rfl | go_num, by first | rfl | go_num, Nat.le_refl _, by omega, Nat.le_refl _, Nat.le_refl _, S0, fun h => by omega, fun h => by omega⟩
  case round =>
    clear S0
    obtain ⟨i, j, rfl, rfl, hli, hij, hjh, hkx, S1, I1, J1⟩ := hrel
    by_cases hlt : i < j
    · have hltz : (i : Int) < (j : Int) := by omega
      obtain ⟨h, hh⟩ : ∃ h, h = (i + j) / 2 := ⟨_, rfl⟩
      have hz : ((i : Int) + (j : Int)) / 2 = (h : Int) := by omega
      have hi1 : i ≤ h := by omega
      have hj1 : h < j := by omega
      have rij : IntKind.i64.wrap ((i : Int) + (j : Int)) = (i : Int) + (j : Int) := by rw [IntKind.wrap_i64]; omega
      clear hh
      cases hL : ltOf cf d[h]! d[a]! with
      | true =>
        have ea8 : ((h : Int)).toNat = h := by omega
        have pa8 : (0 : Int) ≤ (h : Int) := by omega
        have ba8 : (h : Int) < (N : Int) := by omega
        have ra8 : IntKind.i64.wrap ((h : Int)) = (h : Int) := by rw [IntKind.wrap_i64]; omega
        have ec8 : ((a : Int)).toNat = a := by omega
        have pc8 : (0 : Int) ≤ (a : Int) := by omega
        have bc8 : (a : Int) < (N : Int) := by omega
        have rc8 : IntKind.i64.wrap ((a : Int)) = (a : Int) := by rw [IntKind.wrap_i64]; omega
        obtain ⟨x8, hx8⟩ : ∃ x, x = d[h]! := ⟨_, rfl⟩
        obtain ⟨y8, hy8⟩ : ∃ x, x = d[a]! := ⟨_, rfl⟩
        have l8a := S1.out.ld R (by omega) P (h) (by omega)
        have l8b := S1.out.ld R (by omega) P (a) (by omega)
        rw [← hx8] at l8a
        rw [← hy8] at l8b
        have hc8 := S1.out.cmp HC.out (by omega) x8 y8
        have hv8 : cf x8 y8 < 0 := by rw [hx8, hy8]; exact of_decide_eq_true hL
        have hd8 : decide (cf x8 y8 < 0) = true := decide_eq_true hv8
        clear hx8 hy8
        go_wp2_with fail
        go_quiet_grown (first | (go_at_fn g; refine Calls.grown_of (hc8 _ _)))
        have S2 : Aside (SWK enc k w0 blk off d (grow (wr.drewN nq) osq)) := S1.out.grown nq osq
        clear l8a l8b hc8 S1
        generalize grow (wr.drewN nq) osq = w2 at S2 ⊢
        clear nq osq
        go_wp2
        go_roundg (j - (h + 1))
        case measure => omega
        case rel => exact ⟨h + 1, j, by first | rfl | go_num | (congr 1; omega), rfl, by omega, by omega, hjh, Nat.le_refl _, S2, fun _ => by simpa using hL, J1⟩
      | false =>
        have ea8 : ((h : Int)).toNat = h := by omega
        have pa8 : (0 : Int) ≤ (h : Int) := by omega
        have ba8 : (h : Int) < (N : Int) := by omega
        have ra8 : IntKind.i64.wrap ((h : Int)) = (h : Int) := by rw [IntKind.wrap_i64]; omega
        have ec8 : ((a : Int)).toNat = a := by omega
        have pc8 : (0 : Int) ≤ (a : Int) := by omega
        have bc8 : (a : Int) < (N : Int) := by omega
        have rc8 : IntKind.i64.wrap ((a : Int)) = (a : Int) := by rw [IntKind.wrap_i64]; omega
        obtain ⟨x8, hx8⟩ : ∃ x, x = d[h]! := ⟨_, rfl⟩
        obtain ⟨y8, hy8⟩ : ∃ x, x = d[a]! := ⟨_, rfl⟩
        have l8a := S1.out.ld R (by omega) P (h) (by omega)
        have l8b := S1.out.ld R (by omega) P (a) (by omega)
        rw [← hx8] at l8a
        rw [← hy8] at l8b
        have hc8 := S1.out.cmp HC.out (by omega) x8 y8
        have hv8 : ¬ cf x8 y8 < 0 := by rw [hx8, hy8]; exact of_decide_eq_false hL
        have hd8 : decide (cf x8 y8 < 0) = false := decide_eq_false hv8
        clear hx8 hy8
        go_wp2_with fail
        go_quiet_grown (first | (go_at_fn g; refine Calls.grown_of (hc8 _ _)))
        have S2 : Aside (SWK enc k w0 blk off d (grow (wr.drewN nq) osq)) := S1.out.grown nq osq
        clear l8a l8b hc8 S1
        generalize grow (wr.drewN nq) osq = w2 at S2 ⊢
        clear nq osq
        go_wp2
        go_roundg (h - i)
        case measure => omega
        case rel => exact ⟨i, h, rfl, by first | rfl | go_num | (congr 1; omega), hli, hi1, by omega, Nat.le_refl _, S2, I1, fun _ => hL⟩
    · have hltz : ¬ (i : Int) < (j : Int) := by omega
      obtain rfl : i = j := by omega
      obtain ⟨u, hu⟩ : ∃ u, u + 1 = i := ⟨i - 1, by omega⟩
      have ru : IntKind.i64.wrap ((i : Int) - 1) = (u : Int) := by rw [IntKind.wrap_i64]; omega
      have ru' : (i : Int) - 1 = (u : Int) := by omega
      go_wp2
      go_loopg [13] (u - a) (fun kx sk wr2 => ∃ (x : Nat) (dk : Array α), sk = .int .i64 x ∧ a ≤ x ∧ x ≤ u ∧ u - x ≤ kx ∧ dk.size = N ∧ Aside (SWK enc k w0 blk off dk wr2) ∧ Hid (PermIn a b d dk) ∧ Hid (∀ y, dk[y]! = rotF (fun y => d[y]!) a (a + 1) (x + 1) y))
      case atStart => exact ⟨a, d, rfl, Nat.le_refl _, by omega, Nat.le_refl _, hN, S1, Q0, N0⟩
      case round =>
        clear S1 Q0 N0
        obtain ⟨x, dk, rfl, hax, hxu, hkx2, hds, S2, Q2, N2⟩ := hrel
        by_cases hxl : x < u
        · have hxz : (x : Int) < (u : Int) := by omega
          have ea9 : ((x : Int)).toNat = x := by omega
          have pa9 : (0 : Int) ≤ (x : Int) := by omega
          have ba9 : (x : Int) < (N : Int) := by omega
          have ra9 : IntKind.i64.wrap ((x : Int)) = (x : Int) := by rw [IntKind.wrap_i64]; omega
          have ec9 : ((x : Int) + 1).toNat = x + 1 := by omega
          have pc9 : (0 : Int) ≤ (x : Int) + 1 := by omega
          have bc9 : (x : Int) + 1 < (N : Int) := by omega
          have rc9 : IntKind.i64.wrap ((x : Int) + 1) = (x : Int) + 1 := by rw [IntKind.wrap_i64]; omega
          have S3 : Aside (SWK enc k w0 blk off (swp dk (x) (x + 1)) ((wr.drew.setCells blk (off + (x) * k) (enc dk[x + 1]!)).setCells blk (off + (x + 1) * k) (enc dk[x]!))) := S2.out.swapped R (x) (x + 1) (by omega) (by omega)
          have l9a := S2.out.ld1 R (by omega) P (x) (by omega)
          have l9b := S2.out.ld1 R (by omega) P (x + 1) (by omega)
          have s9a := S2.out.st1 R (by omega) P (x) (by omega) dk[x + 1]!
          have s9b := S2.out.st2 R (by omega) P (x) (x + 1) (by omega) (by omega) dk[x + 1]! dk[x]!
          have n9a : (enc dk[x]!).length = k := R.hk _
          have n9b : (enc dk[x + 1]!).length = k := R.hk _
          generalize enc dk[x]! = cI9 at S3 l9a s9b n9a
          generalize enc dk[x + 1]! = cJ9 at S3 l9b s9a s9b n9b
          clear S2
          go_wp2_with fail
          go_big_region_o
          clear l9a l9b s9a s9b
          generalize (wr.drew.setCells blk (off + (x) * k) cJ9).setCells blk (off + (x + 1) * k) cI9 = w3 at S3 ⊢
          go_wp2
          go_roundg (u - (x + 1))
          case measure => omega
          case rel => exact ⟨x + 1, swp dk x (x + 1), by first | rfl | go_num, by omega, by omega, Nat.le_refl _, by rw [size_swp]; exact hds, S3, permIn_trans _ _ _ _ _ Q2.out (swp_permIn dk a b x (x + 1) hax (by omega) (by omega) (by omega) (by omega)), rot_up hax (hds.trans hN.symm) (by omega) N2.out⟩
        · have hxz : ¬ (x : Int) < (u : Int) := by omega
          obtain rfl : x = u := by omega
          go_wp2
          refine bodyPost_ret (v := .tuple #[]) (results_none Try.results34 _ _ _) rfl ?_
          refine ⟨rfl, dk, S2.out, Q2.out, ?_⟩
          have hU := HU.out
          have hone := HO.out
          subst hone
          rw [hu] at N2
          exact hU.one_left HS.out (by omega) (by omega) N2.out (fun q => by have := I1.out (by omega); exact this) (fun q => J1.out q)
set_option maxHeartbeats 8000000 in
set_option maxRecDepth 1000000 in
theorem sym_right (L : StL P k) (enc : α → List Value) (cf : α → α → Int) (tg : α → Nat) (g : Nat) (cb : Array Value) (blk off cap N a m b : Nat) (d0 d : Array α) (w0 w : World)
    (eg : ∀ args w, (callFunc g args).run P w = .ok (.enter g args) w) (hcmp : CmpLays P g cb enc k cf blk off N w0) (hS : SWO (ltOf cf)) (R : RowK enc k w0 blk off d0) (h0 : d0.size = N) (hN : d.size = N) (S : SWK enc k w0 blk off d w)
    (U : Runs (ltOf cf) tg a m b d) (hmb : m < b) (hb : b ≤ N) (hsz : N < 1152921504606846976) (hone : b = m + 1) (hn1 : a + 1 < m) :
    Calls P 34 #[.slice (some ⟨blk, off, none⟩) N cap, .int .i64 a, .int .i64 m, .int .i64 b, .func (.func g) #[] cb] w fun e w' =>
      e = .returned (.tuple #[]) ∧ ∃ d', SWK enc k w0 blk off d' w' ∧ PermIn a b d d' ∧ SortedIn (tlB (ltOf cf) tg) a b d' := by
  have mixed := L.mixed; have t0 := L.t0; have a0 := L.a0; have z0 := L.z0; have v0 := L.v0; have t3 := L.t3; have a3 := L.a3; have z3 := L.z3; have v3 := L.v3; have t4 := L.t4; have a4 := L.a4; have z4 := L.z4; have v4 := L.v4; have t22 := L.tS; have a22 := L.aS; have z22 := L.zS; have v22 := L.vS; have t25 := L.tC; have a25 := L.aC; have z25 := L.zC; have v25 := L.vC; have tU := L.tU; have aU := L.aU; have zU := L.zU; have vU := L.vU
  have aE := L.aE; have zE := L.zE
  have FG := L.fSym
  have HC : Aside _ := hcmp
  have S0 : Aside (SWK enc k w0 blk off d w) := S
  obtain ⟨zz, hzz⟩ : ∃ z, z + a = m := ⟨m - a, by omega⟩
  have r1 : IntKind.i64.wrap ((m : Int) - (a : Int)) = (zz : Int) := by rw [IntKind.wrap_i64]; omega
  have r1' : (m : Int) - (a : Int) = (zz : Int) := by omega
  have r1n : ¬ (zz : Int) = 1 := by omega
  have r1m : ¬ zz = 1 := by omega
  have r1b : ((zz : Int) == 1) = false := by rw [beq_eq_false_iff_ne]; omega
  have r0 : IntKind.i64.wrap ((b : Int) - (m : Int)) = 1 := by rw [IntKind.wrap_i64]; omega
  have r0' : (b : Int) - (m : Int) = 1 := by omega
  have HU : Hid (Runs (ltOf cf) tg a m b d) := U
  have HS : Hid (SWO (ltOf cf)) := hS
  have N0 : Hid (∀ y, d[y]! = rotF (fun y => d[y]!) m m (m + 1) y) := fun y => (rot_none1 _ _ _ _).symm
  have Q0 : Hid (PermIn a b d d) := permIn_refl _ _ _
  have HO : Hid (b = m + 1) := hone
  clear S L hcmp U hS hone
  go_enter FG, Try.ntmps34
  go_wp2
  go_loopg [14, 15] (m - a) (fun kx si sj wr => ∃ (i j : Nat), si = .int .i64 i ∧ sj = .int .i64 j ∧ a ≤ i ∧ i ≤ j ∧ j ≤ m ∧ j - i ≤ kx ∧ Aside (SWK enc k w0 blk off d wr) ∧ Hid (a < i → ltOf cf d[m]! d[i - 1]! = false) ∧ Hid (j < m → ltOf cf d[m]! d[j]! = true))
  case atStart => exact ⟨a, m, by first | rfl | go_num, by first | rfl | go_num, Nat.le_refl _, by omega, Nat.le_refl _, Nat.le_refl _, S0, fun h => by omega, fun h => by omega⟩
  case round =>
    clear S0
    obtain ⟨i, j, rfl, rfl, hli, hij, hjh, hkx, S1, I1, J1⟩ := hrel
    by_cases hlt : i < j
    · have hltz : (i : Int) < (j : Int) := by omega
      obtain ⟨h, hh⟩ : ∃ h, h = (i + j) / 2 := ⟨_, rfl⟩
      have hz : ((i : Int) + (j : Int)) / 2 = (h : Int) := by omega
      have hi1 : i ≤ h := by omega
      have hj1 : h < j := by omega
      have rij : IntKind.i64.wrap ((i : Int) + (j : Int)) = (i : Int) + (j : Int) := by rw [IntKind.wrap_i64]; omega
      clear hh
      cases hL : ltOf cf d[m]! d[h]! with
      | true =>
        have ea8 : ((m : Int)).toNat = m := by omega
        have pa8 : (0 : Int) ≤ (m : Int) := by omega
        have ba8 : (m : Int) < (N : Int) := by omega
        have ra8 : IntKind.i64.wrap ((m : Int)) = (m : Int) := by rw [IntKind.wrap_i64]; omega
        have ec8 : ((h : Int)).toNat = h := by omega
        have pc8 : (0 : Int) ≤ (h : Int) := by omega
        have bc8 : (h : Int) < (N : Int) := by omega
        have rc8 : IntKind.i64.wrap ((h : Int)) = (h : Int) := by rw [IntKind.wrap_i64]; omega
        obtain ⟨x8, hx8⟩ : ∃ x, x = d[m]! := ⟨_, rfl⟩
        obtain ⟨y8, hy8⟩ : ∃ x, x = d[h]! := ⟨_, rfl⟩
        have l8a := S1.out.ld R (by omega) P (m) (by omega)
        have l8b := S1.out.ld R (by omega) P (h) (by omega)
        rw [← hx8] at l8a
        rw [← hy8] at l8b
        have hc8 := S1.out.cmp HC.out (by omega) x8 y8
        have hv8 : cf x8 y8 < 0 := by rw [hx8, hy8]; exact of_decide_eq_true hL
        have hd8 : decide (cf x8 y8 < 0) = true := decide_eq_true hv8
        clear hx8 hy8
        go_wp2_with fail
        go_quiet_grown (first | (go_at_fn g; refine Calls.grown_of (hc8 _ _)))
        have S2 : Aside (SWK enc k w0 blk off d (grow (wr.drewN nq) osq)) := S1.out.grown nq osq
        clear l8a l8b hc8 S1
        generalize grow (wr.drewN nq) osq = w2 at S2 ⊢
        clear nq osq
        go_wp2
        go_roundg (h - i)
        case measure => omega
        case rel => exact ⟨i, h, rfl, by first | rfl | go_num | (congr 1; omega), hli, hi1, by omega, Nat.le_refl _, S2, I1, fun _ => hL⟩
      | false =>
        have ea8 : ((m : Int)).toNat = m := by omega
        have pa8 : (0 : Int) ≤ (m : Int) := by omega
        have ba8 : (m : Int) < (N : Int) := by omega
        have ra8 : IntKind.i64.wrap ((m : Int)) = (m : Int) := by rw [IntKind.wrap_i64]; omega
        have ec8 : ((h : Int)).toNat = h := by omega
        have pc8 : (0 : Int) ≤ (h : Int) := by omega
        have bc8 : (h : Int) < (N : Int) := by omega
        have rc8 : IntKind.i64.wrap ((h : Int)) = (h : Int) := by rw [IntKind.wrap_i64]; omega
        obtain ⟨x8, hx8⟩ : ∃ x, x = d[m]! := ⟨_, rfl⟩
        obtain ⟨y8, hy8⟩ : ∃ x, x = d[h]! := ⟨_, rfl⟩
        have l8a := S1.out.ld R (by omega) P (m) (by omega)
        have l8b := S1.out.ld R (by omega) P (h) (by omega)
        rw [← hx8] at l8a
        rw [← hy8] at l8b
        have hc8 := S1.out.cmp HC.out (by omega) x8 y8
        have hv8 : ¬ cf x8 y8 < 0 := by rw [hx8, hy8]; exact of_decide_eq_false hL
        have hd8 : decide (cf x8 y8 < 0) = false := decide_eq_false hv8
        clear hx8 hy8
        go_wp2_with fail
        go_quiet_grown (first | (go_at_fn g; refine Calls.grown_of (hc8 _ _)))
        have S2 : Aside (SWK enc k w0 blk off d (grow (wr.drewN nq) osq)) := S1.out.grown nq osq
        clear l8a l8b hc8 S1
        generalize grow (wr.drewN nq) osq = w2 at S2 ⊢
        clear nq osq
        go_wp2
        go_roundg (j - (h + 1))
        case measure => omega
        case rel => exact ⟨h + 1, j, by first | rfl | go_num | (congr 1; omega), rfl, by omega, by omega, hjh, Nat.le_refl _, S2, fun _ => by simpa using hL, J1⟩
    · have hltz : ¬ (i : Int) < (j : Int) := by omega
      obtain rfl : i = j := by omega
      go_wp2
      go_loopg [17] (m - i) (fun kx sk wr2 => ∃ (x : Nat) (dk : Array α), sk = .int .i64 x ∧ i ≤ x ∧ x ≤ m ∧ x - i ≤ kx ∧ dk.size = N ∧ Aside (SWK enc k w0 blk off dk wr2) ∧ Hid (PermIn a b d dk) ∧ Hid (∀ y, dk[y]! = rotF (fun y => d[y]!) x m (m + 1) y))
      case atStart => exact ⟨m, d, rfl, by omega, Nat.le_refl _, Nat.le_refl _, hN, S1, Q0, N0⟩
      case round =>
        clear S1 Q0 N0
        obtain ⟨x, dk, rfl, hax, hxu, hkx2, hds, S2, Q2, N2⟩ := hrel
        by_cases hxl : i < x
        · obtain ⟨y, rfl⟩ : ∃ y, x = y + 1 := ⟨x - 1, by omega⟩
          have hxz : (i : Int) < ((y + 1 : Nat) : Int) := by omega
          have hxz2 : (i : Int) < (y : Int) + 1 := by omega
          have ry : IntKind.i64.wrap ((y : Int) + 1) = (y : Int) + 1 := by rw [IntKind.wrap_i64]; omega
          have ea9 : ((y : Int) + 1).toNat = y + 1 := by omega
          have pa9 : (0 : Int) ≤ (y : Int) + 1 := by omega
          have ba9 : (y : Int) + 1 < (N : Int) := by omega
          have ra9 : IntKind.i64.wrap ((y : Int) + 1) = (y : Int) + 1 := by rw [IntKind.wrap_i64]; omega
          have ec9 : ((y : Int)).toNat = y := by omega
          have pc9 : (0 : Int) ≤ (y : Int) := by omega
          have bc9 : (y : Int) < (N : Int) := by omega
          have rc9 : IntKind.i64.wrap ((y : Int)) = (y : Int) := by rw [IntKind.wrap_i64]; omega
          have S3 : Aside (SWK enc k w0 blk off (swp dk (y + 1) (y)) ((wr.drew.setCells blk (off + (y + 1) * k) (enc dk[y]!)).setCells blk (off + (y) * k) (enc dk[y + 1]!))) := S2.out.swapped R (y + 1) (y) (by omega) (by omega)
          have l9a := S2.out.ld1 R (by omega) P (y + 1) (by omega)
          have l9b := S2.out.ld1 R (by omega) P (y) (by omega)
          have s9a := S2.out.st1 R (by omega) P (y + 1) (by omega) dk[y]!
          have s9b := S2.out.st2 R (by omega) P (y + 1) (y) (by omega) (by omega) dk[y]! dk[y + 1]!
          have n9a : (enc dk[y + 1]!).length = k := R.hk _
          have n9b : (enc dk[y]!).length = k := R.hk _
          generalize enc dk[y + 1]! = cI9 at S3 l9a s9b n9a
          generalize enc dk[y]! = cJ9 at S3 l9b s9a s9b n9b
          clear S2
          go_wp2_with fail
          go_big_region_o
          clear l9a l9b s9a s9b
          generalize (wr.drew.setCells blk (off + (y + 1) * k) cJ9).setCells blk (off + (y) * k) cI9 = w3 at S3 ⊢
          go_wp2
          go_roundg (y - i)
          case measure => omega
          case rel => exact ⟨y, swp dk (y + 1) y, by first | rfl | go_num | (congr 1; omega), by omega, by omega, Nat.le_refl _, by rw [size_swp]; exact hds, S3, permIn_trans _ _ _ _ _ Q2.out (swp_permIn dk a b (y + 1) y (by omega) (by omega) (by omega) (by omega) (by omega)), rot_down hxu (hds.trans hN.symm) (by omega) N2.out⟩
        · have hxz : ¬ (i : Int) < (x : Int) := by omega
          obtain rfl : x = i := by omega
          go_wp2
          refine bodyPost_ret (v := .tuple #[]) (results_none Try.results34 _ _ _) rfl ?_
          refine ⟨rfl, dk, S2.out, Q2.out, ?_⟩
          have hU := HU.out
          have hone := HO.out
          subst hone
          exact hU.one_right HS.out hli hjh N2.out (fun q => J1.out q) (fun q => I1.out q)
end Go.Proofs
