/-
  Plain facts on worlds: blocks known whole, rows that a call owns, appending what lies anywhere to such a row. No program in sight. No conditions.
  Contracts of package cube: Sound, Has, Make, All, Set, agree, withBit: what they return, and that they change nothing that was there. No conditions.
  Rules in memory, as rows of twelve cells; equality of two rules; contracts of package rule: the order's method, Same, Before, Set. No conditions.
  Lists of rules: the order of priorities that keeps equals as they stand; rules in memory as rows of twelve cells. Conditions as each theorem lists them.
  Contracts of package cube: Meet, Within, Before, After: what they return, and that they change nothing that was there. Conditions as each theorem lists them.
  Contracts of package cube: Within: what they return, and that they change nothing that was there. Conditions as each theorem lists them.
  Contracts of cube's Meet, Within, Before and After for all inputs, each in one sentence. No conditions.
  Plain mathematics: the cubes of a difference: each lies within the first cube, and each header of the first cube is in just one of them or in the intersection. No conditions.
  Ports in memory; contracts of package rule: isPort, leadsWell, Sound. No conditions.
  How a rule handed in by value, a slice of rules and a slice of ports read. No conditions.
  Contracts of the inner functions of package head (isField, isNumber, lowest, below, shiftedDown, shiftedUp), of cmp.Compare and OnesCount64, of Ones and of Bit outside 0..127. Conditions as each theorem lists them.
  Contracts of Bit, Mask and Get of package head and of cmp.Or at two values. Conditions as each theorem lists them.
  Contracts of Put of package head: the field is set, or ErrArg, or ErrRange. Conditions as each theorem lists them.
-/
import Derived.Test.YtfmfbkfppfohbaaJ1
import Derived.Deep.AppendLies
import Derived.Laws.OwnMore
import Derived.OneCell
import Derived.Deep.Onto
import Derived.Maps.AppendAt
import Derived.Laws.AppendOwnNone
import Derived.BigFrame
import Derived.Lib.AppendStr
import Derived.Lib.AppendZeros
import Derived.Deep.RegionHeld3
import Derived.Deep.RegionWith
import Derived.Deep.Slices
import Derived.Deep.Strs
namespace Go.Proofs
open Go.RowKit
theorem below1 (w : World) (o : Obj) : Below w.heap.size w (w.alloc o) := (Below.refl _ _).alloc (Nat.le_refl _) _
theorem below2 (w : World) (o p : Obj) : Below w.heap.size w ((w.alloc o).alloc p) := (below1 w o).alloc (by simp) _
theorem below3 (w : World) (o p q : Obj) : Below w.heap.size w (((w.alloc o).alloc p).alloc q) := (below2 w o p).alloc (by simp; omega) _
theorem below4 (w : World) (o p q r : Obj) : Below w.heap.size w ((((w.alloc o).alloc p).alloc q).alloc r) := (below3 w o p q).alloc (by simp; omega) _
end Go.Proofs
namespace Go.Proofs.Hd
open Go.RowKit
theorem grown_of_below {w w' : World} (hb : Below w.heap.size w w') (row : Option Nat) : w.grownBy w' row := ⟨hb.os, hb.tape, hb.output, hb.size, fun k hk _ => hb.block k hk⟩
theorem own_on {w w' : World} {base : Nat} {e : TypeId} {size : Nat} {v : Value} {n : Nat} {xs : List Value} (h : w.ownsRow base e size v n xs) (hb : Below w.heap.size w w') : w'.ownsRow base e size v n xs := by
  refine h.kept (grown_of_below hb none) ?_
  cases v.ownBlock with
  | none => exact .inl rfl
  | some k => exact .inr (by simp)
/-- Block g is just these cells, and may be written. -/
def Blk (w : World) (g : Nat) (t : TypeId) (cs : Array Value) : Prop := w.heap[g]? = some (.cells cs t (0, 0))
theorem Blk.lt {w : World} {g : Nat} {t : TypeId} {cs : Array Value} (h : Blk w g t cs) : g < w.heap.size := by
  rcases Nat.lt_or_ge g w.heap.size with hlt | hge
  · exact hlt
  · unfold Blk at h; rw [Array.getElem?_eq_none hge] at h; cases h
theorem Blk.cell {w : World} {g : Nat} {t : TypeId} {cs : Array Value} (h : Blk w g t cs) (i : Nat) : w.cell? ⟨g, i, none⟩ = cs[i]? := cell_of_row w g i cs t (0, 0) h
theorem Blk.free {w : World} {g : Nat} {t : TypeId} {cs : Array Value} (h : Blk w g t cs) (i : Nat) : w.frozen? ⟨g, i, none⟩ = false := by
  unfold Blk at h; simp [World.frozen?, h]
theorem Blk.on {w w' : World} {g : Nat} {t : TypeId} {cs : Array Value} (h : Blk w g t cs) (hb : Below w.heap.size w w') : Blk w' g t cs := (hb.block g h.lt).trans h
theorem Blk.new (w : World) (t : TypeId) (cs : Array Value) : Blk (w.alloc (.cells cs t)) w.heap.size t cs := heap_alloc_new w _
theorem Blk.far {w : World} {g : Nat} {t : TypeId} {cs : Array Value} (h : Blk w g t cs) {p : Addr} (hp : g ≠ p.block) (u : Value) : Blk (w.setCell p u) g t cs := (Below.heap_setCell w p u g hp).trans h
theorem Blk.set {w : World} {g : Nat} {t : TypeId} {cs : Array Value} (h : Blk w g t cs) (i : Nat) (u : Value) : Blk (w.setCell ⟨g, i, none⟩ u) g t (cs.setIfInBounds i u) := by
  unfold Blk at h ⊢; simp [World.setCell, Array.getElem?_modify, h]
theorem Blk.grown {w w' : World} {g : Nat} {t : TypeId} {cs : Array Value} {row : Option Nat} (h : Blk w g t cs) (hb : w.grownBy w' row) (hg : some g ≠ row) : Blk w' g t cs := (hb.block g h.lt hg).trans h
/-- A row that is owned and a block of another element type are apart. -/
theorem own_apart {w : World} {base : Nat} {e t : TypeId} {size n g : Nat} {v : Value} {xs : List Value} {cs : Array Value} (h : w.ownsRow base e size v n xs) (hg : Blk w g t cs) (hne : e ≠ t) : some g ≠ v.ownBlock := by
  rcases h.2 with ⟨rfl, _⟩ | ⟨g', cap, cur, rfl, _, hh, _⟩
  · simp [Value.ownBlock]
  · intro he
    have e1 : g = g' := by simpa [Value.ownBlock] using he
    subst e1
    unfold Blk at hg
    rw [hh] at hg
    injection hg with hg
    injection hg with _ ht
    exact hne ht
theorem own_base {w : World} {base : Nat} {e : TypeId} {size n g : Nat} {v : Value} {xs : List Value} (h : w.ownsRow base e size v n xs) (hg : g < base) : some g ≠ v.ownBlock := by
  intro he
  have := (h.lt g he.symm).1
  omega
/-- Block g holds cells of type t. -/
def TB (w : World) (g : Nat) (t : TypeId) : Prop := ∃ cs fr, w.heap[g]? = some (.cells cs t fr)
theorem TB.lt {w : World} {g : Nat} {t : TypeId} (h : TB w g t) : g < w.heap.size := by
  obtain ⟨cs, fr, h⟩ := h
  rcases Nat.lt_or_ge g w.heap.size with hlt | hge
  · exact hlt
  · rw [Array.getElem?_eq_none hge] at h; cases h
theorem TB.on {w w' : World} {g : Nat} {t : TypeId} (h : TB w g t) (hb : Below w.heap.size w w') : TB w' g t := by
  obtain ⟨cs, fr, e⟩ := h
  exact ⟨cs, fr, (hb.block g (TB.lt ⟨cs, fr, e⟩)).trans e⟩
theorem TB.grown {w w' : World} {g : Nat} {t : TypeId} {row : Option Nat} (h : TB w g t) (hb : w.grownBy w' row) (hg : some g ≠ row) : TB w' g t := by
  obtain ⟨cs, fr, e⟩ := h
  exact ⟨cs, fr, (hb.block g (TB.lt ⟨cs, fr, e⟩) hg).trans e⟩
theorem TB.set {w : World} {g i : Nat} {t : TypeId} {v : Value} (h : TB w g t) : TB (w.setCell ⟨g, i, none⟩ v) g t := by
  obtain ⟨cs, fr, e⟩ := h
  refine ⟨cs.setIfInBounds i v, fr, ?_⟩
  simp [World.setCell, Array.getElem?_modify, e]
theorem own_apartT {w : World} {base : Nat} {e t : TypeId} {size n g : Nat} {v : Value} {xs : List Value} (h : w.ownsRow base e size v n xs) (hg : TB w g t) (hne : e ≠ t) : some g ≠ v.ownBlock := by
  rcases h.2 with ⟨rfl, _⟩ | ⟨g', cap, cur, rfl, _, hh, _⟩
  · simp [Value.ownBlock]
  · intro he
    have e1 : g = g' := by simpa [Value.ownBlock] using he
    subst e1
    obtain ⟨cs, fr, hg⟩ := hg
    rw [hh] at hg
    injection hg with hg
    injection hg with _ ht
    exact hne ht
/-- v is a slice of m elements of 'size' cells each that reads as the cells 'news'. -/
def Src (w : World) (size : Nat) (v : Value) (m : Nat) (news : List Value) : Prop :=
  news.length = m * size ∧ (∀ u ∈ news, u.oneCell' = true) ∧ ((m = 0 ∧ ∃ c, v = .slice none 0 c) ∨ ∃ ad c, v = .slice (some ad) m c ∧ ∀ (j : Nat) (u : Value), news[j]? = some u → w.cell? (ad.add j) = some u)
section
variable {P : Program} (w : World)
theorem run_app (base : Nat) (t ty e : TypeId) (i : TypeInfo) (z : Value) (size bytes : Nat) (ht : P.underlying t = some (.slice e)) (hi : P.info? e = some i) (hz : i.zero = some z)
    (hsize : i.size = size) (hby : i.bytes = bytes) (hzs : z.cells.size = size) (hsz : 0 < size) (v : Value) (n : Nat) (xs : List Value) (hown : w.ownsRow base e size v n xs)
    (x : Value) (m : Nat) (news : List Value) (hx : Src w size x m news) (h63 : n + m ≤ maxLen) (hbytes : (n + m) * bytes ≤ 140737488355328) (hbase : base ≤ w.heap.size) :
    ∃ v' w', (Builtin.append_ #[t, t] ty #[v, x]).run P w = .ok v' w' ∧ w'.ownsRow base e size v' (n + m) (xs ++ news) ∧ w.grownBy w' v.ownBlock := by
  obtain ⟨hl, h1, ⟨rfl, c, rfl⟩ | ⟨ad, c, rfl, hc⟩⟩ := hx
  · obtain rfl : news = [] := List.eq_nil_of_length_eq_zero (by simpa using hl)
    refine ⟨v, w, ?_, by simpa using hown, World.grownBy.refl w _⟩
    rcases hown.2 with ⟨rfl, rfl⟩ | ⟨g, cap, cur, rfl, _, _, hnc, _⟩
    · simp [Builtin.append_, run_underlying ht, sizeOf, typeInfo, hi, Builtin.lenOf, Builtin.firstCells]
    · simp [Builtin.append_, run_underlying ht, sizeOf, typeInfo, hi, Builtin.lenOf, Builtin.firstCells, hnc, storeCells]
  · obtain ⟨v', w', hr, h2, h3, _, _⟩ := run_append_own_at (P := P) w base t ty e i z size bytes ht hi hz hsize hby hzs hsz v n xs hown ad m c news hl hc h1 h63 hbytes hbase
    exact ⟨v', w', hr, h2, h3⟩
theorem wp_app {o : Oper} {a : Act} {K : Act → World → Prop} {Q : Exit → Act → World → Prop} (s x : Operand) (t : TypeId)
    (ho : o.op = .call { callee := .builtin .append, args := #[s, x], argTypes := #[t, t] }) (base : Nat) (e : TypeId) (i : TypeInfo) (z : Value) (size bytes : Nat) (ht : P.underlying t = some (.slice e)) (hi : P.info? e = some i) (hz : i.zero = some z)
    (hsize : i.size = size) (hby : i.bytes = bytes) (hzs : z.cells.size = size) (hsz : 0 < size) (v : Value) (n : Nat) (xs : List Value) (hs : a.eval s = v) (hown : w.ownsRow base e size v n xs)
    (y : Value) (m : Nat) (news : List Value) (hy : a.eval x = y) (hx : Src w size y m news) (h63 : n + m ≤ maxLen) (hbytes : (n + m) * bytes ≤ 140737488355328) (hbase : base ≤ w.heap.size)
    (h : ∀ v' w', w'.ownsRow base e size v' (n + m) (xs ++ news) → w.grownBy w' v.ownBlock → K (a.put o.dst v') w') : o.wp P a w K Q := by
  obtain ⟨v', w', hr, h2, h3⟩ := run_app (P := P) w base t o.type e i z size bytes ht hi hz hsize hby hzs hsz v n xs hown y m news hx h63 hbytes hbase
  exact Lib.wp_append_run w s x t t ho v y hs hy v' w' hr (h v' w' h2 h3)
theorem wpList_app {ops : Array Oper} {rest : List Oper} {o : Oper} {a : Act} {Q : Exit → Act → World → Prop} (hgd : o.guard = none) (s x : Operand) (t : TypeId)
    (ho : o.op = .call { callee := .builtin .append, args := #[s, x], argTypes := #[t, t] }) (base : Nat) (e : TypeId) (i : TypeInfo) (z : Value) (size bytes : Nat) (ht : P.underlying t = some (.slice e)) (hi : P.info? e = some i) (hz : i.zero = some z)
    (hsize : i.size = size) (hby : i.bytes = bytes) (hzs : z.cells.size = size) (hsz : 0 < size) (v : Value) (n : Nat) (xs : List Value) (hs : a.eval s = v) (hown : w.ownsRow base e size v n xs)
    (y : Value) (m : Nat) (news : List Value) (hy : a.eval x = y) (hx : Src w size y m news) (h63 : n + m ≤ maxLen) (hbytes : (n + m) * bytes ≤ 140737488355328) (hbase : base ≤ w.heap.size)
    (h : ∀ v' w', w'.ownsRow base e size v' (n + m) (xs ++ news) → w.grownBy w' v.ownBlock → wpList P ops Q rest (a.put o.dst v') w') : wpList P ops Q (o :: rest) a w :=
  wpList_plain hgd fun _ hK => wp_app w s x t ho base e i z size bytes ht hi hz hsize hby hzs hsz v n xs hs hown y m news hy hx h63 hbytes hbase fun v' w' h2 h3 => hK _ _ (h v' w' h2 h3)
end
section
variable {P : Program} (w : World)
theorem step_app {ops : Array Oper} {o : Oper} {a : Act} {K : Act → World → Prop} {Q : Exit → Act → World → Prop} {E : Prop} (hgd : o.guard = none) (s x : Operand) (t : TypeId)
    (ho : o.op = .call { callee := .builtin .append, args := #[s, x], argTypes := #[t, t] }) (base : Nat) (e : TypeId) (i : TypeInfo) (z : Value) (size bytes : Nat) (ht : P.underlying t = some (.slice e)) (hi : P.info? e = some i) (hz : i.zero = some z)
    (hsize : i.size = size) (hby : i.bytes = bytes) (hzs : z.cells.size = size) (hsz : 0 < size) (v : Value) (n : Nat) (xs : List Value) (hs : a.eval s = v) (hown : w.ownsRow base e size v n xs)
    (y : Value) (m : Nat) (news : List Value) (hy : a.eval x = y) (hx : Src w size y m news) (h63 : n + m ≤ maxLen) (hbytes : (n + m) * bytes ≤ 140737488355328) (hbase : base ≤ w.heap.size)
    (h : ∀ v' w', w'.ownsRow base e size v' (n + m) (xs ++ news) → w.grownBy w' v.ownBlock → K (a.put o.dst v') w') :
    if Region.wanted o (yielded ops a.tmps) = true then Oper.wp P o a w K Q else E := by
  have hw : Region.wanted o (yielded ops a.tmps) = true := by simp [Region.wanted, hgd]
  rw [if_pos hw]
  exact wp_app w s x t ho base e i z size bytes ht hi hz hsize hby hzs hsz v n xs hs hown y m news hy hx h63 hbytes hbase h
end
theorem wpList_appW {P : Program} (w : World) {ops : Array Oper} {rest : List Oper} {o : Oper} {a : Act} {Q : Exit → Act → World → Prop} (hw : Region.wanted o (yielded ops a.tmps) = true) (s x : Operand) (t : TypeId)
    (ho : o.op = .call { callee := .builtin .append, args := #[s, x], argTypes := #[t, t] }) (base : Nat) (e : TypeId) (i : TypeInfo) (z : Value) (size bytes : Nat) (ht : P.underlying t = some (.slice e)) (hi : P.info? e = some i) (hz : i.zero = some z)
    (hsize : i.size = size) (hby : i.bytes = bytes) (hzs : z.cells.size = size) (hsz : 0 < size) (v : Value) (n : Nat) (xs : List Value) (hs : a.eval s = v) (hown : w.ownsRow base e size v n xs)
    (y : Value) (m : Nat) (news : List Value) (hy : a.eval x = y) (hx : Src w size y m news) (h63 : n + m ≤ maxLen) (hbytes : (n + m) * bytes ≤ 140737488355328) (hbase : base ≤ w.heap.size)
    (h : ∀ v' w', w'.ownsRow base e size v' (n + m) (xs ++ news) → w.grownBy w' v.ownBlock → wpList P ops Q rest (a.put o.dst v') w') : wpList P ops Q (o :: rest) a w :=
  BigFrame.wpList_want hw fun _ hK => wp_app w s x t ho base e i z size bytes ht hi hz hsize hby hzs hsz v n xs hs hown y m news hy hx h63 hbytes hbase fun v' w' h2 h3 => hK _ _ (h v' w' h2 h3)
end Go.Proofs.Hd

namespace Go.Proofs
open Go.RowKit Go.Proofs.Hd
attribute [local go_sem] uv_and uv_or uv_xor uv_andNot uv_shr uv_shl uv_add uv_sub uv_nonneg

theorem run_eq2 (w : World) (a b c d : Int) : (Op.equalIn 10000 44 (.agg #[.int .u64 a, .int .u64 b]) (.agg #[.int .u64 c, .int .u64 d])).run Try.prog w = .ok (eq2 a b c d) w := by
  unfold eq2
  cases h1 : a == c <;> cases h2 : b == d <;> go_simp
theorem run_eq4 (w : World) (a b c d e f g h : Int) : (Op.equalIn 10000 46 (.agg #[.int .u64 a, .int .u64 b, .int .u64 c, .int .u64 d]) (.agg #[.int .u64 e, .int .u64 f, .int .u64 g, .int .u64 h])).run Try.prog w = .ok (eq4 a b c d e f g h) w := by
  unfold eq4
  cases h1 : a == e <;> cases h2 : b == f <;> cases h3 : c == g <;> cases h4 : d == h <;> go_simp
attribute [local go_sem high] run_eq2 run_eq4
theorem zero4_new (w : World) : Zero4 (w.alloc (.cells #[.int .u64 0, .int .u64 0, .int .u64 0, .int .u64 0] 46)) w.heap.size := by
  intro i hi
  rcases (show i = 0 ∨ i = 1 ∨ i = 2 ∨ i = 3 by omega) with rfl | rfl | rfl | rfl <;> simp
theorem zero2_new (w : World) : Zero2 (w.alloc (.cells #[.int .u64 0, .int .u64 0] 44)) w.heap.size := by
  intro i hi
  rcases (show i = 0 ∨ i = 1 by omega) with rfl | rfl <;> simp
theorem zero4_at (w : World) (r : Nat) (h : r = w.heap.size) : Zero4 (w.alloc (.cells #[.int .u64 0, .int .u64 0, .int .u64 0, .int .u64 0] 46)).drew r := by
  subst h; exact fun i hi => zero4_new w i hi
theorem zero2_at (w : World) (r : Nat) (h : r = w.heap.size) : Zero2 (w.alloc (.cells #[.int .u64 0, .int .u64 0] 44)).drew r := by
  subst h; exact fun i hi => zero2_new w i hi

theorem all_c (w : World) : Calls Try.prog 59 #[] w fun e w' => e = .returned (.agg #[.int .u64 0, .int .u64 0, .int .u64 0, .int .u64 0]) ∧ Below w.heap.size w w' := by
  go_enter Try.func59, Try.ntmps59
  go_wp2
  exact bodyPost_ret (v := .agg #[.int .u64 0, .int .u64 0, .int .u64 0, .int .u64 0]) (by simp [results, Try.results59, go_sem]) rfl ⟨rfl, below1 _ _⟩

set_option maxHeartbeats 1000000 in
theorem sound_c (cvh cvl cch ccl : BitVec 64) (w : World) : Calls Try.prog 72 #[.agg #[.int .u64 (uv cvh), .int .u64 (uv cvl), .int .u64 (uv cch), .int .u64 (uv ccl)]] w fun e w' => e = .returned (.bool (sndB cvh cvl cch ccl)) ∧ Below w.heap.size w w' := by
  have S0 := below1 w (.cells #[.int .u64 (uv cvh), .int .u64 (uv cvl), .int .u64 (uv cch), .int .u64 (uv ccl)] 46)
  go_enter Try.func72, Try.ntmps72
  go_wp2_with fail
  go_region_held3 (fun w' => Below w.heap.size w w' ∧ w'.cell? ⟨w.heap.size, 0, none⟩ = some (.int .u64 (uv cvh)) ∧ w'.cell? ⟨w.heap.size, 1, none⟩ = some (.int .u64 (uv cvl)) ∧ w'.cell? ⟨w.heap.size, 2, none⟩ = some (.int .u64 (uv cch)) ∧ w'.cell? ⟨w.heap.size, 3, none⟩ = some (.int .u64 (uv ccl)))
    (first
      | exact hold4 (by assumption) (by assumption)
      | exact ⟨S0.drew, by go_simp, by go_simp, by go_simp, by go_simp⟩)
    (first
      | (go_at_call 80; (with_reducible refine (and_c _ _ _ _ _).mono ?_); rintro e w' ⟨rfl, hb⟩))
  go_wp2
  go_ret
  exact ⟨ret_bool (sndB_eq _ _ _ _), And.left (by assumption)⟩

set_option maxHeartbeats 1000000 in
theorem make_c (vh vl ch cl : BitVec 64) (w : World) : Calls Try.prog 76 #[.agg #[.int .u64 (uv vh), .int .u64 (uv vl)], .agg #[.int .u64 (uv ch), .int .u64 (uv cl)]] w fun e w' => e = .returned (.agg #[.int .u64 (uv (vh &&& ch)), .int .u64 (uv (vl &&& cl)), .int .u64 (uv ch), .int .u64 (uv cl)]) ∧ Below w.heap.size w w' := by
  have S0 := below3 w (.cells #[.int .u64 (uv vh), .int .u64 (uv vl)] 44) (.cells #[.int .u64 (uv ch), .int .u64 (uv cl)] 44) (.cells #[.int .u64 0, .int .u64 0, .int .u64 0, .int .u64 0] 46)
  have Z0 := zero4_at ((w.alloc (.cells #[.int .u64 (uv vh), .int .u64 (uv vl)] 44)).alloc (.cells #[.int .u64 (uv ch), .int .u64 (uv cl)] 44)) (w.heap.size + 1 + 1) (by simp)
  go_enter Try.func76, Try.ntmps76
  go_wp2_with fail
  go_region_held3 (fun w' => Below w.heap.size w w' ∧ w'.cell? ⟨w.heap.size, 0, none⟩ = some (.int .u64 (uv vh)) ∧ w'.cell? ⟨w.heap.size, 1, none⟩ = some (.int .u64 (uv vl)) ∧ w'.cell? ⟨w.heap.size + 1, 0, none⟩ = some (.int .u64 (uv ch)) ∧ w'.cell? ⟨w.heap.size + 1, 1, none⟩ = some (.int .u64 (uv cl)))
    (first
      | exact hold4 (by assumption) (by assumption)
      | exact shold4 (sets4 _ _ _ _ _ _) (by assumption) (by omega) (by first | omega | (simp; done) | (simp; omega)) (by first | omega | (simp; done) | (simp; omega)) (by first | omega | (simp; done) | (simp; omega)) (by first | omega | (simp; done) | (simp; omega))
      | exact ⟨S0.drew, by go_simp, by go_simp, by go_simp, by go_simp⟩)
    (first
      | (go_at_call 80; (with_reducible refine (and_c _ _ _ _ _).mono ?_); rintro e w' ⟨rfl, hb⟩; have Z := Zero4.on hb (by assumption); obtain ⟨z0, y0, z1, y1, z2, y2, z3, y3⟩ := Z.out))
  go_wp2
  exact bodyPost_ret (v := .agg #[.int .u64 (uv (vh &&& ch)), .int .u64 (uv (vl &&& cl)), .int .u64 (uv ch), .int .u64 (uv cl)]) (by simp [results, Try.results76, go_sem, z0, z1, z2, z3]) rfl ⟨rfl, And.left (by assumption)⟩

set_option maxHeartbeats 1000000 in
theorem agree_c (avh avl ach acl bvh bvl bch bcl : BitVec 64) (w : World) : Calls Try.prog 77 #[.agg #[.int .u64 (uv avh), .int .u64 (uv avl), .int .u64 (uv ach), .int .u64 (uv acl)], .agg #[.int .u64 (uv bvh), .int .u64 (uv bvl), .int .u64 (uv bch), .int .u64 (uv bcl)]] w fun e w' => e = .returned (.bool (agrB avh avl ach acl bvh bvl bch bcl)) ∧ Below w.heap.size w w' := by
  have S0 := below2 w (.cells #[.int .u64 (uv avh), .int .u64 (uv avl), .int .u64 (uv ach), .int .u64 (uv acl)] 46) (.cells #[.int .u64 (uv bvh), .int .u64 (uv bvl), .int .u64 (uv bch), .int .u64 (uv bcl)] 46)
  go_enter Try.func77, Try.ntmps77
  go_wp2_with fail
  (with_reducible refine (and_c _ _ _ _ _).mono ?_)
  rintro e w1 ⟨rfl, hb1⟩
  have S1 : Below w.heap.size w w1 ∧ w1.cell? ⟨w.heap.size, 0, none⟩ = some (.int .u64 (uv avh)) ∧ w1.cell? ⟨w.heap.size, 1, none⟩ = some (.int .u64 (uv avl)) ∧ w1.cell? ⟨w.heap.size, 2, none⟩ = some (.int .u64 (uv ach)) ∧ w1.cell? ⟨w.heap.size, 3, none⟩ = some (.int .u64 (uv acl)) ∧ w1.cell? ⟨w.heap.size + 1, 0, none⟩ = some (.int .u64 (uv bvh)) ∧ w1.cell? ⟨w.heap.size + 1, 1, none⟩ = some (.int .u64 (uv bvl)) ∧ w1.cell? ⟨w.heap.size + 1, 2, none⟩ = some (.int .u64 (uv bch)) ∧ w1.cell? ⟨w.heap.size + 1, 3, none⟩ = some (.int .u64 (uv bcl)) := hold8 hb1 ⟨S0, by go_simp, by go_simp, by go_simp, by go_simp, by go_simp, by go_simp, by go_simp, by go_simp⟩
  clear hb1 S0
  obtain ⟨B1, a0, a1, a2, a3, b0, b1, b2, b3⟩ := S1
  have hz := B1.size
  have hz1 : w.heap.size + 1 < w1.heap.size := World.block_lt_of_cell? w1 _ b0
  have hz0 : w.heap.size < w1.heap.size := by omega
  have B2 := B1.alloc hz (.cells #[.int .u64 (uv (ach &&& bch)), .int .u64 (uv (acl &&& bcl))] 44)
  go_wp2_with fail
  go_region_held3 (fun w' => Below w.heap.size w w' ∧ w'.cell? ⟨w.heap.size, 0, none⟩ = some (.int .u64 (uv avh)) ∧ w'.cell? ⟨w.heap.size, 1, none⟩ = some (.int .u64 (uv avl)) ∧ w'.cell? ⟨w.heap.size, 2, none⟩ = some (.int .u64 (uv ach)) ∧ w'.cell? ⟨w.heap.size, 3, none⟩ = some (.int .u64 (uv acl)) ∧ w'.cell? ⟨w.heap.size + 1, 0, none⟩ = some (.int .u64 (uv bvh)) ∧ w'.cell? ⟨w.heap.size + 1, 1, none⟩ = some (.int .u64 (uv bvl)) ∧ w'.cell? ⟨w.heap.size + 1, 2, none⟩ = some (.int .u64 (uv bch)) ∧ w'.cell? ⟨w.heap.size + 1, 3, none⟩ = some (.int .u64 (uv bcl)) ∧ w'.cell? ⟨w1.heap.size, 0, none⟩ = some (.int .u64 (uv (ach &&& bch))) ∧ w'.cell? ⟨w1.heap.size, 1, none⟩ = some (.int .u64 (uv (acl &&& bcl))))
    (first
      | exact hold10 (by assumption) (by assumption)
      | exact ⟨B2.drew, by go_simp, by go_simp, by go_simp, by go_simp, by go_simp, by go_simp, by go_simp, by go_simp, by go_simp, by go_simp⟩)
    (first
      | (go_at_call 80; (with_reducible refine (and_c _ _ _ _ _).mono ?_); rintro e w' ⟨rfl, hb⟩))
  go_wp2
  go_ret
  exact ⟨ret_bool (agrB_eq _ _ _ _ _ _ _ _), And.left (by assumption)⟩
end Go.Proofs

namespace Go.Proofs.Hd
open Go.RowKit
instance : Inhabited Cb := ⟨⟨0#64, 0#64, 0#64, 0#64⟩⟩
/-- A rule: its priority, the two words each of its match's value and care, its kind, port and table, and what it sets. -/
structure Rl where
  pri : Int
  m : Cb
  kind : Int
  port : Int
  tab : Int
  s : Cb
instance : Inhabited Rl := ⟨⟨0, default, 0, 0, 0, default⟩⟩
/-- Its cells. -/
def Rl.cs (r : Rl) : List Value := [.int .i64 r.pri, .int .u64 (uv r.m.vh), .int .u64 (uv r.m.vl), .int .u64 (uv r.m.ch), .int .u64 (uv r.m.cl), .int .i64 r.kind, .int .i64 r.port, .int .i64 r.tab, .int .u64 (uv r.s.vh), .int .u64 (uv r.s.vl), .int .u64 (uv r.s.ch), .int .u64 (uv r.s.cl)]
theorem Rl.cs_len (r : Rl) : r.cs.length = 12 := rfl
theorem Rl.cs_one (r : Rl) : ∀ v ∈ r.cs, v.oneCell' = true := by
  intro v hv
  unfold Rl.cs at hv
  simp only [List.mem_cons, List.not_mem_nil, or_false] at hv
  rcases hv with rfl | rfl | rfl | rfl | rfl | rfl | rfl | rfl | rfl | rfl | rfl | rfl <;> rfl
/-- Are two rules the same? -/
def eqR (a b : Rl) : Bool := (a.pri == b.pri) && ((uv a.m.vh == uv b.m.vh) && ((uv a.m.vl == uv b.m.vl) && ((uv a.m.ch == uv b.m.ch) && ((uv a.m.cl == uv b.m.cl) && ((a.kind == b.kind) && ((a.port == b.port) && ((a.tab == b.tab) && ((uv a.s.vh == uv b.s.vh) && ((uv a.s.vl == uv b.s.vl) && ((uv a.s.ch == uv b.s.ch) && (uv a.s.cl == uv b.s.cl)))))))))))
theorem Cb.ext_uv {a b : Cb} (h1 : uv a.vh = uv b.vh) (h2 : uv a.vl = uv b.vl) (h3 : uv a.ch = uv b.ch) (h4 : uv a.cl = uv b.cl) : a = b := by
  obtain ⟨a1, a2, a3, a4⟩ := a
  obtain ⟨b1, b2, b3, b4⟩ := b
  have e1 := uv_inj h1
  have e2 := uv_inj h2
  have e3 := uv_inj h3
  have e4 := uv_inj h4
  simp only at e1 e2 e3 e4
  subst e1 e2 e3 e4
  rfl
theorem eqR_iff {a b : Rl} : eqR a b = true ↔ a = b := by
  unfold eqR
  simp only [Bool.and_eq_true, beq_iff_eq]
  constructor
  · rintro ⟨h1, h2, h3, h4, h5, h6, h7, h8, h9, h10, h11, h12⟩
    have e1 := Cb.ext_uv h2 h3 h4 h5
    have e2 := Cb.ext_uv h9 h10 h11 h12
    obtain ⟨a1, a2, a3, a4, a5, a6⟩ := a
    obtain ⟨b1, b2, b3, b4, b5, b6⟩ := b
    simp only at h1 h6 h7 h8 e1 e2
    subst h1 h6 h7 h8 e1 e2
    rfl
  · rintro rfl
    simp
theorem eqR_self (a : Rl) : eqR a a = true := eqR_iff.2 rfl
end Go.Proofs.Hd
namespace Go.Proofs
open Go.RowKit Go.Proofs.Hd Go.Sort
attribute [local go_sem] uv_nonneg
set_option maxRecDepth 100000 in
set_option maxHeartbeats 4000000 in
theorem run_eqR (w : World) (a b : Rl) : (Op.equalIn 10000 62 (.agg #[.int .i64 a.pri, .int .u64 (uv a.m.vh), .int .u64 (uv a.m.vl), .int .u64 (uv a.m.ch), .int .u64 (uv a.m.cl), .int .i64 a.kind, .int .i64 a.port, .int .i64 a.tab, .int .u64 (uv a.s.vh), .int .u64 (uv a.s.vl), .int .u64 (uv a.s.ch), .int .u64 (uv a.s.cl)]) (.agg #[.int .i64 b.pri, .int .u64 (uv b.m.vh), .int .u64 (uv b.m.vl), .int .u64 (uv b.m.ch), .int .u64 (uv b.m.cl), .int .i64 b.kind, .int .i64 b.port, .int .i64 b.tab, .int .u64 (uv b.s.vh), .int .u64 (uv b.s.vl), .int .u64 (uv b.s.ch), .int .u64 (uv b.s.cl)])).run Try.prog w = .ok (eqR a b) w := by
  unfold eqR
  cases h1 : a.pri == b.pri
  · go_simp
  cases h2 : uv a.m.vh == uv b.m.vh
  · go_simp
  cases h3 : uv a.m.vl == uv b.m.vl
  · go_simp
  cases h4 : uv a.m.ch == uv b.m.ch
  · go_simp
  cases h5 : uv a.m.cl == uv b.m.cl
  · go_simp
  cases h6 : a.kind == b.kind
  · go_simp
  cases h7 : a.port == b.port
  · go_simp
  cases h8 : a.tab == b.tab
  · go_simp
  cases h9 : uv a.s.vh == uv b.s.vh
  · go_simp
  cases h10 : uv a.s.vl == uv b.s.vl
  · go_simp
  cases h11 : uv a.s.ch == uv b.s.ch
  · go_simp
  cases h12 : uv a.s.cl == uv b.s.cl <;> go_simp
attribute [irreducible] eqR
attribute [local go_sem high] run_eqR
end Go.Proofs

namespace Go.Proofs.Hd
open Go.RowKit Go.Sort
/-- Number i stands ahead of number j, or is it. -/
def leI (L : List Rl) (i j : Nat) : Bool := decide (L[j]!.pri < L[i]!.pri ∨ (L[i]!.pri = L[j]!.pri ∧ i ≤ j))
theorem leI_trans (L : List Rl) (a b c : Nat) (h1 : leI L a b = true) (h2 : leI L b c = true) : leI L a c = true := by
  unfold leI at *
  rw [decide_eq_true_eq] at *
  omega
theorem leI_total (L : List Rl) (a b : Nat) : (leI L a b || leI L b a) = true := by
  unfold leI
  rw [Bool.or_eq_true, decide_eq_true_eq, decide_eq_true_eq]
  omega
theorem leI_anti (L : List Rl) (a b : Nat) (h1 : leI L a b = true) (h2 : leI L b a = true) : a = b := by
  unfold leI at *
  rw [decide_eq_true_eq] at *
  omega
/-- The places of rules as they are looked at. -/
def ordI (L : List Rl) : List Nat := (List.range L.length).mergeSort (leI L)
theorem ordI_perm (L : List Rl) : (ordI L).Perm (List.range L.length) := List.mergeSort_perm _ _
theorem ordI_sorted (L : List Rl) : (ordI L).Pairwise (fun a b => leI L a b = true) := List.pairwise_mergeSort (leI_trans L) (leI_total L) _
theorem ordI_unique {L : List Rl} {ks : List Nat} (hp : ks.Perm (List.range L.length)) (hs : ks.Pairwise (fun a b => leI L a b = true)) : ks = ordI L :=
  List.Perm.eq_of_pairwise (le := fun a b => leI L a b = true) (fun a b _ _ h1 h2 => leI_anti L a b h1 h2) hs (ordI_sorted L) (hp.trans (ordI_perm L).symm)
theorem ordI_len (L : List Rl) : (ordI L).length = L.length := by rw [(ordI_perm L).length_eq, List.length_range]
theorem ordI_lt {L : List Rl} {k : Nat} (h : k ∈ ordI L) : k < L.length := by simpa using (ordI_perm L).mem_iff.1 h
/-- Rules as they are looked at. -/
def srt (L : List Rl) : List Rl := (ordI L).map fun k => L[k]!
theorem srt_len (L : List Rl) : (srt L).length = L.length := by unfold srt; rw [List.length_map, ordI_len]
theorem range_map (L : List Rl) : (List.range L.length).map (fun k => L[k]!) = L := by
  apply List.ext_getElem (by simp)
  intro i h1 h2
  simp [h2]
theorem srt_perm (L : List Rl) : (srt L).Perm L := by
  have h := (ordI_perm L).map (fun k => L[k]!)
  rw [range_map] at h
  exact h
theorem srt_at {L : List Rl} {i k : Nat} (h : (ordI L)[i]? = some k) : (srt L)[i]? = some L[k]! := by unfold srt; rw [List.getElem?_map, h]; rfl
theorem srt_dec (L : List Rl) : (srt L).Pairwise (fun a b => b.pri ≤ a.pri) := by
  unfold srt
  rw [List.pairwise_map]
  refine (ordI_sorted L).imp ?_
  intro a b h
  unfold leI at h
  rw [decide_eq_true_eq] at h
  omega
/-- What is in order stays as it is. -/
theorem srt_of_dec {L : List Rl} (h : L.Pairwise (fun a b => b.pri ≤ a.pri)) : srt L = L := by
  have e : List.range L.length = ordI L := by
    refine ordI_unique (List.Perm.refl _) ?_
    rw [List.pairwise_iff_getElem] at h ⊢
    intro i j hi hj hij
    simp only [List.length_range] at hi hj
    have := h i j hi hj hij
    simp only [List.getElem_range]
    unfold leI
    rw [decide_eq_true_eq, getElem!_pos L i hi, getElem!_pos L j hj]
    omega
  unfold srt
  rw [← e, range_map]
theorem srt_twice (L : List Rl) : srt (srt L) = srt L := srt_of_dec (srt_dec L)

/-! ### memory -/
/-- The cells of rules, one behind the other. -/
def flatR (L : List Rl) : List Value := L.flatMap Rl.cs
theorem flatR_len (L : List Rl) : (flatR L).length = L.length * 12 := by
  unfold flatR
  induction L with
  | nil => rfl
  | cons r L ih => rw [List.flatMap_cons, List.length_append, ih, Rl.cs_len, List.length_cons]; omega
theorem flatR_snoc (L : List Rl) (r : Rl) : flatR (L ++ [r]) = flatR L ++ r.cs := by simp [flatR]
theorem flatR_get {L : List Rl} {i j : Nat} {r : Rl} (h : L[i]? = some r) (hj : j < 12) : (flatR L)[i * 12 + j]? = r.cs[j]? := by
  unfold flatR
  induction L generalizing i with
  | nil => simp at h
  | cons c L ih =>
    rw [List.flatMap_cons]
    cases i with
    | zero =>
      simp only [List.getElem?_cons_zero, Option.some.injEq] at h
      subst h
      rw [List.getElem?_append_left (by rw [Rl.cs_len]; omega)]
      simp
    | succ i =>
      rw [List.getElem?_cons_succ] at h
      rw [List.getElem?_append_right (by rw [Rl.cs_len]; omega), Rl.cs_len]
      rw [show (i + 1) * 12 + j - 12 = i * 12 + j by omega]
      exact ih h
/-- The twelve cells of a rule lie in block b from place o on. -/
def AtR (w : World) (b o : Nat) (r : Rl) : Prop := ∀ (j : Nat) (v : Value), r.cs[j]? = some v → w.cell? ⟨b, o + j, none⟩ = some v
theorem AtR.on {w w' : World} {b o : Nat} {r : Rl} (h : AtR w b o r) (hb : Below w.heap.size w w') : AtR w' b o r := fun j v hv => on_some hb (h j v hv)
theorem AtR.out {w : World} {b o : Nat} {r : Rl} (h : AtR w b o r) : w.cell? ⟨b, o, none⟩ = some (.int .i64 r.pri) ∧ w.cell? ⟨b, o + 1, none⟩ = some (.int .u64 (uv r.m.vh)) ∧ w.cell? ⟨b, o + 2, none⟩ = some (.int .u64 (uv r.m.vl)) ∧ w.cell? ⟨b, o + 3, none⟩ = some (.int .u64 (uv r.m.ch)) ∧ w.cell? ⟨b, o + 4, none⟩ = some (.int .u64 (uv r.m.cl)) ∧
    w.cell? ⟨b, o + 5, none⟩ = some (.int .i64 r.kind) ∧ w.cell? ⟨b, o + 6, none⟩ = some (.int .i64 r.port) ∧ w.cell? ⟨b, o + 7, none⟩ = some (.int .i64 r.tab) ∧ w.cell? ⟨b, o + 8, none⟩ = some (.int .u64 (uv r.s.vh)) ∧ w.cell? ⟨b, o + 9, none⟩ = some (.int .u64 (uv r.s.vl)) ∧ w.cell? ⟨b, o + 10, none⟩ = some (.int .u64 (uv r.s.ch)) ∧ w.cell? ⟨b, o + 11, none⟩ = some (.int .u64 (uv r.s.cl)) :=
  ⟨h 0 _ rfl, h 1 _ rfl, h 2 _ rfl, h 3 _ rfl, h 4 _ rfl, h 5 _ rfl, h 6 _ rfl, h 7 _ rfl, h 8 _ rfl, h 9 _ rfl, h 10 _ rfl, h 11 _ rfl⟩
/-- v is a slice that reads as the rules L. -/
def Ru (w : World) (v : Value) (L : List Rl) : Prop := (L = [] ∧ ∃ A cap, v = .slice A 0 cap) ∨ ∃ b off cap, v = .slice (some ⟨b, off, none⟩) L.length cap ∧ b < w.heap.size ∧ ∀ k r, L[k]? = some r → AtR w b (off + k * 12) r
theorem Ru.on {w w' : World} {v : Value} {L : List Rl} (h : Ru w v L) (hb : Below w.heap.size w w') : Ru w' v L := by
  rcases h with h | ⟨b, off, cap, e, hs, h⟩
  · exact .inl h
  · exact .inr ⟨b, off, cap, e, Nat.lt_of_lt_of_le hs hb.size, fun k c hk => (h k c hk).on hb⟩
theorem Ru.form {w : World} {v : Value} {L : List Rl} (h : Ru w v L) : ∃ A cap, v = .slice A L.length cap ∧ (L ≠ [] → ∃ b off, A = some ⟨b, off, none⟩ ∧ b < w.heap.size ∧ ∀ k r, L[k]? = some r → AtR w b (off + k * 12) r) := by
  rcases h with ⟨rfl, A, cap, rfl⟩ | ⟨b, off, cap, rfl, hb, h⟩
  · exact ⟨A, cap, rfl, fun h => absurd rfl h⟩
  · exact ⟨_, cap, rfl, fun _ => ⟨b, off, rfl, hb, h⟩⟩
theorem own_Ru {w : World} {base : Nat} {t : TypeId} {v : Value} {L : List Rl} (h : w.ownsRow base t 12 v L.length (flatR L)) : Ru w v L := by
  rcases h.2 with ⟨rfl, hn⟩ | ⟨g, cap, cur, rfl, hb, hg, _⟩
  · exact .inl ⟨List.eq_nil_of_length_eq_zero hn, _, _, rfl⟩
  · refine .inr ⟨g, 0, cap, rfl, (Array.getElem?_eq_some_iff.1 hg).1, fun k r hk j v hv => ?_⟩
    have hkl : k < L.length := (List.getElem?_eq_some_iff.1 hk).1
    have hj : j < 12 := by have := (List.getElem?_eq_some_iff.1 hv).1; rwa [Rl.cs_len] at this
    rw [show 0 + k * 12 + j = k * 12 + j by omega, h.cellAt (k * 12 + j) (by omega), flatR_get hk hj, hv]
end Go.Proofs.Hd

namespace Go.Proofs
open Go.RowKit Go.Proofs.Hd
attribute [local go_sem] uv_and uv_or uv_xor uv_andNot uv_shr uv_shl uv_add uv_sub uv_nonneg
attribute [local go_sem high] run_eq2 run_eq4
set_option maxHeartbeats 1000000 in
theorem meet_no1 (avh avl ach acl bvh bvl bch bcl : BitVec 64) (w : World) (h1 : sndB avh avl ach acl = false) :
    Calls Try.prog 61 #[.agg #[.int .u64 (uv avh), .int .u64 (uv avl), .int .u64 (uv ach), .int .u64 (uv acl)], .agg #[.int .u64 (uv bvh), .int .u64 (uv bvl), .int .u64 (uv bch), .int .u64 (uv bcl)]] w fun e w' => e = .returned (.tuple #[.agg #[.int .u64 0, .int .u64 0, .int .u64 0, .int .u64 0], .bool false]) ∧ Below w.heap.size w w' := by
  have S0 : Below w.heap.size w (((w.alloc (.cells #[.int .u64 (uv avh), .int .u64 (uv avl), .int .u64 (uv ach), .int .u64 (uv acl)] 46)).alloc (.cells #[.int .u64 (uv bvh), .int .u64 (uv bvl), .int .u64 (uv bch), .int .u64 (uv bcl)] 46)).alloc (.cells #[.int .u64 0, .int .u64 0, .int .u64 0, .int .u64 0] 46)) ∧ (((w.alloc (.cells #[.int .u64 (uv avh), .int .u64 (uv avl), .int .u64 (uv ach), .int .u64 (uv acl)] 46)).alloc (.cells #[.int .u64 (uv bvh), .int .u64 (uv bvl), .int .u64 (uv bch), .int .u64 (uv bcl)] 46)).alloc (.cells #[.int .u64 0, .int .u64 0, .int .u64 0, .int .u64 0] 46)).cell? ⟨w.heap.size, 0, none⟩ = some (.int .u64 (uv avh)) ∧ (((w.alloc (.cells #[.int .u64 (uv avh), .int .u64 (uv avl), .int .u64 (uv ach), .int .u64 (uv acl)] 46)).alloc (.cells #[.int .u64 (uv bvh), .int .u64 (uv bvl), .int .u64 (uv bch), .int .u64 (uv bcl)] 46)).alloc (.cells #[.int .u64 0, .int .u64 0, .int .u64 0, .int .u64 0] 46)).cell? ⟨w.heap.size, 1, none⟩ = some (.int .u64 (uv avl)) ∧ (((w.alloc (.cells #[.int .u64 (uv avh), .int .u64 (uv avl), .int .u64 (uv ach), .int .u64 (uv acl)] 46)).alloc (.cells #[.int .u64 (uv bvh), .int .u64 (uv bvl), .int .u64 (uv bch), .int .u64 (uv bcl)] 46)).alloc (.cells #[.int .u64 0, .int .u64 0, .int .u64 0, .int .u64 0] 46)).cell? ⟨w.heap.size, 2, none⟩ = some (.int .u64 (uv ach)) ∧ (((w.alloc (.cells #[.int .u64 (uv avh), .int .u64 (uv avl), .int .u64 (uv ach), .int .u64 (uv acl)] 46)).alloc (.cells #[.int .u64 (uv bvh), .int .u64 (uv bvl), .int .u64 (uv bch), .int .u64 (uv bcl)] 46)).alloc (.cells #[.int .u64 0, .int .u64 0, .int .u64 0, .int .u64 0] 46)).cell? ⟨w.heap.size, 3, none⟩ = some (.int .u64 (uv acl)) ∧ (((w.alloc (.cells #[.int .u64 (uv avh), .int .u64 (uv avl), .int .u64 (uv ach), .int .u64 (uv acl)] 46)).alloc (.cells #[.int .u64 (uv bvh), .int .u64 (uv bvl), .int .u64 (uv bch), .int .u64 (uv bcl)] 46)).alloc (.cells #[.int .u64 0, .int .u64 0, .int .u64 0, .int .u64 0] 46)).cell? ⟨w.heap.size + 1, 0, none⟩ = some (.int .u64 (uv bvh)) ∧ (((w.alloc (.cells #[.int .u64 (uv avh), .int .u64 (uv avl), .int .u64 (uv ach), .int .u64 (uv acl)] 46)).alloc (.cells #[.int .u64 (uv bvh), .int .u64 (uv bvl), .int .u64 (uv bch), .int .u64 (uv bcl)] 46)).alloc (.cells #[.int .u64 0, .int .u64 0, .int .u64 0, .int .u64 0] 46)).cell? ⟨w.heap.size + 1, 1, none⟩ = some (.int .u64 (uv bvl)) ∧ (((w.alloc (.cells #[.int .u64 (uv avh), .int .u64 (uv avl), .int .u64 (uv ach), .int .u64 (uv acl)] 46)).alloc (.cells #[.int .u64 (uv bvh), .int .u64 (uv bvl), .int .u64 (uv bch), .int .u64 (uv bcl)] 46)).alloc (.cells #[.int .u64 0, .int .u64 0, .int .u64 0, .int .u64 0] 46)).cell? ⟨w.heap.size + 1, 2, none⟩ = some (.int .u64 (uv bch)) ∧ (((w.alloc (.cells #[.int .u64 (uv avh), .int .u64 (uv avl), .int .u64 (uv ach), .int .u64 (uv acl)] 46)).alloc (.cells #[.int .u64 (uv bvh), .int .u64 (uv bvl), .int .u64 (uv bch), .int .u64 (uv bcl)] 46)).alloc (.cells #[.int .u64 0, .int .u64 0, .int .u64 0, .int .u64 0] 46)).cell? ⟨w.heap.size + 1, 3, none⟩ = some (.int .u64 (uv bcl)) := ⟨below3 w (.cells #[.int .u64 (uv avh), .int .u64 (uv avl), .int .u64 (uv ach), .int .u64 (uv acl)] 46) (.cells #[.int .u64 (uv bvh), .int .u64 (uv bvl), .int .u64 (uv bch), .int .u64 (uv bcl)] 46) (.cells #[.int .u64 0, .int .u64 0, .int .u64 0, .int .u64 0] 46), by go_simp, by go_simp, by go_simp, by go_simp, by go_simp, by go_simp, by go_simp, by go_simp⟩
  have Z0 : Zero4 (((w.alloc (.cells #[.int .u64 (uv avh), .int .u64 (uv avl), .int .u64 (uv ach), .int .u64 (uv acl)] 46)).alloc (.cells #[.int .u64 (uv bvh), .int .u64 (uv bvl), .int .u64 (uv bch), .int .u64 (uv bcl)] 46)).alloc (.cells #[.int .u64 0, .int .u64 0, .int .u64 0, .int .u64 0] 46)) (w.heap.size + 1 + 1) := zero4_at ((w.alloc (.cells #[.int .u64 (uv avh), .int .u64 (uv avl), .int .u64 (uv ach), .int .u64 (uv acl)] 46)).alloc (.cells #[.int .u64 (uv bvh), .int .u64 (uv bvl), .int .u64 (uv bch), .int .u64 (uv bcl)] 46)) (w.heap.size + 1 + 1) (by simp)
  go_enter Try.func61, Try.ntmps61
  go_wp2_with fail
  (with_reducible refine (sound_c _ _ _ _ _).mono ?_)
  rintro e w1 ⟨rfl, hb1⟩
  have S1 := hold8 hb1 S0
  have Z1 := Zero4.on hb1 Z0
  clear hb1 S0 Z0
  have Y1 := Z1.out
  go_wp2
  exact bodyPost_ret (v := .tuple #[.agg #[.int .u64 0, .int .u64 0, .int .u64 0, .int .u64 0], .bool false]) (by simp [results, Try.results61, go_sem, Y1]) rfl ⟨rfl, S1.1.trans ((sets4 _ _ _ _ _ _).mono (by omega))⟩

set_option maxHeartbeats 1000000 in
theorem meet_no2 (avh avl ach acl bvh bvl bch bcl : BitVec 64) (w : World) (h1 : sndB avh avl ach acl = true) (h2 : sndB bvh bvl bch bcl = false) :
    Calls Try.prog 61 #[.agg #[.int .u64 (uv avh), .int .u64 (uv avl), .int .u64 (uv ach), .int .u64 (uv acl)], .agg #[.int .u64 (uv bvh), .int .u64 (uv bvl), .int .u64 (uv bch), .int .u64 (uv bcl)]] w fun e w' => e = .returned (.tuple #[.agg #[.int .u64 0, .int .u64 0, .int .u64 0, .int .u64 0], .bool false]) ∧ Below w.heap.size w w' := by
  have S0 : Below w.heap.size w (((w.alloc (.cells #[.int .u64 (uv avh), .int .u64 (uv avl), .int .u64 (uv ach), .int .u64 (uv acl)] 46)).alloc (.cells #[.int .u64 (uv bvh), .int .u64 (uv bvl), .int .u64 (uv bch), .int .u64 (uv bcl)] 46)).alloc (.cells #[.int .u64 0, .int .u64 0, .int .u64 0, .int .u64 0] 46)) ∧ (((w.alloc (.cells #[.int .u64 (uv avh), .int .u64 (uv avl), .int .u64 (uv ach), .int .u64 (uv acl)] 46)).alloc (.cells #[.int .u64 (uv bvh), .int .u64 (uv bvl), .int .u64 (uv bch), .int .u64 (uv bcl)] 46)).alloc (.cells #[.int .u64 0, .int .u64 0, .int .u64 0, .int .u64 0] 46)).cell? ⟨w.heap.size, 0, none⟩ = some (.int .u64 (uv avh)) ∧ (((w.alloc (.cells #[.int .u64 (uv avh), .int .u64 (uv avl), .int .u64 (uv ach), .int .u64 (uv acl)] 46)).alloc (.cells #[.int .u64 (uv bvh), .int .u64 (uv bvl), .int .u64 (uv bch), .int .u64 (uv bcl)] 46)).alloc (.cells #[.int .u64 0, .int .u64 0, .int .u64 0, .int .u64 0] 46)).cell? ⟨w.heap.size, 1, none⟩ = some (.int .u64 (uv avl)) ∧ (((w.alloc (.cells #[.int .u64 (uv avh), .int .u64 (uv avl), .int .u64 (uv ach), .int .u64 (uv acl)] 46)).alloc (.cells #[.int .u64 (uv bvh), .int .u64 (uv bvl), .int .u64 (uv bch), .int .u64 (uv bcl)] 46)).alloc (.cells #[.int .u64 0, .int .u64 0, .int .u64 0, .int .u64 0] 46)).cell? ⟨w.heap.size, 2, none⟩ = some (.int .u64 (uv ach)) ∧ (((w.alloc (.cells #[.int .u64 (uv avh), .int .u64 (uv avl), .int .u64 (uv ach), .int .u64 (uv acl)] 46)).alloc (.cells #[.int .u64 (uv bvh), .int .u64 (uv bvl), .int .u64 (uv bch), .int .u64 (uv bcl)] 46)).alloc (.cells #[.int .u64 0, .int .u64 0, .int .u64 0, .int .u64 0] 46)).cell? ⟨w.heap.size, 3, none⟩ = some (.int .u64 (uv acl)) ∧ (((w.alloc (.cells #[.int .u64 (uv avh), .int .u64 (uv avl), .int .u64 (uv ach), .int .u64 (uv acl)] 46)).alloc (.cells #[.int .u64 (uv bvh), .int .u64 (uv bvl), .int .u64 (uv bch), .int .u64 (uv bcl)] 46)).alloc (.cells #[.int .u64 0, .int .u64 0, .int .u64 0, .int .u64 0] 46)).cell? ⟨w.heap.size + 1, 0, none⟩ = some (.int .u64 (uv bvh)) ∧ (((w.alloc (.cells #[.int .u64 (uv avh), .int .u64 (uv avl), .int .u64 (uv ach), .int .u64 (uv acl)] 46)).alloc (.cells #[.int .u64 (uv bvh), .int .u64 (uv bvl), .int .u64 (uv bch), .int .u64 (uv bcl)] 46)).alloc (.cells #[.int .u64 0, .int .u64 0, .int .u64 0, .int .u64 0] 46)).cell? ⟨w.heap.size + 1, 1, none⟩ = some (.int .u64 (uv bvl)) ∧ (((w.alloc (.cells #[.int .u64 (uv avh), .int .u64 (uv avl), .int .u64 (uv ach), .int .u64 (uv acl)] 46)).alloc (.cells #[.int .u64 (uv bvh), .int .u64 (uv bvl), .int .u64 (uv bch), .int .u64 (uv bcl)] 46)).alloc (.cells #[.int .u64 0, .int .u64 0, .int .u64 0, .int .u64 0] 46)).cell? ⟨w.heap.size + 1, 2, none⟩ = some (.int .u64 (uv bch)) ∧ (((w.alloc (.cells #[.int .u64 (uv avh), .int .u64 (uv avl), .int .u64 (uv ach), .int .u64 (uv acl)] 46)).alloc (.cells #[.int .u64 (uv bvh), .int .u64 (uv bvl), .int .u64 (uv bch), .int .u64 (uv bcl)] 46)).alloc (.cells #[.int .u64 0, .int .u64 0, .int .u64 0, .int .u64 0] 46)).cell? ⟨w.heap.size + 1, 3, none⟩ = some (.int .u64 (uv bcl)) := ⟨below3 w (.cells #[.int .u64 (uv avh), .int .u64 (uv avl), .int .u64 (uv ach), .int .u64 (uv acl)] 46) (.cells #[.int .u64 (uv bvh), .int .u64 (uv bvl), .int .u64 (uv bch), .int .u64 (uv bcl)] 46) (.cells #[.int .u64 0, .int .u64 0, .int .u64 0, .int .u64 0] 46), by go_simp, by go_simp, by go_simp, by go_simp, by go_simp, by go_simp, by go_simp, by go_simp⟩
  have Z0 : Zero4 (((w.alloc (.cells #[.int .u64 (uv avh), .int .u64 (uv avl), .int .u64 (uv ach), .int .u64 (uv acl)] 46)).alloc (.cells #[.int .u64 (uv bvh), .int .u64 (uv bvl), .int .u64 (uv bch), .int .u64 (uv bcl)] 46)).alloc (.cells #[.int .u64 0, .int .u64 0, .int .u64 0, .int .u64 0] 46)) (w.heap.size + 1 + 1) := zero4_at ((w.alloc (.cells #[.int .u64 (uv avh), .int .u64 (uv avl), .int .u64 (uv ach), .int .u64 (uv acl)] 46)).alloc (.cells #[.int .u64 (uv bvh), .int .u64 (uv bvl), .int .u64 (uv bch), .int .u64 (uv bcl)] 46)) (w.heap.size + 1 + 1) (by simp)
  go_enter Try.func61, Try.ntmps61
  go_wp2_with fail
  (with_reducible refine (sound_c _ _ _ _ _).mono ?_)
  rintro e w1 ⟨rfl, hb1⟩
  have S1 := hold8 hb1 S0
  have Z1 := Zero4.on hb1 Z0
  clear hb1 S0 Z0
  go_wp2_with fail
  (with_reducible refine (sound_c _ _ _ _ _).mono ?_)
  rintro e w2 ⟨rfl, hb2⟩
  have S2 := hold8 hb2 S1
  have Z2 := Zero4.on hb2 Z1
  clear hb2 S1 Z1
  have Y2 := Z2.out
  go_wp2
  exact bodyPost_ret (v := .tuple #[.agg #[.int .u64 0, .int .u64 0, .int .u64 0, .int .u64 0], .bool false]) (by simp [results, Try.results61, go_sem, Y2]) rfl ⟨rfl, S2.1.trans ((sets4 _ _ _ _ _ _).mono (by omega))⟩

set_option maxHeartbeats 1000000 in
theorem meet_no3 (avh avl ach acl bvh bvl bch bcl : BitVec 64) (w : World) (h1 : sndB avh avl ach acl = true) (h2 : sndB bvh bvl bch bcl = true) (h3 : agrB avh avl ach acl bvh bvl bch bcl = false) :
    Calls Try.prog 61 #[.agg #[.int .u64 (uv avh), .int .u64 (uv avl), .int .u64 (uv ach), .int .u64 (uv acl)], .agg #[.int .u64 (uv bvh), .int .u64 (uv bvl), .int .u64 (uv bch), .int .u64 (uv bcl)]] w fun e w' => e = .returned (.tuple #[.agg #[.int .u64 0, .int .u64 0, .int .u64 0, .int .u64 0], .bool false]) ∧ Below w.heap.size w w' := by
  have S0 : Below w.heap.size w (((w.alloc (.cells #[.int .u64 (uv avh), .int .u64 (uv avl), .int .u64 (uv ach), .int .u64 (uv acl)] 46)).alloc (.cells #[.int .u64 (uv bvh), .int .u64 (uv bvl), .int .u64 (uv bch), .int .u64 (uv bcl)] 46)).alloc (.cells #[.int .u64 0, .int .u64 0, .int .u64 0, .int .u64 0] 46)) ∧ (((w.alloc (.cells #[.int .u64 (uv avh), .int .u64 (uv avl), .int .u64 (uv ach), .int .u64 (uv acl)] 46)).alloc (.cells #[.int .u64 (uv bvh), .int .u64 (uv bvl), .int .u64 (uv bch), .int .u64 (uv bcl)] 46)).alloc (.cells #[.int .u64 0, .int .u64 0, .int .u64 0, .int .u64 0] 46)).cell? ⟨w.heap.size, 0, none⟩ = some (.int .u64 (uv avh)) ∧ (((w.alloc (.cells #[.int .u64 (uv avh), .int .u64 (uv avl), .int .u64 (uv ach), .int .u64 (uv acl)] 46)).alloc (.cells #[.int .u64 (uv bvh), .int .u64 (uv bvl), .int .u64 (uv bch), .int .u64 (uv bcl)] 46)).alloc (.cells #[.int .u64 0, .int .u64 0, .int .u64 0, .int .u64 0] 46)).cell? ⟨w.heap.size, 1, none⟩ = some (.int .u64 (uv avl)) ∧ (((w.alloc (.cells #[.int .u64 (uv avh), .int .u64 (uv avl), .int .u64 (uv ach), .int .u64 (uv acl)] 46)).alloc (.cells #[.int .u64 (uv bvh), .int .u64 (uv bvl), .int .u64 (uv bch), .int .u64 (uv bcl)] 46)).alloc (.cells #[.int .u64 0, .int .u64 0, .int .u64 0, .int .u64 0] 46)).cell? ⟨w.heap.size, 2, none⟩ = some (.int .u64 (uv ach)) ∧ (((w.alloc (.cells #[.int .u64 (uv avh), .int .u64 (uv avl), .int .u64 (uv ach), .int .u64 (uv acl)] 46)).alloc (.cells #[.int .u64 (uv bvh), .int .u64 (uv bvl), .int .u64 (uv bch), .int .u64 (uv bcl)] 46)).alloc (.cells #[.int .u64 0, .int .u64 0, .int .u64 0, .int .u64 0] 46)).cell? ⟨w.heap.size, 3, none⟩ = some (.int .u64 (uv acl)) ∧ (((w.alloc (.cells #[.int .u64 (uv avh), .int .u64 (uv avl), .int .u64 (uv ach), .int .u64 (uv acl)] 46)).alloc (.cells #[.int .u64 (uv bvh), .int .u64 (uv bvl), .int .u64 (uv bch), .int .u64 (uv bcl)] 46)).alloc (.cells #[.int .u64 0, .int .u64 0, .int .u64 0, .int .u64 0] 46)).cell? ⟨w.heap.size + 1, 0, none⟩ = some (.int .u64 (uv bvh)) ∧ (((w.alloc (.cells #[.int .u64 (uv avh), .int .u64 (uv avl), .int .u64 (uv ach), .int .u64 (uv acl)] 46)).alloc (.cells #[.int .u64 (uv bvh), .int .u64 (uv bvl), .int .u64 (uv bch), .int .u64 (uv bcl)] 46)).alloc (.cells #[.int .u64 0, .int .u64 0, .int .u64 0, .int .u64 0] 46)).cell? ⟨w.heap.size + 1, 1, none⟩ = some (.int .u64 (uv bvl)) ∧ (((w.alloc (.cells #[.int .u64 (uv avh), .int .u64 (uv avl), .int .u64 (uv ach), .int .u64 (uv acl)] 46)).alloc (.cells #[.int .u64 (uv bvh), .int .u64 (uv bvl), .int .u64 (uv bch), .int .u64 (uv bcl)] 46)).alloc (.cells #[.int .u64 0, .int .u64 0, .int .u64 0, .int .u64 0] 46)).cell? ⟨w.heap.size + 1, 2, none⟩ = some (.int .u64 (uv bch)) ∧ (((w.alloc (.cells #[.int .u64 (uv avh), .int .u64 (uv avl), .int .u64 (uv ach), .int .u64 (uv acl)] 46)).alloc (.cells #[.int .u64 (uv bvh), .int .u64 (uv bvl), .int .u64 (uv bch), .int .u64 (uv bcl)] 46)).alloc (.cells #[.int .u64 0, .int .u64 0, .int .u64 0, .int .u64 0] 46)).cell? ⟨w.heap.size + 1, 3, none⟩ = some (.int .u64 (uv bcl)) := ⟨below3 w (.cells #[.int .u64 (uv avh), .int .u64 (uv avl), .int .u64 (uv ach), .int .u64 (uv acl)] 46) (.cells #[.int .u64 (uv bvh), .int .u64 (uv bvl), .int .u64 (uv bch), .int .u64 (uv bcl)] 46) (.cells #[.int .u64 0, .int .u64 0, .int .u64 0, .int .u64 0] 46), by go_simp, by go_simp, by go_simp, by go_simp, by go_simp, by go_simp, by go_simp, by go_simp⟩
  have Z0 : Zero4 (((w.alloc (.cells #[.int .u64 (uv avh), .int .u64 (uv avl), .int .u64 (uv ach), .int .u64 (uv acl)] 46)).alloc (.cells #[.int .u64 (uv bvh), .int .u64 (uv bvl), .int .u64 (uv bch), .int .u64 (uv bcl)] 46)).alloc (.cells #[.int .u64 0, .int .u64 0, .int .u64 0, .int .u64 0] 46)) (w.heap.size + 1 + 1) := zero4_at ((w.alloc (.cells #[.int .u64 (uv avh), .int .u64 (uv avl), .int .u64 (uv ach), .int .u64 (uv acl)] 46)).alloc (.cells #[.int .u64 (uv bvh), .int .u64 (uv bvl), .int .u64 (uv bch), .int .u64 (uv bcl)] 46)) (w.heap.size + 1 + 1) (by simp)
  go_enter Try.func61, Try.ntmps61
  go_wp2_with fail
  (with_reducible refine (sound_c _ _ _ _ _).mono ?_)
  rintro e w1 ⟨rfl, hb1⟩
  have S1 := hold8 hb1 S0
  have Z1 := Zero4.on hb1 Z0
  clear hb1 S0 Z0
  go_wp2_with fail
  (with_reducible refine (sound_c _ _ _ _ _).mono ?_)
  rintro e w2 ⟨rfl, hb2⟩
  have S2 := hold8 hb2 S1
  have Z2 := Zero4.on hb2 Z1
  clear hb2 S1 Z1
  go_wp2_with fail
  (with_reducible refine (agree_c _ _ _ _ _ _ _ _ _).mono ?_)
  rintro e w3 ⟨rfl, hb3⟩
  have S3 := hold8 hb3 S2
  have Z3 := Zero4.on hb3 Z2
  clear hb3 S2 Z2
  have Y3 := Z3.out
  go_wp2
  exact bodyPost_ret (v := .tuple #[.agg #[.int .u64 0, .int .u64 0, .int .u64 0, .int .u64 0], .bool false]) (by simp [results, Try.results61, go_sem, Y3]) rfl ⟨rfl, S3.1.trans ((sets4 _ _ _ _ _ _).mono (by omega))⟩

set_option maxHeartbeats 1000000 in
theorem meet_yes (avh avl ach acl bvh bvl bch bcl : BitVec 64) (w : World) (h1 : sndB avh avl ach acl = true) (h2 : sndB bvh bvl bch bcl = true) (h3 : agrB avh avl ach acl bvh bvl bch bcl = true) :
    Calls Try.prog 61 #[.agg #[.int .u64 (uv avh), .int .u64 (uv avl), .int .u64 (uv ach), .int .u64 (uv acl)], .agg #[.int .u64 (uv bvh), .int .u64 (uv bvl), .int .u64 (uv bch), .int .u64 (uv bcl)]] w fun e w' => e = .returned (.tuple #[.agg #[.int .u64 (uv (avh ||| bvh)), .int .u64 (uv (avl ||| bvl)), .int .u64 (uv (ach ||| bch)), .int .u64 (uv (acl ||| bcl))], .bool true]) ∧ Below w.heap.size w w' := by
  have S0 : Below w.heap.size w (((w.alloc (.cells #[.int .u64 (uv avh), .int .u64 (uv avl), .int .u64 (uv ach), .int .u64 (uv acl)] 46)).alloc (.cells #[.int .u64 (uv bvh), .int .u64 (uv bvl), .int .u64 (uv bch), .int .u64 (uv bcl)] 46)).alloc (.cells #[.int .u64 0, .int .u64 0, .int .u64 0, .int .u64 0] 46)) ∧ (((w.alloc (.cells #[.int .u64 (uv avh), .int .u64 (uv avl), .int .u64 (uv ach), .int .u64 (uv acl)] 46)).alloc (.cells #[.int .u64 (uv bvh), .int .u64 (uv bvl), .int .u64 (uv bch), .int .u64 (uv bcl)] 46)).alloc (.cells #[.int .u64 0, .int .u64 0, .int .u64 0, .int .u64 0] 46)).cell? ⟨w.heap.size, 0, none⟩ = some (.int .u64 (uv avh)) ∧ (((w.alloc (.cells #[.int .u64 (uv avh), .int .u64 (uv avl), .int .u64 (uv ach), .int .u64 (uv acl)] 46)).alloc (.cells #[.int .u64 (uv bvh), .int .u64 (uv bvl), .int .u64 (uv bch), .int .u64 (uv bcl)] 46)).alloc (.cells #[.int .u64 0, .int .u64 0, .int .u64 0, .int .u64 0] 46)).cell? ⟨w.heap.size, 1, none⟩ = some (.int .u64 (uv avl)) ∧ (((w.alloc (.cells #[.int .u64 (uv avh), .int .u64 (uv avl), .int .u64 (uv ach), .int .u64 (uv acl)] 46)).alloc (.cells #[.int .u64 (uv bvh), .int .u64 (uv bvl), .int .u64 (uv bch), .int .u64 (uv bcl)] 46)).alloc (.cells #[.int .u64 0, .int .u64 0, .int .u64 0, .int .u64 0] 46)).cell? ⟨w.heap.size, 2, none⟩ = some (.int .u64 (uv ach)) ∧ (((w.alloc (.cells #[.int .u64 (uv avh), .int .u64 (uv avl), .int .u64 (uv ach), .int .u64 (uv acl)] 46)).alloc (.cells #[.int .u64 (uv bvh), .int .u64 (uv bvl), .int .u64 (uv bch), .int .u64 (uv bcl)] 46)).alloc (.cells #[.int .u64 0, .int .u64 0, .int .u64 0, .int .u64 0] 46)).cell? ⟨w.heap.size, 3, none⟩ = some (.int .u64 (uv acl)) ∧ (((w.alloc (.cells #[.int .u64 (uv avh), .int .u64 (uv avl), .int .u64 (uv ach), .int .u64 (uv acl)] 46)).alloc (.cells #[.int .u64 (uv bvh), .int .u64 (uv bvl), .int .u64 (uv bch), .int .u64 (uv bcl)] 46)).alloc (.cells #[.int .u64 0, .int .u64 0, .int .u64 0, .int .u64 0] 46)).cell? ⟨w.heap.size + 1, 0, none⟩ = some (.int .u64 (uv bvh)) ∧ (((w.alloc (.cells #[.int .u64 (uv avh), .int .u64 (uv avl), .int .u64 (uv ach), .int .u64 (uv acl)] 46)).alloc (.cells #[.int .u64 (uv bvh), .int .u64 (uv bvl), .int .u64 (uv bch), .int .u64 (uv bcl)] 46)).alloc (.cells #[.int .u64 0, .int .u64 0, .int .u64 0, .int .u64 0] 46)).cell? ⟨w.heap.size + 1, 1, none⟩ = some (.int .u64 (uv bvl)) ∧ (((w.alloc (.cells #[.int .u64 (uv avh), .int .u64 (uv avl), .int .u64 (uv ach), .int .u64 (uv acl)] 46)).alloc (.cells #[.int .u64 (uv bvh), .int .u64 (uv bvl), .int .u64 (uv bch), .int .u64 (uv bcl)] 46)).alloc (.cells #[.int .u64 0, .int .u64 0, .int .u64 0, .int .u64 0] 46)).cell? ⟨w.heap.size + 1, 2, none⟩ = some (.int .u64 (uv bch)) ∧ (((w.alloc (.cells #[.int .u64 (uv avh), .int .u64 (uv avl), .int .u64 (uv ach), .int .u64 (uv acl)] 46)).alloc (.cells #[.int .u64 (uv bvh), .int .u64 (uv bvl), .int .u64 (uv bch), .int .u64 (uv bcl)] 46)).alloc (.cells #[.int .u64 0, .int .u64 0, .int .u64 0, .int .u64 0] 46)).cell? ⟨w.heap.size + 1, 3, none⟩ = some (.int .u64 (uv bcl)) := ⟨below3 w (.cells #[.int .u64 (uv avh), .int .u64 (uv avl), .int .u64 (uv ach), .int .u64 (uv acl)] 46) (.cells #[.int .u64 (uv bvh), .int .u64 (uv bvl), .int .u64 (uv bch), .int .u64 (uv bcl)] 46) (.cells #[.int .u64 0, .int .u64 0, .int .u64 0, .int .u64 0] 46), by go_simp, by go_simp, by go_simp, by go_simp, by go_simp, by go_simp, by go_simp, by go_simp⟩
  have Z0 : Zero4 (((w.alloc (.cells #[.int .u64 (uv avh), .int .u64 (uv avl), .int .u64 (uv ach), .int .u64 (uv acl)] 46)).alloc (.cells #[.int .u64 (uv bvh), .int .u64 (uv bvl), .int .u64 (uv bch), .int .u64 (uv bcl)] 46)).alloc (.cells #[.int .u64 0, .int .u64 0, .int .u64 0, .int .u64 0] 46)) (w.heap.size + 1 + 1) := zero4_at ((w.alloc (.cells #[.int .u64 (uv avh), .int .u64 (uv avl), .int .u64 (uv ach), .int .u64 (uv acl)] 46)).alloc (.cells #[.int .u64 (uv bvh), .int .u64 (uv bvl), .int .u64 (uv bch), .int .u64 (uv bcl)] 46)) (w.heap.size + 1 + 1) (by simp)
  go_enter Try.func61, Try.ntmps61
  go_wp2_with fail
  (with_reducible refine (sound_c _ _ _ _ _).mono ?_)
  rintro e w1 ⟨rfl, hb1⟩
  have S1 := hold8 hb1 S0
  have Z1 := Zero4.on hb1 Z0
  clear hb1 S0 Z0
  go_wp2_with fail
  (with_reducible refine (sound_c _ _ _ _ _).mono ?_)
  rintro e w2 ⟨rfl, hb2⟩
  have S2 := hold8 hb2 S1
  have Z2 := Zero4.on hb2 Z1
  clear hb2 S1 Z1
  go_wp2_with fail
  (with_reducible refine (agree_c _ _ _ _ _ _ _ _ _).mono ?_)
  rintro e w3 ⟨rfl, hb3⟩
  have S3 := hold8 hb3 S2
  have Z3 := Zero4.on hb3 Z2
  clear hb3 S2 Z2
  have D3 : Zero4 w3.drew (w.heap.size + 1 + 1) := Z3
  go_wp2_with fail
  go_region_held3 (fun w' => Below w.heap.size w w' ∧ w'.cell? ⟨w.heap.size, 0, none⟩ = some (.int .u64 (uv avh)) ∧ w'.cell? ⟨w.heap.size, 1, none⟩ = some (.int .u64 (uv avl)) ∧ w'.cell? ⟨w.heap.size, 2, none⟩ = some (.int .u64 (uv ach)) ∧ w'.cell? ⟨w.heap.size, 3, none⟩ = some (.int .u64 (uv acl)) ∧ w'.cell? ⟨w.heap.size + 1, 0, none⟩ = some (.int .u64 (uv bvh)) ∧ w'.cell? ⟨w.heap.size + 1, 1, none⟩ = some (.int .u64 (uv bvl)) ∧ w'.cell? ⟨w.heap.size + 1, 2, none⟩ = some (.int .u64 (uv bch)) ∧ w'.cell? ⟨w.heap.size + 1, 3, none⟩ = some (.int .u64 (uv bcl)))
    (first
      | exact hold8 (by assumption) (by assumption)
      | exact shold8 (sets4 _ _ _ _ _ _) (by assumption) (by omega) (by first | omega | (simp; done) | (simp; omega)) (by first | omega | (simp; done) | (simp; omega)) (by first | omega | (simp; done) | (simp; omega)) (by first | omega | (simp; done) | (simp; omega)) (by first | omega | (simp; done) | (simp; omega)) (by first | omega | (simp; done) | (simp; omega)) (by first | omega | (simp; done) | (simp; omega)) (by first | omega | (simp; done) | (simp; omega))
      | exact ⟨S3.1.drew, S3.2⟩)
    (first
      | (go_at_call 78; (with_reducible refine (or_c _ _ _ _ _).mono ?_); rintro e w' ⟨rfl, hb⟩; have Z := Zero4.on hb (by assumption); obtain ⟨z0, y0, z1, y1, z2, y2, z3, y3⟩ := Z.out))
  all_goals go_wp2
  all_goals exact bodyPost_ret (v := .tuple #[.agg #[.int .u64 (uv (avh ||| bvh)), .int .u64 (uv (avl ||| bvl)), .int .u64 (uv (ach ||| bch)), .int .u64 (uv (acl ||| bcl))], .bool true]) (by simp [results, Try.results61, go_sem, z0, z1, z2, z3]) rfl ⟨rfl, And.left (by assumption)⟩

end Go.Proofs

namespace Go.Proofs
open Go.RowKit Go.Proofs.Hd
attribute [local go_sem] uv_and uv_or uv_xor uv_andNot uv_shr uv_shl uv_add uv_sub uv_nonneg
attribute [local go_sem high] run_eq2 run_eq4

theorem sound_is (b : Bool) (avh avl ach acl : BitVec 64) (w : World) (h : sndB avh avl ach acl = b) : Calls Try.prog 72 #[.agg #[.int .u64 (uv avh), .int .u64 (uv avl), .int .u64 (uv ach), .int .u64 (uv acl)]] w fun e w' => e = .returned (.bool b) ∧ Below w.heap.size w w' := by
  subst h; exact sound_c _ _ _ _ _

end Go.Proofs

namespace Go.Proofs
open Go.RowKit Go.Proofs.Hd
def sel (c : Bool) (x : BitVec 64) : BitVec 64 := if c = true then x else 0#64
theorem sel_t (x : BitVec 64) : sel true x = x := rfl
theorem sel_f (x : BitVec 64) : uv (sel false x) = 0 := rfl
/-- Is the intersection not empty? -/
def metB (avh avl ach acl bvh bvl bch bcl : BitVec 64) : Bool := sndB avh avl ach acl && (sndB bvh bvl bch bcl && agrB avh avl ach acl bvh bvl bch bcl)
/-- Does the first care for all bits that the second cares for? -/
def inCa (ach acl bch bcl : BitVec 64) : Bool := (ach &&& bch == bch) && (acl &&& bcl == bcl)
def witB (avh avl ach acl bvh bvl bch bcl : BitVec 64) : Bool := sndB avh avl ach acl && (sndB bvh bvl bch bcl && (inCa ach acl bch bcl && agrB avh avl ach acl bvh bvl bch bcl))
def befB (avh avl ach acl bvh bvl bch bcl : BitVec 64) : Bool := sndB avh avl ach acl && agrB avh avl ach acl bvh bvl bch bcl
theorem in_eq (ach acl bch bcl : BitVec 64) : eq2 (uv (ach &&& bch)) (uv (acl &&& bcl)) (uv bch) (uv bcl) = inCa ach acl bch bcl := eq2_uv _ _ _ _

theorem meet_c (avh avl ach acl bvh bvl bch bcl : BitVec 64) (w : World) : Calls Try.prog 61 #[.agg #[.int .u64 (uv avh), .int .u64 (uv avl), .int .u64 (uv ach), .int .u64 (uv acl)], .agg #[.int .u64 (uv bvh), .int .u64 (uv bvl), .int .u64 (uv bch), .int .u64 (uv bcl)]] w fun e w' => e = .returned (.tuple #[.agg #[.int .u64 (uv (sel (metB avh avl ach acl bvh bvl bch bcl) (avh ||| bvh))), .int .u64 (uv (sel (metB avh avl ach acl bvh bvl bch bcl) (avl ||| bvl))), .int .u64 (uv (sel (metB avh avl ach acl bvh bvl bch bcl) (ach ||| bch))), .int .u64 (uv (sel (metB avh avl ach acl bvh bvl bch bcl) (acl ||| bcl)))], .bool (metB avh avl ach acl bvh bvl bch bcl)]) ∧ Below w.heap.size w w' := by
  cases h1 : sndB avh avl ach acl
  · rw [show metB avh avl ach acl bvh bvl bch bcl = false by unfold metB; rw [h1]; rfl]; simp only [sel_f]; exact meet_no1 _ _ _ _ _ _ _ _ _ h1
  · cases h2 : sndB bvh bvl bch bcl
    · rw [show metB avh avl ach acl bvh bvl bch bcl = false by unfold metB; rw [h1, h2]; rfl]; simp only [sel_f]; exact meet_no2 _ _ _ _ _ _ _ _ _ h1 h2
    · cases h3 : agrB avh avl ach acl bvh bvl bch bcl
      · rw [show metB avh avl ach acl bvh bvl bch bcl = false by unfold metB; rw [h1, h2, h3]; rfl]; simp only [sel_f]; exact meet_no3 _ _ _ _ _ _ _ _ _ h1 h2 h3
      · rw [show metB avh avl ach acl bvh bvl bch bcl = true by unfold metB; rw [h1, h2, h3]; rfl]; simp only [sel_t]; exact meet_yes _ _ _ _ _ _ _ _ _ h1 h2 h3

theorem pair_bits (a b c d : BitVec 64) : ((a == c) && (b == d)) = true ↔ ∀ j, j < 128 → hbit a b j = hbit c d j := by
  simp only [Bool.and_eq_true, beq_iff_eq]
  constructor
  · rintro ⟨rfl, rfl⟩ j _; rfl
  · exact fun h => head_ext h
theorem snd_bits (avh avl ach acl : BitVec 64) : sndB avh avl ach acl = true ↔ ∀ j, j < 128 → hbit avh avl j = true → hbit ach acl j = true := by
  unfold sndB
  rw [pair_bits]
  constructor
  · intro h j hj hv; have := h j hj; rw [hbit_and, hv] at this; simpa using this
  · intro h j hj; rw [hbit_and]; cases hv : hbit avh avl j with
    | false => rfl
    | true => rw [h j hj hv]; rfl
theorem has_bits (avh avl ach acl hh hl : BitVec 64) : hasB avh avl ach acl hh hl = true ↔ ∀ j, j < 128 → (hbit hh hl j && hbit ach acl j) = hbit avh avl j := by
  unfold hasB
  rw [pair_bits]
  exact ⟨fun h j hj => by rw [← hbit_and]; exact h j hj, fun h j hj => by rw [hbit_and]; exact h j hj⟩
theorem agr_bits (avh avl ach acl bvh bvl bch bcl : BitVec 64) : agrB avh avl ach acl bvh bvl bch bcl = true ↔ ∀ j, j < 128 → hbit ach acl j = true → hbit bch bcl j = true → hbit avh avl j = hbit bvh bvl j := by
  unfold agrB
  rw [pair_bits]
  constructor
  · intro h j hj h1 h2; have := h j hj; simp only [hbit_and, h1, h2, Bool.and_true] at this; exact this
  · intro h j hj; simp only [hbit_and]
    cases h1 : hbit ach acl j <;> cases h2 : hbit bch bcl j <;> simp
    exact h j hj h1 h2
theorem in_bits (ach acl bch bcl : BitVec 64) : inCa ach acl bch bcl = true ↔ ∀ j, j < 128 → hbit bch bcl j = true → hbit ach acl j = true := by
  unfold inCa
  rw [pair_bits]
  constructor
  · intro h j hj h1; have := h j hj; rw [hbit_and, h1] at this; simpa using this
  · intro h j hj; rw [hbit_and]; cases h1 : hbit bch bcl j with
    | false => simp
    | true => rw [h j hj h1]; rfl
theorem agr_comm (avh avl ach acl bvh bvl bch bcl : BitVec 64) : agrB bvh bvl bch bcl avh avl ach acl = agrB avh avl ach acl bvh bvl bch bcl := by
  rw [Bool.eq_iff_iff, agr_bits, agr_bits]
  exact ⟨fun h j hj h1 h2 => (h j hj h2 h1).symm, fun h j hj h1 h2 => (h j hj h2 h1).symm⟩
theorem met_comm (avh avl ach acl bvh bvl bch bcl : BitVec 64) : metB bvh bvl bch bcl avh avl ach acl = metB avh avl ach acl bvh bvl bch bcl := by
  unfold metB; rw [agr_comm]; cases sndB avh avl ach acl <;> cases sndB bvh bvl bch bcl <;> simp
theorem meet_r (avh avl ach acl bvh bvl bch bcl : BitVec 64) (w : World) : Calls Try.prog 61 #[.agg #[.int .u64 (uv bvh), .int .u64 (uv bvl), .int .u64 (uv bch), .int .u64 (uv bcl)], .agg #[.int .u64 (uv avh), .int .u64 (uv avl), .int .u64 (uv ach), .int .u64 (uv acl)]] w fun e w' => e = .returned (.tuple #[.agg #[.int .u64 (uv (sel (metB avh avl ach acl bvh bvl bch bcl) (avh ||| bvh))), .int .u64 (uv (sel (metB avh avl ach acl bvh bvl bch bcl) (avl ||| bvl))), .int .u64 (uv (sel (metB avh avl ach acl bvh bvl bch bcl) (ach ||| bch))), .int .u64 (uv (sel (metB avh avl ach acl bvh bvl bch bcl) (acl ||| bcl)))], .bool (metB avh avl ach acl bvh bvl bch bcl)]) ∧ Below w.heap.size w w' := by
  have h := meet_c bvh bvl bch bcl avh avl ach acl w
  rwa [met_comm, BitVec.or_comm bvh avh, BitVec.or_comm bvl avl, BitVec.or_comm bch ach, BitVec.or_comm bcl acl] at h
attribute [irreducible] sel metB witB befB inCa
end Go.Proofs

namespace Go.Proofs.Hd
open Go.RowKit
def Cb.V (c : Cb) (j : Nat) : Bool := hbit c.vh c.vl j
def Cb.K (c : Cb) (j : Nat) : Bool := hbit c.ch c.cl j
def Cb.snd (c : Cb) : Bool := sndB c.vh c.vl c.ch c.cl
def Cb.has (c : Cb) (h l : BitVec 64) : Bool := hasB c.vh c.vl c.ch c.cl h l
def Cb.agr (a b : Cb) : Bool := agrB a.vh a.vl a.ch a.cl b.vh b.vl b.ch b.cl
def Cb.wit (a b : Cb) : Bool := witB a.vh a.vl a.ch a.cl b.vh b.vl b.ch b.cl
theorem Cb.snd_iff (c : Cb) : c.snd = true ↔ ∀ j, j < 128 → c.V j = true → c.K j = true := snd_bits _ _ _ _
theorem Cb.has_iff (c : Cb) (h l : BitVec 64) : c.has h l = true ↔ ∀ j, j < 128 → (hbit h l j && c.K j) = c.V j := has_bits _ _ _ _ _ _
theorem Cb.agr_iff (a b : Cb) : a.agr b = true ↔ ∀ j, j < 128 → a.K j = true → b.K j = true → a.V j = b.V j := agr_bits _ _ _ _ _ _ _ _
theorem wit_and' (avh avl ach acl bvh bvl bch bcl : BitVec 64) : witB avh avl ach acl bvh bvl bch bcl = true ↔ sndB avh avl ach acl = true ∧ sndB bvh bvl bch bcl = true ∧ inCa ach acl bch bcl = true ∧ agrB avh avl ach acl bvh bvl bch bcl = true := by
  rw [show witB avh avl ach acl bvh bvl bch bcl = (sndB avh avl ach acl && (sndB bvh bvl bch bcl && (inCa ach acl bch bcl && agrB avh avl ach acl bvh bvl bch bcl))) by unfold witB; rfl]
  simp only [Bool.and_eq_true]
theorem Cb.wit_iff (a b : Cb) : a.wit b = true ↔ a.snd = true ∧ b.snd = true ∧ (∀ j, j < 128 → b.K j = true → a.K j = true) ∧ (∀ j, j < 128 → a.K j = true → b.K j = true → a.V j = b.V j) := by
  unfold Cb.wit
  rw [wit_and', in_bits, agr_bits]
  exact Iff.rfl
theorem wOther_V (a b : Cb) (k j : Nat) (hk : k < 128) (hj : j < 128) : (wOther a b k).V j = (a.V j || ((b.V j && decide (j = k)) ^^ decide (j = k))) := by
  unfold Cb.V wOther; simp only [hbit_or, hbit_xor, hbit_and, hbit_one k j hk hj]
theorem wOther_K (a b : Cb) (k j : Nat) (hk : k < 128) (hj : j < 128) : (wOther a b k).K j = (a.K j || decide (j = k)) := by
  unfold Cb.K wOther; simp only [hbit_or, hbit_one k j hk hj]
theorem wSame_V (a b : Cb) (k j : Nat) (hk : k < 128) (hj : j < 128) : (wSame a b k).V j = (a.V j || (b.V j && decide (j = k))) := by
  unfold Cb.V wSame; simp only [hbit_or, hbit_and, hbit_one k j hk hj]
theorem wSame_K (a b : Cb) (k j : Nat) (hk : k < 128) (hj : j < 128) : (wSame a b k).K j = (a.K j || decide (j = k)) := by
  unfold Cb.K wSame; simp only [hbit_or, hbit_one k j hk hj]
theorem wSame_snd {a b : Cb} {k : Nat} (hk : k < 128) (ha : a.snd = true) : (wSame a b k).snd = true := by
  rw [Cb.snd_iff] at *
  intro j hj h
  rw [wSame_V _ _ _ _ hk hj] at h
  rw [wSame_K _ _ _ _ hk hj]
  have := ha j hj
  cases x1 : a.V j <;> cases x2 : a.K j <;> by_cases x3 : j = k <;> simp_all
theorem wOther_snd {a b : Cb} {k : Nat} (hk : k < 128) (ha : a.snd = true) : (wOther a b k).snd = true := by
  rw [Cb.snd_iff] at *
  intro j hj h
  rw [wOther_V _ _ _ _ hk hj] at h
  rw [wOther_K _ _ _ _ hk hj]
  have := ha j hj
  cases x1 : a.V j <;> cases x2 : a.K j <;> by_cases x3 : j = k <;> simp_all
theorem open_V {a : Cb} {k : Nat} (hk : k < 128) (ha : a.snd = true) (hn : a.K k = false) : a.V k = false := by
  rw [Cb.snd_iff] at ha
  cases h : a.V k with
  | false => rfl
  | true => rw [ha k hk h] at hn; cases hn
theorem wSame_has {a b : Cb} {k : Nat} (h l : BitVec 64) (hk : k < 128) (ha : a.snd = true) (hn : a.K k = false) :
    (wSame a b k).has h l = (a.has h l && (hbit h l k == b.V k)) := by
  have hv := open_V hk ha hn
  rw [Bool.eq_iff_iff, Bool.and_eq_true, Cb.has_iff, Cb.has_iff, beq_iff_eq]
  constructor
  · intro H
    refine ⟨fun j hj => ?_, ?_⟩
    · have := H j hj
      rw [wSame_V _ _ _ _ hk hj, wSame_K _ _ _ _ hk hj] at this
      by_cases e : j = k
      · subst e; rw [hv, hn]; simp
      · simpa [e] using this
    · have := H k hk
      rw [wSame_V _ _ _ _ hk hk, wSame_K _ _ _ _ hk hk, hv, hn] at this
      simpa using this
  · rintro ⟨H, e⟩ j hj
    rw [wSame_V _ _ _ _ hk hj, wSame_K _ _ _ _ hk hj]
    by_cases c : j = k
    · subst c; rw [hv, hn, e]; simp
    · have := H j hj; simpa [c] using this
theorem wOther_has {a b : Cb} {k : Nat} (h l : BitVec 64) (hk : k < 128) (ha : a.snd = true) (hn : a.K k = false) :
    (wOther a b k).has h l = (a.has h l && !(hbit h l k == b.V k)) := by
  have hv := open_V hk ha hn
  rw [Bool.eq_iff_iff, Bool.and_eq_true, Cb.has_iff, Cb.has_iff]
  constructor
  · intro H
    refine ⟨fun j hj => ?_, ?_⟩
    · have := H j hj
      rw [wOther_V _ _ _ _ hk hj, wOther_K _ _ _ _ hk hj] at this
      by_cases e : j = k
      · subst e; rw [hv, hn]; simp
      · simpa [e] using this
    · have := H k hk
      rw [wOther_V _ _ _ _ hk hk, wOther_K _ _ _ _ hk hk, hv, hn] at this
      cases x : hbit h l k <;> cases y : b.V k <;> simp_all
  · rintro ⟨H, e⟩ j hj
    rw [wOther_V _ _ _ _ hk hj, wOther_K _ _ _ _ hk hj]
    by_cases c : j = k
    · subst c; rw [hv, hn]; cases x : hbit h l j <;> cases y : b.V j <;> simp_all
    · have := H j hj; simpa [c] using this
/-- Numbers below 128, each once, for which a does not care. -/
def Free (a : Cb) : List Nat → Prop
  | [] => True
  | k :: ks => k < 128 ∧ a.K k = false ∧ k ∉ ks ∧ Free a ks
theorem Free.same {a b : Cb} {k : Nat} {ks : List Nat} (hk : k < 128) (h : Free a ks) (hn : k ∉ ks) : Free (wSame a b k) ks := by
  induction ks with
  | nil => trivial
  | cons m ks ih =>
    obtain ⟨h1, h2, h3, h4⟩ := h
    have e : m ≠ k := fun e => hn (by simp [e])
    exact ⟨h1, by rw [wSame_K _ _ _ _ hk h1, h2]; simp [e], h3, ih h4 (fun h => hn (by simp [h]))⟩
theorem bitsDown_mem {f : Nat → Bool} {n k : Nat} : k ∈ bitsDown f n ↔ k < n ∧ f k = true := by
  induction n with
  | zero => simp [bitsDown]
  | succ n ih =>
    rw [bitsDown]
    by_cases c : f n = true
    · rw [if_pos c, List.mem_cons, ih]
      constructor
      · rintro (rfl | ⟨h1, h2⟩)
        · exact ⟨by omega, c⟩
        · exact ⟨by omega, h2⟩
      · rintro ⟨h1, h2⟩
        by_cases e : k = n
        · exact .inl e
        · exact .inr ⟨by omega, h2⟩
    · rw [if_neg c, ih]
      constructor
      · rintro ⟨h1, h2⟩; exact ⟨by omega, h2⟩
      · rintro ⟨h1, h2⟩
        have e : k ≠ n := fun e => c (by rw [← e]; exact h2)
        exact ⟨by omega, h2⟩
theorem free_down (a : Cb) (f : Nat → Bool) (n : Nat) (hn : n ≤ 128) (hf : ∀ j, j < n → f j = true → a.K j = false) : Free a (bitsDown f n) := by
  induction n with
  | zero => trivial
  | succ n ih =>
    rw [bitsDown]
    by_cases c : f n = true
    · rw [if_pos c]
      exact ⟨by omega, hf n (by omega) c, fun h => by have := (bitsDown_mem.1 h).1; omega, ih (by omega) (fun j hj => hf j (by omega))⟩
    · rw [if_neg c]; exact ih (by omega) (fun j hj => hf j (by omega))
theorem open_iff (a b : Cb) (k : Nat) : k ∈ openBits a b ↔ k < 128 ∧ b.K k = true ∧ a.K k = false := by
  unfold openBits
  rw [bitsDown_mem]
  constructor
  · rintro ⟨h1, h2⟩
    rw [hbit_andNot _ _ _ _ _ h1] at h2
    refine ⟨h1, ?_⟩
    unfold Cb.K
    cases x : hbit b.ch b.cl k <;> cases y : hbit a.ch a.cl k <;> simp_all
  · rintro ⟨h1, h2, h3⟩
    refine ⟨h1, ?_⟩
    rw [hbit_andNot _ _ _ _ _ h1]
    unfold Cb.K at h2 h3
    rw [h2, h3]; rfl
theorem open_free (a b : Cb) : Free a (openBits a b) := by
  unfold openBits
  refine free_down a _ 128 (Nat.le_refl _) fun j hj h => ?_
  exact ((open_iff a b j).1 (bitsDown_mem.2 ⟨hj, h⟩)).2.2
def cntC (h l : BitVec 64) (L : List Cb) : Nat := (L.filter (fun c => c.has h l)).length
theorem cntC_nil (h l : BitVec 64) : cntC h l [] = 0 := rfl
theorem cntC_cons (h l : BitVec 64) (c : Cb) (L : List Cb) : cntC h l (c :: L) = (c.has h l).toNat + cntC h l L := by
  unfold cntC
  rw [List.filter_cons]
  cases x : c.has h l <;> simp [Nat.add_comm]
theorem cntC_snoc (h l : BitVec 64) (c : Cb) (L : List Cb) : cntC h l (L ++ [c]) = cntC h l L + (c.has h l).toNat := by
  unfold cntC
  rw [List.filter_append]
  cases x : c.has h l <;> simp [x]
theorem lessP_count (h l : BitVec 64) (b : Cb) (ks : List Nat) (a : Cb) (ha : a.snd = true) (hf : Free a ks) :
    cntC h l (lessP b a ks) + (a.has h l && ks.all (fun k => hbit h l k == b.V k)).toNat = (a.has h l).toNat := by
  induction ks generalizing a with
  | nil => simp [lessP, cntC_nil]
  | cons k ks ih =>
    obtain ⟨h1, h2, h3, h4⟩ := hf
    rw [lessP, cntC_cons, wOther_has h l h1 ha h2]
    have := ih (wSame a b k) (wSame_snd h1 ha) (h4.same h1 h3)
    rw [wSame_has h l h1 ha h2] at this
    rw [List.all_cons]
    cases x : a.has h l <;> cases y : (hbit h l k == b.V k) <;> simp_all
theorem wit_trans {a b c : Cb} (h1 : a.wit b = true) (h2 : b.wit c = true) : a.wit c = true := by
  rw [Cb.wit_iff] at *
  obtain ⟨p1, p2, p3, p4⟩ := h1
  obtain ⟨q1, q2, q3, q4⟩ := h2
  exact ⟨p1, q2, fun j hj h => p3 j hj (q3 j hj h), fun j hj x y => (p4 j hj x (q3 j hj y)).trans (q4 j hj (q3 j hj y) y)⟩
theorem wSame_wit {a b : Cb} {k : Nat} (hk : k < 128) (ha : a.snd = true) (hn : a.K k = false) : (wSame a b k).wit a = true := by
  rw [Cb.wit_iff]
  refine ⟨wSame_snd hk ha, ha, fun j hj h => by rw [wSame_K _ _ _ _ hk hj, h]; rfl, fun j hj _ h => ?_⟩
  have e : j ≠ k := fun e => by rw [e, hn] at h; cases h
  rw [wSame_V _ _ _ _ hk hj]; simp [e]
theorem wOther_wit {a b : Cb} {k : Nat} (hk : k < 128) (ha : a.snd = true) (hn : a.K k = false) : (wOther a b k).wit a = true := by
  rw [Cb.wit_iff]
  refine ⟨wOther_snd hk ha, ha, fun j hj h => by rw [wOther_K _ _ _ _ hk hj, h]; rfl, fun j hj _ h => ?_⟩
  have e : j ≠ k := fun e => by rw [e, hn] at h; cases h
  rw [wOther_V _ _ _ _ hk hj]; simp [e]
theorem wit_self {a : Cb} (ha : a.snd = true) : a.wit a = true := by
  rw [Cb.wit_iff]; exact ⟨ha, ha, fun _ _ h => h, fun _ _ _ _ => rfl⟩
theorem lessP_wit (b : Cb) (ks : List Nat) (a : Cb) (ha : a.snd = true) (hf : Free a ks) : ∀ c ∈ lessP b a ks, c.wit a = true := by
  induction ks generalizing a with
  | nil => intro c hc; cases hc
  | cons k ks ih =>
    obtain ⟨h1, h2, h3, h4⟩ := hf
    intro c hc
    rw [lessP, List.mem_cons] at hc
    rcases hc with rfl | hc
    · exact wOther_wit h1 ha h2
    · exact wit_trans (ih _ (wSame_snd h1 ha) (h4.same h1 h3) c hc) (wSame_wit h1 ha h2)
/-- The difference of two sound cubes. -/
def lessC (a b : Cb) : List Cb := if a.agr b = true then lessP b a (openBits a b) else [a]
theorem lessC_wit {a b : Cb} (ha : a.snd = true) : ∀ c ∈ lessC a b, c.wit a = true := by
  unfold lessC
  by_cases h : a.agr b = true
  · rw [if_pos h]; exact lessP_wit b _ a ha (open_free a b)
  · rw [if_neg h]; intro c hc; rw [List.mem_singleton] at hc; subst hc; exact wit_self ha
theorem lessC_len {a b : Cb} (ha : a.snd = true) (hb : b.snd = true) : (lessC a b).length = 0 ↔ a.wit b = true := by
  unfold lessC
  rw [Cb.wit_iff]
  by_cases h : a.agr b = true
  · rw [if_pos h, lessP_len, List.length_eq_zero_iff]
    constructor
    · intro e
      refine ⟨ha, hb, fun j hj hk => ?_, (Cb.agr_iff a b).1 h⟩
      cases x : a.K j with
      | true => rfl
      | false => have := (open_iff a b j).2 ⟨hj, hk, x⟩; rw [e] at this; cases this
    · rintro ⟨_, _, h3, _⟩
      cases e : openBits a b with
      | nil => rfl
      | cons k ks =>
        obtain ⟨h1, h2, h4⟩ := (open_iff a b k).1 (by rw [e]; simp)
        rw [h3 k h1 h2] at h4; cases h4
  · rw [if_neg h]
    constructor
    · intro e; simp at e
    · rintro ⟨_, _, _, h4⟩; exact absurd ((Cb.agr_iff a b).2 h4) h
theorem lessC_le (a b : Cb) : (lessC a b).length ≤ 128 := by
  unfold lessC
  by_cases h : a.agr b = true
  · rw [if_pos h, lessP_len]; exact bitsDown_len _ 128
  · rw [if_neg h]; simp
def Cb.met (a b : Cb) : Bool := metB a.vh a.vl a.ch a.cl b.vh b.vl b.ch b.cl
theorem met_eq (a b : Cb) (ha : a.snd = true) (hb : b.snd = true) : a.met b = a.agr b := by
  unfold Cb.met metB
  show (a.snd && (b.snd && a.agr b)) = _
  rw [ha, hb]; rfl
def Cb.join (a b : Cb) : Cb := ⟨a.vh ||| b.vh, a.vl ||| b.vl, a.ch ||| b.ch, a.cl ||| b.cl⟩
theorem join_has {a b : Cb} (h l : BitVec 64) (ha : a.snd = true) (hb : b.snd = true) (hg : a.agr b = true) :
    (a.join b).has h l = (a.has h l && (openBits a b).all (fun k => hbit h l k == b.V k)) := by
  rw [Cb.agr_iff] at hg
  rw [Cb.snd_iff] at ha hb
  rw [Bool.eq_iff_iff, Bool.and_eq_true, List.all_eq_true, Cb.has_iff, Cb.has_iff]
  have jv : ∀ j, (a.join b).V j = (a.V j || b.V j) := fun j => by unfold Cb.V Cb.join; rw [hbit_or]
  have jk : ∀ j, (a.join b).K j = (a.K j || b.K j) := fun j => by unfold Cb.K Cb.join; rw [hbit_or]
  constructor
  · intro H
    refine ⟨fun j hj => ?_, fun k hk => ?_⟩
    · have h1 := H j hj
      rw [jv, jk] at h1
      have h2 := hg j hj
      have h3 := ha j hj
      have h4 := hb j hj
      revert h1 h2 h3 h4
      generalize a.K j = k1
      generalize b.K j = k2
      generalize a.V j = v1
      generalize b.V j = v2
      generalize hbit h l j = t
      cases k1 <;> cases k2 <;> cases v1 <;> cases v2 <;> cases t <;> simp
    · obtain ⟨k1, k2, k3⟩ := (open_iff a b k).1 hk
      have h1 := H k k1
      rw [jv, jk, k2, k3] at h1
      have h3 := ha k k1
      rw [k3] at h3
      cases x3 : a.V k <;> simp_all
  · rintro ⟨H, G⟩ j hj
    rw [jv, jk]
    have h1 := H j hj
    have h2 := hg j hj
    have h3 := ha j hj
    have h4 := hb j hj
    by_cases hk : j ∈ openBits a b
    · have g := G j hk
      obtain ⟨k1, k2, k3⟩ := (open_iff a b j).1 hk
      cases x3 : a.V j <;> cases x4 : b.V j <;> cases x5 : hbit h l j <;> simp_all
    · have nk : ¬ (b.K j = true ∧ a.K j = false) := fun e => hk ((open_iff a b j).2 ⟨hj, e⟩)
      revert h1 h2 h3 h4 nk
      generalize a.K j = k1
      generalize b.K j = k2
      generalize a.V j = v1
      generalize b.V j = v2
      generalize hbit h l j = t
      cases k1 <;> cases k2 <;> cases v1 <;> cases v2 <;> cases t <;> simp
theorem parts_count {a b : Cb} (h l : BitVec 64) (ha : a.snd = true) (hb : b.snd = true) :
    (a.met b && (a.join b).has h l).toNat + cntC h l (lessC a b) = (a.has h l).toNat := by
  rw [met_eq a b ha hb]
  unfold lessC
  by_cases hg : a.agr b = true
  · rw [if_pos hg, hg, Bool.true_and, join_has h l ha hb hg, Nat.add_comm]
    exact lessP_count h l b _ a ha (open_free a b)
  · rw [if_neg hg, show a.agr b = false by simpa using hg, cntC_cons, cntC_nil]; simp
end Go.Proofs.Hd

namespace Go.Proofs.Hd
open Go.RowKit
/-- v is a slice of ports whose kinds are K. -/
def Po (w : World) (v : Value) (K : List Int) : Prop := (K = [] ∧ ∃ A cap, v = .slice A 0 cap) ∨ ∃ b off cap, v = .slice (some ⟨b, off, none⟩) K.length cap ∧ K.length ≤ maxLen ∧ b < w.heap.size ∧ ∀ (k : Nat) (x : Int), K[k]? = some x → w.cell? ⟨b, off + k * 5, none⟩ = some (.int .i64 x)
theorem Po.on {w w' : World} {v : Value} {K : List Int} (h : Po w v K) (hb : Below w.heap.size w w') : Po w' v K := by
  rcases h with h | ⟨b, off, cap, e, hl, hs, h⟩
  · exact .inl h
  · exact .inr ⟨b, off, cap, e, hl, Nat.lt_of_lt_of_le hs hb.size, fun k c hk => on_some hb (h k c hk)⟩
/-- Is n the number of a port of a kind? -/
def isP (K : List Int) (n kind : Int) : Bool := decide (0 ≤ n) && (K[n.toNat]? == some kind)
theorem isP_neg {K : List Int} {n : Int} (h : ¬ 0 ≤ n) (kind : Int) : isP K n kind = false := by simp [isP, h]
theorem isP_far {K : List Int} {n : Int} (h : ¬ n < (K.length : Int)) (kind : Int) : isP K n kind = false := by
  unfold isP
  by_cases h0 : 0 ≤ n
  · rw [List.getElem?_eq_none (by omega)]; simp
  · simp [h0]
theorem isP_at {K : List Int} {k : Nat} {x : Int} (h : K[k]? = some x) (kind : Int) : isP K (k : Int) kind = (x == kind) := by
  unfold isP
  rw [Int.toNat_natCast, h]
  simp
/-- May a rule of a table send headers where it does? -/
def leads (kind port tab table : Int) (K : List Int) : Bool :=
  if kind = 1 then decide (port = 0) && decide (tab = 0) else if kind = 2 then isP K port 1 && decide (tab = 0) else if kind = 3 then isP K port 2 && decide (tab = 0) else if kind = 4 then decide (table < tab) && decide (tab < 3) && decide (port = 0) else false
/-- Is a rule sound at a table of a switch with ports of these kinds? -/
def sndR (r : Rl) (table : Int) (K : List Int) : Bool := decide (0 ≤ r.pri) && decide (r.pri ≤ 1048576) && r.m.snd && r.s.snd && leads r.kind r.port r.tab table K
end Go.Proofs.Hd
namespace Go.Proofs
open Go.RowKit Go.Proofs.Hd Go.Sort
attribute [local go_sem] uv_nonneg
set_option maxRecDepth 100000 in
theorem isPort_c (x : Bool) (v : Value) (K : List Int) (n kind : Int) (w : World) (hx : isP K n kind = x) (hv : Po w v K) : Calls Try.prog 81 #[v, .int .i64 n, .int .i64 kind] w fun e w' => e = .returned (.bool x) ∧ Below w.heap.size w w' := by
  obtain ⟨A, cap, hA⟩ : ∃ A cap, v = .slice A K.length cap := by
    rcases hv with ⟨rfl, A, cap, rfl⟩ | ⟨b, off, cap, rfl, _⟩ <;> exact ⟨_, _, rfl⟩
  by_cases h0 : 0 ≤ n
  · by_cases h1 : n < (K.length : Int)
    · obtain ⟨k, rfl⟩ : ∃ k : Nat, n = (k : Int) := ⟨n.toNat, by omega⟩
      have hk : k < K.length := by omega
      obtain ⟨y, hy⟩ : ∃ y, K[k]? = some y := ⟨_, List.getElem?_eq_getElem hk⟩
      rcases hv with ⟨rfl, _⟩ | ⟨b, off, cap, rfl, hl, hb, hc⟩
      · simp at hk
      have c := hc k y hy
      rw [isP_at hy] at hx
      have hl2 : (K.length : Int) ≤ 9223372036854775807 := by unfold maxLen at hl; omega
      clear hc hy hA
      go_enter Try.func81, Try.ntmps81
      go_wp2
      go_ret
      exact ⟨by subst hx; rfl, Below.refl _ _⟩
    · rw [isP_far h1] at hx
      subst hx hA
      clear hv
      go_enter Try.func81, Try.ntmps81
      go_wp2
      go_ret
      exact ⟨rfl, Below.refl _ _⟩
  · rw [isP_neg h0] at hx
    subst hx hA
    clear hv
    go_enter Try.func81, Try.ntmps81
    go_wp2
    go_ret
    exact ⟨rfl, Below.refl _ _⟩
set_option maxRecDepth 100000 in
set_option maxHeartbeats 4000000 in
theorem leads_c (x : Bool) (r : Rl) (table : Int) (v : Value) (K : List Int) (w : World) (hx : leads r.kind r.port r.tab table K = x) (hv : Po w v K) : Calls Try.prog 73 #[.agg #[.int .i64 r.pri, .int .u64 (uv r.m.vh), .int .u64 (uv r.m.vl), .int .u64 (uv r.m.ch), .int .u64 (uv r.m.cl), .int .i64 r.kind, .int .i64 r.port, .int .i64 r.tab, .int .u64 (uv r.s.vh), .int .u64 (uv r.s.vl), .int .u64 (uv r.s.ch), .int .u64 (uv r.s.cl)], .int .i64 table, v] w fun e w' => e = .returned (.bool x) ∧ Below w.heap.size w w' := by
  obtain ⟨pri, m, kind, port, tab, s⟩ := r
  dsimp only at hx ⊢
  have B0 := below1 w (.cells #[.int .i64 pri, .int .u64 (uv m.vh), .int .u64 (uv m.vl), .int .u64 (uv m.ch), .int .u64 (uv m.cl), .int .i64 kind, .int .i64 port, .int .i64 tab, .int .u64 (uv s.vh), .int .u64 (uv s.vl), .int .u64 (uv s.ch), .int .u64 (uv s.cl)] 115)
  unfold leads at hx
  by_cases k1 : kind = 1
  · subst k1
    rw [if_pos rfl] at hx
    by_cases hp : port = 0
    · subst hp
      by_cases ht : tab = 0
      · subst ht
        subst hx
        go_enter Try.func73, Try.ntmps73
        go_wp2
        go_ret
        exact ⟨by simp, B0⟩
      · simp [ht] at hx
        subst hx
        go_enter Try.func73, Try.ntmps73
        go_wp2
        go_ret
        exact ⟨by simp [ht], B0⟩
    · simp [hp] at hx
      subst hx
      go_enter Try.func73, Try.ntmps73
      go_wp2
      go_ret
      exact ⟨by simp, B0⟩
  rw [if_neg k1] at hx
  by_cases k2 : kind = 2
  · subst k2
    rw [if_pos rfl] at hx
    cases hp : isP K port 1 with
    | true =>
      rw [hp] at hx
      go_enter Try.func73, Try.ntmps73
      go_wp2_with fail
      refine (isPort_c true v K port 1 _ hp (hv.on B0)).mono ?_
      rintro e w1 ⟨rfl, hb⟩
      have c7 : w1.cell? ⟨w.heap.size, 7, none⟩ = some (.int .i64 tab) := on_some hb (by go_simp)
      have B := B0.trans (hb.mono B0.size)
      clear B0 hb hv
      by_cases ht : tab = 0
      · subst ht; subst hx
        go_wp2
        go_ret
        exact ⟨by simp, B⟩
      · simp [ht] at hx; subst hx
        go_wp2
        go_ret
        exact ⟨by simp [ht], B⟩
    | false =>
      rw [hp] at hx
      simp at hx
      subst hx
      go_enter Try.func73, Try.ntmps73
      go_wp2_with fail
      refine (isPort_c false v K port 1 _ hp (hv.on B0)).mono ?_
      rintro e w1 ⟨rfl, hb⟩
      have B := B0.trans (hb.mono B0.size)
      clear B0 hb hv
      go_wp2
      go_ret
      exact ⟨by simp, B⟩
  rw [if_neg k2] at hx
  by_cases k3 : kind = 3
  · subst k3
    rw [if_pos rfl] at hx
    cases hp : isP K port 2 with
    | true =>
      rw [hp] at hx
      go_enter Try.func73, Try.ntmps73
      go_wp2_with fail
      refine (isPort_c true v K port 2 _ hp (hv.on B0)).mono ?_
      rintro e w1 ⟨rfl, hb⟩
      have c7 : w1.cell? ⟨w.heap.size, 7, none⟩ = some (.int .i64 tab) := on_some hb (by go_simp)
      have B := B0.trans (hb.mono B0.size)
      clear B0 hb hv
      by_cases ht : tab = 0
      · subst ht; subst hx
        go_wp2
        go_ret
        exact ⟨by simp, B⟩
      · simp [ht] at hx; subst hx
        go_wp2
        go_ret
        exact ⟨by simp [ht], B⟩
    | false =>
      rw [hp] at hx
      simp at hx
      subst hx
      go_enter Try.func73, Try.ntmps73
      go_wp2_with fail
      refine (isPort_c false v K port 2 _ hp (hv.on B0)).mono ?_
      rintro e w1 ⟨rfl, hb⟩
      have B := B0.trans (hb.mono B0.size)
      clear B0 hb hv
      go_wp2
      go_ret
      exact ⟨by simp, B⟩
  rw [if_neg k3] at hx
  by_cases k4 : kind = 4
  · subst k4
    rw [if_pos rfl] at hx
    by_cases h1 : table < tab
    · by_cases h2 : tab < 3
      · by_cases h3 : port = 0
        · subst h3
          simp [h1, h2] at hx
          subst hx
          go_enter Try.func73, Try.ntmps73
          go_wp2
          go_ret
          exact ⟨by simp, B0⟩
        · simp [h3] at hx
          subst hx
          go_enter Try.func73, Try.ntmps73
          go_wp2
          go_ret
          exact ⟨by simp [h3], B0⟩
      · simp [h2] at hx
        subst hx
        go_enter Try.func73, Try.ntmps73
        go_wp2
        go_ret
        exact ⟨by simp, B0⟩
    · simp [h1] at hx
      subst hx
      go_enter Try.func73, Try.ntmps73
      go_wp2
      go_ret
      exact ⟨by simp, B0⟩
  rw [if_neg k4] at hx
  subst hx
  go_enter Try.func73, Try.ntmps73
  go_wp2
  go_ret
  exact ⟨by simp, B0⟩
end Go.Proofs

namespace Go.Proofs.Ytfmfbkfppfohbaa
open Go.ChangeShapes Go.WideShapes Go.ChangeAt Go.RowKit Go.Joins Go.Deep Go.Proofs.Hd
theorem cellsRule : Try.prog.cellsOf 62 = 12 := by kernel_rfl
theorem cellsDo : Try.prog.cellsOf 60 = 7 := by kernel_rfl
theorem cellsPort : Try.prog.cellsOf 65 = 5 := by kernel_rfl
theorem cellsInt : Try.prog.cellsOf 3 = 1 := by kernel_rfl
section
variable {H : Type} {enc : TypeId × Value → H} {W : World} {base : Nat} {sp : Nat → Bool}
set_option maxRecDepth 100000 in
theorem read_cube4 {n : Nat} {c0 c1 c2 c3 : Value} {y : DataW H × List MemPlace} (h0 : DataW.trod enc Try.prog W base sp true n 46 [c0, c1, c2, c3] = some y) :
    ∃ c : Cb, c0 = .int .u64 (uv c.vh) ∧ c1 = .int .u64 (uv c.vl) ∧ c2 = .int .u64 (uv c.ch) ∧ c3 = .int .u64 (uv c.cl) := by
  obtain ⟨y0, y1, m, _, _, q0, q1⟩ := trod_struct2 Try.underlying46 h0
  have q0' : DataW.trod enc Try.prog W base sp true m 44 [c0, c1] = some y0 := by simpa [cellsHead] using q0
  have q1' : DataW.trod enc Try.prog W base sp true m 44 [c2, c3] = some y1 := by simpa [cellsHead] using q1
  obtain ⟨vh, vl, rfl, rfl, _⟩ := read_head q0'
  obtain ⟨ch, cl, rfl, rfl, _⟩ := read_head q1'
  exact ⟨⟨vh, vl, ch, cl⟩, rfl, rfl, rfl, rfl⟩
set_option maxRecDepth 100000 in
theorem read_rule {n : Nat} {cs : List Value} {y : DataW H × List MemPlace} (hl : cs.length = 12) (h0 : DataW.trod enc Try.prog W base sp true n 62 cs = some y) : ∃ r : Rl, cs = r.cs := by
  match cs, hl with
  | [c0, c1, c2, c3, c4, c5, c6, c7, c8, c9, c10, c11], _ =>
    obtain ⟨y0, y1, y2, m, _, _, q0, q1, q2⟩ := trod_struct3 Try.underlying62 h0
    have q0' : DataW.trod enc Try.prog W base sp true m 3 [c0] = some y0 := by simpa [cellsInt] using q0
    have q1' : DataW.trod enc Try.prog W base sp true m 46 [c1, c2, c3, c4] = some y1 := by simpa [cellsCube] using q1
    have q2' : DataW.trod enc Try.prog W base sp true m 60 [c5, c6, c7, c8, c9, c10, c11] = some y2 := by simpa [cellsDo] using q2
    obtain ⟨pri, e0, _, _⟩ := DataW.trod_int Try.underlying3 q0'
    obtain ⟨cm, e1, e2, e3, e4⟩ := read_cube4 q1'
    obtain ⟨z0, z1, z2, z3, m', _, _, s0, s1, s2, s3⟩ := trod_struct4 Try.underlying60 q2'
    have s0' : DataW.trod enc Try.prog W base sp true m' 3 [c5] = some z0 := by simpa [cellsInt] using s0
    have s1' : DataW.trod enc Try.prog W base sp true m' 3 [c6] = some z1 := by simpa [cellsInt] using s1
    have s2' : DataW.trod enc Try.prog W base sp true m' 3 [c7] = some z2 := by simpa [cellsInt] using s2
    have s3' : DataW.trod enc Try.prog W base sp true m' 46 [c8, c9, c10, c11] = some z3 := by simpa [cellsCube] using s3
    obtain ⟨kind, e5, _, _⟩ := DataW.trod_int Try.underlying3 s0'
    obtain ⟨port, e6, _, _⟩ := DataW.trod_int Try.underlying3 s1'
    obtain ⟨tab, e7, _, _⟩ := DataW.trod_int Try.underlying3 s2'
    obtain ⟨cset, e8, e9, e10, e11⟩ := read_cube4 s3'
    simp at e0 e5 e6 e7
    subst e0 e1 e2 e3 e4 e5 e6 e7 e8 e9 e10 e11
    exact ⟨⟨pri, cm, kind, port, tab, cset⟩, rfl⟩
set_option maxRecDepth 100000 in
theorem read_port {n : Nat} {cs : List Value} {y : DataW H × List MemPlace} (hl : cs.length = 5) (h0 : DataW.trod enc Try.prog W base sp true n 65 cs = some y) : ∃ k : Int, cs[0]? = some (.int .i64 k) := by
  obtain ⟨xs, m, _, _, _, _, hf⟩ := DataW.trod_struct Try.underlying65 h0
  match cs, hl with
  | [c0, c1, c2, c3, c4], _ =>
    have q := hf 0 _ rfl
    simp [cellsInt] at q
    obtain ⟨x, _, q⟩ : ∃ x, xs[0]? = some x ∧ DataW.trod enc Try.prog W base sp true m 3 [c0] = some x := by
      first
        | exact ⟨_, rfl, q⟩
        | (obtain ⟨x, h1, h2⟩ := q; exact ⟨x, h1, h2⟩)
        | (cases hx : xs[0]? with
          | none => simp_all
          | some x => exact ⟨x, rfl, by simp_all⟩)
    obtain ⟨k, e0, _, _⟩ := DataW.trod_int Try.underlying3 q
    simp at e0
    subst e0
    exact ⟨k, rfl⟩
end
set_option maxRecDepth 100000 in
/-- A rule by value. -/
theorem open_rule {H : Type} {enc : TypeId × Value → H} {W : World} {base : Nat} {v : Value} {d : DataW H} {p : List MemPlace} (hok : Value.okWide Try.prog W .any base 62 v)
    (h0 : DataW.Trod enc Try.prog W 0 (fun _ => true) true 62 v d p) : ∃ r : Rl, v = .agg #[.int .i64 r.pri, .int .u64 (uv r.m.vh), .int .u64 (uv r.m.vl), .int .u64 (uv r.m.ch), .int .u64 (uv r.m.cl), .int .i64 r.kind, .int .i64 r.port, .int .i64 r.tab, .int .u64 (uv r.s.vh), .int .u64 (uv r.s.vl), .int .u64 (uv r.s.ch), .int .u64 (uv r.s.cl)] := by
  obtain ⟨cs, rfl, hsz⟩ := okWide_struct Try.underlying62 hok
  obtain ⟨fuel, hf⟩ := h0
  obtain ⟨r, hr⟩ := read_rule (cs := cs.toList) (by simpa using hsz.trans cellsRule) (by simpa [Value.cells] using hf)
  refine ⟨r, ?_⟩
  congr 1
  apply Array.toList_inj.1
  rw [hr]
  rfl
theorem add_plainR (b o n : Nat) : (⟨b, o, none⟩ : Addr).add n = ⟨b, o + n, none⟩ := by unfold Addr.add; by_cases hn : n = 0 <;> simp [hn]
set_option maxRecDepth 100000 in
/-- A slice of rules. -/
theorem open_rules {H : Type} {enc : TypeId × Value → H} {W : World} {base : Nat} {v : Value} {d : DataW H} {p : List MemPlace} (hok : Value.okWide Try.prog W .any base 58 v)
    (h0 : DataW.Trod enc Try.prog W 0 (fun _ => true) true 58 v d p) : ∃ (A : Option Addr) (cap : Nat) (L : List Rl), v = .slice A L.length cap ∧ Ru W v L ∧ (L.length = 0 ∨ ∃ el sp, d = .slice el sp ∧ el.length = L.length) := by
  obtain ⟨fuel, hf⟩ := h0
  obtain ⟨va, vl, vc, rfl⟩ := okWide_slice Try.underlying58 hok
  rcases open_slice Try.underlying58 hf with ⟨h1, _⟩ | ⟨a, len, cap, m, n, D, Pl, hcs, _, hlc, hcm, hm, hx, hel⟩
  · have : va = none ∧ vl = 0 ∧ vc = 0 := by simpa [Value.cells] using h1
    obtain ⟨rfl, rfl, rfl⟩ := this
    exact ⟨none, 0, [], rfl, .inl ⟨rfl, none, 0, rfl⟩, .inl rfl⟩
  · have hv : va = some a ∧ vl = len ∧ vc = cap := by simpa [Value.cells] using hcs
    obtain ⟨rfl, rfl, rfl⟩ := hv
    rw [cellsRule] at hel
    have hm' : m = vc := by simpa using hm
    subst hm'
    obtain ⟨f, hfr⟩ := choose_lt (α := Rl) (p := fun i r => ∀ (j : Nat) (u : Value), r.cs[j]? = some u → W.cell? ((a.add (i * 12)).add j) = some u) (fun i (hi : i < m) => by
      obtain ⟨cs', hc, ht⟩ := hel i hi
      obtain ⟨_, hl, hat⟩ := World.cells?_some hc
      obtain ⟨r, rfl⟩ := read_rule hl ht
      refine ⟨r, fun j u hj => ?_⟩
      have hj' : j < 12 := by have := (List.getElem?_eq_some_iff.1 hj).1; rwa [Rl.cs_len] at this
      exact (hat j hj').trans hj)
    have hd := congrArg Prod.fst hx
    refine ⟨some a, m, (List.range vl).map f, by simp, ?_, .inr ⟨_, _, hd, by simp⟩⟩
    by_cases h0 : vl = 0
    · subst h0
      exact .inl ⟨by simp, _, _, rfl⟩
    · have h1 := hfr 0 (by omega) 0 _ rfl
      obtain ⟨b, off, spot⟩ := a
      have hs : spot = none := by
        have := World.cell?_spot h1
        simpa [Addr.add] using this
      subst hs
      have hlt := World.block_lt_of_cell? W _ h1
      rw [add_plainR, add_plainR] at hlt
      refine .inr ⟨b, off, m, by simp, hlt, fun k r hk j u hj => ?_⟩
      obtain ⟨hkl, rfl⟩ := List.getElem?_eq_some_iff.1 hk
      simp only [List.length_map, List.length_range] at hkl
      simp only [List.getElem_map, List.getElem_range] at hj
      have := hfr k (by omega) j u hj
      rw [add_plainR, add_plainR] at this
      exact this
set_option maxRecDepth 100000 in
/-- A slice of ports. -/
theorem open_ports {H : Type} {enc : TypeId × Value → H} {W : World} {base : Nat} {v : Value} {d : DataW H} {p : List MemPlace} (hok : Value.okWide Try.prog W .any base 63 v)
    (h0 : DataW.Trod enc Try.prog W 0 (fun _ => true) true 63 v d p) : ∃ (A : Option Addr) (cap : Nat) (K : List Int), v = .slice A K.length cap ∧ Po W v K := by
  obtain ⟨fuel, hf⟩ := h0
  obtain ⟨va, vl, vc, rfl⟩ := okWide_slice Try.underlying63 hok
  rcases open_slice Try.underlying63 hf with ⟨h1, _⟩ | ⟨a, len, cap, m, n, D, Pl, hcs, _, hlc, hcm, hm, hx, hel⟩
  · have : va = none ∧ vl = 0 ∧ vc = 0 := by simpa [Value.cells] using h1
    obtain ⟨rfl, rfl, rfl⟩ := this
    exact ⟨none, 0, [], rfl, .inl ⟨rfl, none, 0, rfl⟩⟩
  · have hv : va = some a ∧ vl = len ∧ vc = cap := by simpa [Value.cells] using hcs
    obtain ⟨rfl, rfl, rfl⟩ := hv
    rw [cellsPort] at hel
    have hm' : m = vc := by simpa using hm
    subst hm'
    obtain ⟨f, hfr⟩ := choose_lt (α := Int) (p := fun i x => W.cell? ((a.add (i * 5)).add 0) = some (.int .i64 x)) (fun i (hi : i < m) => by
      obtain ⟨cs', hc, ht⟩ := hel i hi
      obtain ⟨_, hl, hat⟩ := World.cells?_some hc
      obtain ⟨k, hk⟩ := read_port hl ht
      exact ⟨k, (hat 0 (by omega)).trans hk⟩)
    refine ⟨some a, m, (List.range vl).map f, by simp, ?_⟩
    by_cases h0 : vl = 0
    · subst h0
      exact .inl ⟨by simp, _, _, rfl⟩
    · have h1 := hfr 0 (by omega)
      obtain ⟨b, off, spot⟩ := a
      have hs : spot = none := by
        have := World.cell?_spot h1
        simpa [Addr.add] using this
      subst hs
      have hlt := World.block_lt_of_cell? W _ h1
      rw [add_plainR, add_plainR] at hlt
      refine .inr ⟨b, off, m, by simp, by simp; omega, hlt, fun k x hk => ?_⟩
      obtain ⟨hkl, rfl⟩ := List.getElem?_eq_some_iff.1 hk
      simp only [List.length_map, List.length_range] at hkl
      simp only [List.getElem_map, List.getElem_range]
      have := hfr k (by omega)
      rw [add_plainR, add_plainR, Nat.add_zero] at this
      exact this
end Go.Proofs.Ytfmfbkfppfohbaa

namespace Go.Proofs
open Go.RowKit Go.Proofs.Hd
attribute [local go_sem] uv_and uv_or uv_xor uv_andNot uv_shr uv_shl uv_add uv_sub uv_nonneg uv_shl_one uv_sub_one uv_and_one uv_div_2 uv_div_4 uv_div_16 uv_div_256 uv_div_65536 uv_div_big uv_and_m0 uv_and_m1 uv_and_m2
theorem ret_int {k : IntKind} {a b : Int} (h : a = b) : Ending.returned (.int k a) = .returned (.int k b) := by rw [h]
theorem bdrewN {B : Nat} {w w' : World} (n : Nat) (h : Below B w w') : Below B w (w'.drewN n) := ⟨h.os, h.tape, h.output, h.size, h.block⟩

theorem field_yes (a b : Nat) (w : World) (h : a + b ≤ 128) : Calls Try.prog 86 #[.int .i64 a, .int .i64 b] w fun e w' => e = .returned (.bool true) ∧ w = w' := by
  have h1 : (0 : Int) ≤ a := by omega
  have h2 : (0 : Int) ≤ b := by omega
  have h3 : (b : Int) ≤ 128 - a := by omega
  have h4 : (a : Int) ≤ 128 := by omega
  go_enter Try.func86, Try.ntmps86
  go_wp2
  go_ret
  exact ⟨rfl, rfl⟩

theorem number_yes (a b : Nat) (w : World) (h : a + b ≤ 128) (h64 : b ≤ 64) : Calls Try.prog 82 #[.int .i64 a, .int .i64 b] w fun e w' => e = .returned (.bool true) ∧ w = w' := by
  have h3 : decide ((b : Int) ≤ 64) = true := by simp; omega
  go_enter Try.func82, Try.ntmps82
  go_wp2_with (go_at_call 86; refine (field_yes _ _ _ h).mono ?_; rintro e w' ⟨rfl, rfl⟩)
  go_ret
  exact ⟨rfl, rfl⟩

theorem lowest_c (n : Nat) (w : World) (h : n ≤ 64) : Calls Try.prog 83 #[.int .i64 n] w fun e w' => e = .returned (.int .u64 (uv (low n))) ∧ w = w' := by
  go_enter Try.func83, Try.ntmps83
  go_wp2
  go_ret
  exact ⟨rfl, rfl⟩

theorem up_hi (v : BitVec 64) (n : Nat) (w : World) (h1 : 64 ≤ n) (h2 : n ≤ 128) : Calls Try.prog 85 #[.int .u64 (uv v), .int .i64 n] w fun e w' => e = .returned (.agg #[.int .u64 (uv (upHi v n)), .int .u64 (uv (upLo v n))]) ∧ Below w.heap.size w w' := by
  go_enter Try.func85, Try.ntmps85
  go_wp2
  exact bodyPost_ret (v := .agg #[.int .u64 (uv (v <<< (n - 64))), .int .u64 (uv 0#64)]) (by simp [results, Try.results85, go_sem, ← uv_zero]) rfl ⟨by rw [upHi, upLo, if_pos h1, if_pos h1], (Below.refl _ _).alloc (Nat.le_refl _) _⟩

theorem up_lo (v : BitVec 64) (n : Nat) (w : World) (h1 : n < 64) : Calls Try.prog 85 #[.int .u64 (uv v), .int .i64 n] w fun e w' => e = .returned (.agg #[.int .u64 (uv (upHi v n)), .int .u64 (uv (upLo v n))]) ∧ Below w.heap.size w w' := by
  go_enter Try.func85, Try.ntmps85
  go_wp2
  go_region
  go_wp2
  exact bodyPost_ret (v := .agg #[.int .u64 (uv (v >>> (64 - n))), .int .u64 (uv (v <<< n))]) (by simp [results, Try.results85, go_sem]) rfl ⟨by rw [upHi, upLo, if_neg (by omega), if_neg (by omega)], ((Below.refl _ _).alloc (Nat.le_refl _) _).drew⟩

theorem lowest_i (x : Int) (w : World) (h0 : 0 ≤ x) (h : x ≤ 64) : Calls Try.prog 83 #[.int .i64 x] w fun e w' => e = .returned (.int .u64 (uv (low x.toNat))) ∧ w = w' := by
  have := lowest_c x.toNat w (by omega)
  rwa [Int.toNat_of_nonneg h0] at this

theorem below_lo (n : Nat) (w : World) (h : n < 64) : Calls Try.prog 87 #[.int .i64 n] w fun e w' => e = .returned (.agg #[.int .u64 (uv (low (n - 64))), .int .u64 (uv (low (min n 64)))]) ∧ Below w.heap.size w w' := by
  have h1 : (n : Int) - 64 < 0 := by omega
  have h2 : (n : Int) < 64 := by omega
  go_enter Try.func87, Try.ntmps87
  go_wp2_with (go_at_call 83; refine (lowest_i _ _ (by omega) (by omega)).mono ?_; rintro e w' ⟨rfl, rfl⟩)
  refine bodyPost_ret (v := .agg #[.int .u64 (uv (low 0)), .int .u64 (uv (low n))]) (by simp [results, Try.results87, go_sem]) rfl ⟨by rw [Nat.min_eq_left (by omega), show n - 64 = 0 by omega], (Below.refl _ _).alloc (Nat.le_refl _) _⟩

theorem below_hi (n : Nat) (w : World) (h : 64 < n) (h' : n ≤ 128) : Calls Try.prog 87 #[.int .i64 n] w fun e w' => e = .returned (.agg #[.int .u64 (uv (low (n - 64))), .int .u64 (uv (low (min n 64)))]) ∧ Below w.heap.size w w' := by
  have h1 : (0 : Int) ≤ (n : Int) - 64 := by omega
  have h2 : (64 : Int) < n := by omega
  rw [Nat.min_eq_right (by omega)]
  go_enter Try.func87, Try.ntmps87
  go_wp2_with (go_at_call 83; refine (lowest_i _ _ (by omega) (by omega)).mono ?_; rintro e w' ⟨rfl, rfl⟩)
  refine bodyPost_ret (v := .agg #[.int .u64 (uv (low (n - 64))), .int .u64 (uv (low 64))]) (by simp [results, Try.results87, go_sem]) rfl ⟨rfl, (Below.refl _ _).alloc (Nat.le_refl _) _⟩

theorem below_64 (w : World) : Calls Try.prog 87 #[.int .i64 64] w fun e w' => e = .returned (.agg #[.int .u64 (uv (low 0)), .int .u64 (uv (low 64))]) ∧ Below w.heap.size w w' := by
  go_enter Try.func87, Try.ntmps87
  go_wp2_with (go_at_call 83; refine (lowest_i _ _ (by omega) (by omega)).mono ?_; rintro e w' ⟨rfl, rfl⟩)
  refine bodyPost_ret (v := .agg #[.int .u64 (uv (low 0)), .int .u64 (uv (low 64))]) (by simp [results, Try.results87, go_sem]) rfl ⟨rfl, (Below.refl _ _).alloc (Nat.le_refl _) _⟩

theorem below_c (n : Nat) (w : World) (h : n ≤ 128) : Calls Try.prog 87 #[.int .i64 n] w fun e w' => e = .returned (.agg #[.int .u64 (uv (low (n - 64))), .int .u64 (uv (low (min n 64)))]) ∧ Below w.heap.size w w' := by
  by_cases h1 : 64 < n
  · exact below_hi n w h1 h
  · by_cases h2 : n = 64
    · subst h2; exact below_64 w
    · exact below_lo n w (by omega)

end Go.Proofs

namespace Go.Proofs
open Go.RowKit Go.Proofs.Hd
attribute [local go_sem] uv_and uv_or uv_xor uv_andNot uv_shr uv_shl uv_add uv_sub uv_nonneg uv_shl_one uv_sub_one uv_and_one

theorem below_i (x : Int) (w : World) (h0 : 0 ≤ x) (h : x ≤ 128) : Calls Try.prog 87 #[.int .i64 x] w fun e w' => e = .returned (.agg #[.int .u64 (uv (low (x.toNat - 64))), .int .u64 (uv (low (min x.toNat 64)))]) ∧ Below w.heap.size w w' := by
  have := below_c x.toNat w (by omega)
  rwa [Int.toNat_of_nonneg h0] at this

theorem mask_c (a n : Nat) (w : World) (h : a + n ≤ 128) : Calls Try.prog 75 #[.int .i64 a, .int .i64 n] w fun e w' => e = .returned (.tuple #[.agg #[.int .u64 (uv (maskH a n)), .int .u64 (uv (maskL a n))], .int .i64 0]) ∧ Below w.heap.size w w' := by
  go_enter Try.func75, Try.ntmps75
  go_wp2_with (go_at_call 86; refine (field_yes _ _ _ h).mono ?_; rintro e w' ⟨rfl, rfl⟩)
  refine (below_i _ _ (by omega) (by omega)).mono ?_
  rintro e w1 ⟨rfl, hb1⟩
  go_wp2_with fail
  refine (below_i _ _ (by omega) (by omega)).mono ?_
  rintro e w2 ⟨rfl, hb2⟩
  go_wp2_with fail
  refine (less_c _ _ _ _ _).mono ?_
  rintro e w3 ⟨rfl, hb3⟩
  have hb : Below (w.heap.size + 1) (w.alloc (.cells #[.int .u64 0, .int .u64 0] 44)) w3 := ((hb1.trans (hb2.mono hb1.size)).trans (hb3.mono (Nat.le_trans hb1.size hb2.size))).mono (by simp)
  have hc : ∀ o, w3.cell? ⟨w.heap.size, o, none⟩ = (w.alloc (.cells #[.int .u64 0, .int .u64 0] 44)).cell? ⟨w.heap.size, o, none⟩ := fun o => hb.cell (p := ⟨w.heap.size, o, none⟩) (by simp)
  have hf : ∀ o, w3.frozen? ⟨w.heap.size, o, none⟩ = (w.alloc (.cells #[.int .u64 0, .int .u64 0] 44)).frozen? ⟨w.heap.size, o, none⟩ := fun o => hb.frozen (p := ⟨w.heap.size, o, none⟩) (by simp)
  go_wp2
  exact bodyPost_ret (v := .tuple #[.agg #[.int .u64 (uv (maskH a n)), .int .u64 (uv (maskL a n))], .int .i64 0]) (by simp [results, Try.results75, go_sem, hc, maskH, maskL]) rfl ⟨rfl, ((((Below.refl _ w).alloc (Nat.le_refl _) _).trans (hb.mono (by omega))).setCell (by simp) _).setCell (by simp) _⟩

theorem mask_e (a n : Int) (w : World) (hf : ∀ w, Calls Try.prog 86 #[.int .i64 a, .int .i64 n] w fun e w' => e = .returned (.bool false) ∧ w = w') : Calls Try.prog 75 #[.int .i64 a, .int .i64 n] w fun e w' => e = .returned (.tuple #[.agg #[.int .u64 (uv 0#64), .int .u64 (uv 0#64)], .int .i64 1]) ∧ Below w.heap.size w w' := by
  go_enter Try.func75, Try.ntmps75
  go_wp2_with (go_at_call 86; refine (hf _).mono ?_; rintro e w' ⟨rfl, rfl⟩)
  exact bodyPost_ret (v := .tuple #[.agg #[.int .u64 (uv 0#64), .int .u64 (uv 0#64)], .int .i64 1]) (by simp [results, Try.results75, go_sem, ← uv_zero]) rfl ⟨rfl, (Below.refl _ w).alloc (Nat.le_refl _) _⟩

end Go.Proofs

namespace Go.Proofs
open Go.RowKit Go.Proofs.Hd
attribute [local go_sem] uv_and uv_or uv_xor uv_andNot uv_shr uv_shl uv_add uv_sub uv_nonneg uv_shl_one uv_sub_one uv_and_one

theorem up_c (v : BitVec 64) (n : Nat) (w : World) (h2 : n ≤ 128) : Calls Try.prog 85 #[.int .u64 (uv v), .int .i64 n] w fun e w' => e = .returned (.agg #[.int .u64 (uv (upHi v n)), .int .u64 (uv (upLo v n))]) ∧ Below w.heap.size w w' := by
  by_cases h1 : 64 ≤ n
  · exact up_hi v n w h1 h2
  · exact up_lo v n w (by omega)

theorem keep2 {B b : Nat} {x y : Option Value} {W0 w1 w2 : World} (hb : Below w1.heap.size w1 w2) (h : Below B W0 w1 ∧ w1.cell? ⟨b, 0, none⟩ = x ∧ w1.cell? ⟨b, 1, none⟩ = y) (hB : B ≤ W0.heap.size) (hbB : b < B) :
    Below B W0 w2 ∧ w2.cell? ⟨b, 0, none⟩ = x ∧ w2.cell? ⟨b, 1, none⟩ = y := by
  have hs := h.1.size
  exact ⟨h.1.trans (hb.mono (by omega)), (hb.cell (p := ⟨b, 0, none⟩) (by simp; omega)).trans h.2.1, (hb.cell (p := ⟨b, 1, none⟩) (by simp; omega)).trans h.2.2⟩

theorem later {B : Nat} {W0 w1 w2 : World} (hb : Below w1.heap.size w1 w2) (h : Below B W0 w1) (hB : B ≤ W0.heap.size) : Below B W0 w2 :=
  h.trans (hb.mono (Nat.le_trans hB h.size))
theorem six {w w' : World} {h l : BitVec 64} (J : Below (w.heap.size + 2) ((w.alloc (.cells #[.int .u64 (uv h), .int .u64 (uv l)] 44)).alloc (.cells #[.int .u64 0, .int .u64 0] 44)) w') : w'.cell? ⟨w.heap.size, 0, none⟩ = some (.int .u64 (uv h)) ∧ w'.cell? ⟨w.heap.size, 1, none⟩ = some (.int .u64 (uv l)) ∧
    w'.cell? ⟨w.heap.size + 1, 0, none⟩ = some (.int .u64 0) ∧ w'.cell? ⟨w.heap.size + 1, 1, none⟩ = some (.int .u64 0) ∧ w'.frozen? ⟨w.heap.size + 1, 0, none⟩ = false ∧ w'.frozen? ⟨w.heap.size + 1, 1, none⟩ = false := by
  refine ⟨?_, ?_, ?_, ?_, ?_, ?_⟩
  · rw [J.cell (by simp <;> omega)]; simp
  · rw [J.cell (by simp <;> omega)]; simp
  · rw [J.cell (by simp)]; simp
  · rw [J.cell (by simp)]; simp
  · rw [J.frozen (by simp)]; simp
  · rw [J.frozen (by simp)]; simp

set_option maxHeartbeats 1000000 in
theorem put_c (h l : BitVec 64) (a n : Nat) (v : BitVec 64) (w : World) (hn : a + n ≤ 128) (h64 : n ≤ 64) (hv : ¬ uv (low n) < uv v) :
    Calls Try.prog 74 #[.agg #[.int .u64 (uv h), .int .u64 (uv l)], .int .i64 a, .int .i64 n, .int .u64 (uv v)] w fun e w' => e = .returned (.tuple #[.agg #[.int .u64 (uv (putH h a n v)), .int .u64 (uv (putL l a n v))], .int .i64 0]) ∧ Below w.heap.size w w' := by
  go_enter Try.func74, Try.ntmps74
  go_wp2_with (first | (go_at_call 82; refine (number_yes _ _ _ hn h64).mono ?_; rintro e w' ⟨rfl, rfl⟩) | (go_at_call 83; refine (lowest_c _ _ h64).mono ?_; rintro e w' ⟨rfl, rfl⟩))
  have J0 : Below (w.heap.size + 2) ((w.alloc (.cells #[.int .u64 (uv h), .int .u64 (uv l)] 44)).alloc (.cells #[.int .u64 0, .int .u64 0] 44)) ((w.alloc (.cells #[.int .u64 (uv h), .int .u64 (uv l)] 44)).alloc (.cells #[.int .u64 0, .int .u64 0] 44)).drew := (Below.refl _ _).drew
  go_region_with (first
      | (go_at_call 83; refine (lowest_c _ _ h64).mono ?_; rintro e w' ⟨rfl, rfl⟩)
      | (go_at_call 85; refine (up_c _ _ _ (by omega)).mono ?_; rintro e w' ⟨rfl, hb⟩; have J := later hb (by assumption) (by simp); clear hb; obtain ⟨q1, q2, q3, q4, q5, q6⟩ := six J)
      | (go_at_call 84; refine (less_c _ _ _ _ _).mono ?_; rintro e w' ⟨rfl, hb⟩; have J := later hb (by assumption) (by simp); clear hb; obtain ⟨q1, q2, q3, q4, q5, q6⟩ := six J)
      | (go_at_call 78; refine (or_c _ _ _ _ _).mono ?_; rintro e w' ⟨rfl, hb⟩; have J := later hb (by assumption) (by simp); clear hb; obtain ⟨q1, q2, q3, q4, q5, q6⟩ := six J))
  all_goals go_wp2
  all_goals (refine bodyPost_ret (v := .tuple #[.agg #[.int .u64 (uv (putH h a n v)), .int .u64 (uv (putL l a n v))], .int .i64 0]) (by simp [results, Try.results74, go_sem, q3, q4, putH, putL]) rfl ⟨rfl, ?_⟩)
  all_goals exact ((((((Below.refl _ w).alloc (Nat.le_refl _) _).alloc (by simp) _).trans ((by assumption : Below (w.heap.size + 2) ((w.alloc (.cells #[.int .u64 (uv h), .int .u64 (uv l)] 44)).alloc (.cells #[.int .u64 0, .int .u64 0] 44)) _).mono (by omega))).setCell (by simp) _).setCell (by simp) _)

theorem put_e (h l : BitVec 64) (a n : Int) (v : BitVec 64) (w : World) (hf : ∀ w, Calls Try.prog 82 #[.int .i64 a, .int .i64 n] w fun e w' => e = .returned (.bool false) ∧ w = w') :
    Calls Try.prog 74 #[.agg #[.int .u64 (uv h), .int .u64 (uv l)], .int .i64 a, .int .i64 n, .int .u64 (uv v)] w fun e w' => e = .returned (.tuple #[.agg #[.int .u64 (uv 0#64), .int .u64 (uv 0#64)], .int .i64 1]) ∧ Below w.heap.size w w' := by
  go_enter Try.func74, Try.ntmps74
  go_wp2_with (go_at_call 82; refine (hf _).mono ?_; rintro e w' ⟨rfl, rfl⟩)
  exact bodyPost_ret (v := .tuple #[.agg #[.int .u64 (uv 0#64), .int .u64 (uv 0#64)], .int .i64 1]) (by simp [results, Try.results74, go_sem, ← uv_zero]) rfl ⟨rfl, ((Below.refl _ w).alloc (Nat.le_refl _) _).alloc (by simp) _⟩

theorem put_r (h l : BitVec 64) (a n : Nat) (v : BitVec 64) (w : World) (hn : a + n ≤ 128) (h64 : n ≤ 64) (hv : uv (low n) < uv v) :
    Calls Try.prog 74 #[.agg #[.int .u64 (uv h), .int .u64 (uv l)], .int .i64 a, .int .i64 n, .int .u64 (uv v)] w fun e w' => e = .returned (.tuple #[.agg #[.int .u64 (uv 0#64), .int .u64 (uv 0#64)], .int .i64 4]) ∧ Below w.heap.size w w' := by
  go_enter Try.func74, Try.ntmps74
  go_wp2_with (first | (go_at_call 82; refine (number_yes _ _ _ hn h64).mono ?_; rintro e w' ⟨rfl, rfl⟩) | (go_at_call 83; refine (lowest_c _ _ h64).mono ?_; rintro e w' ⟨rfl, rfl⟩))
  exact bodyPost_ret (v := .tuple #[.agg #[.int .u64 (uv 0#64), .int .u64 (uv 0#64)], .int .i64 4]) (by simp [results, Try.results74, go_sem, ← uv_zero]) rfl ⟨rfl, ((Below.refl _ w).alloc (Nat.le_refl _) _).alloc (by simp) _⟩

end Go.Proofs
