/-
  Plain facts on worlds: blocks known whole, rows that a call owns, appending what lies anywhere to such a row. No program in sight. No conditions.
  Contracts of package cube: Sound, Has, Make, All, Set, agree, withBit: what they return, and that they change nothing that was there. No conditions.
  Contracts of package cube: Meet, Within, Before, After: what they return, and that they change nothing that was there. Conditions as each theorem lists them.
  Contracts of package cube: Within: what they return, and that they change nothing that was there. Conditions as each theorem lists them.
  Contract of math/bits.LeadingZeros64, out of the library's own contract, which is proved over any program: the function's bodies are compared by the kernel. No conditions.
  Contract of cube.highest: the header with the highest bit alone. No conditions.
  What memory holds at the head of the loop of cube.Less, and how it is carried on: plain facts on worlds. No conditions.
  Contract of cube.Less: the difference of two cubes as a list. Conditions as each theorem lists them.
  Contracts of the inner functions of package head (isField, isNumber, lowest, below, shiftedDown, shiftedUp), of cmp.Compare and OnesCount64, of Ones and of Bit outside 0..127. Conditions as each theorem lists them.
  Contracts of Bit, Mask and Get of package head and of cmp.Or at two values. Conditions as each theorem lists them.
  Contracts of Put of package head: the field is set, or ErrArg, or ErrRange. Conditions as each theorem lists them.
  Contracts of cube.Field: the field's cube, or an error. Conditions as each theorem lists them.
  The function awake of the laws of layer 2 returns true. No conditions.
  Contracts of cube's Meet, Within, Before and After for all inputs, each in one sentence. No conditions.
  Plain mathematics: the cubes of a difference: each lies within the first cube, and each header of the first cube is in just one of them or in the intersection. No conditions.
  The law CubeParts returns true for all cubes and headers, and changes nothing that was there. No conditions.
  Plain mathematics on lists of cubes: which cubes are spare, and that a list without them has the same headers. No program in sight. Conditions as each theorem lists them.
  A slice of cubes in memory, wherever it lies; contracts of slices.IndexFunc and slices.ContainsFunc over cubes, and of pile.Sound and pile.Has. Conditions as each theorem lists them.
  How a slice of cubes that is handed in reads, as a list of cubes wherever it lies. No conditions.
-/
import Derived.Test.YtgoieipchhamgaaJ1
import Derived.Deep.AppendLies
import Derived.Laws.OwnMore
import Derived.OneCell
import Derived.Deep.Onto
import Derived.Maps.AppendAt
import Derived.Laws.AppendOwnNone
import Derived.BigFrame
import Derived.Lib.AppendStr
import Derived.Lib.AppendZeros
import Derived.Deep.RegionWith
import Derived.Shelf.Small.Bits
import Derived.Shelf.Strconv.Itoa0
import Derived.Test.YtgoieipchhamgaaProg
import Derived.Lib.Hide
import Derived.Deep.RegionHeld3
import Derived.Deep.LoopGhost
import Derived.Deep.DeepCutAuto
import Derived.Deep.Light
import Derived.OwnWalk
import Derived.Shelf.GgClosure.Gives
namespace Go.Proofs
open Go.RowKit
theorem below1 (w : World) (o : Obj) : Below w.heap.size w (w.alloc o) := (Below.refl _ _).alloc (Nat.le_refl _) _
theorem below2 (w : World) (o p : Obj) : Below w.heap.size w ((w.alloc o).alloc p) := (below1 w o).alloc (by simp) _
theorem below3 (w : World) (o p q : Obj) : Below w.heap.size w (((w.alloc o).alloc p).alloc q) := (below2 w o p).alloc (by simp; omega) _
theorem below4 (w : World) (o p q r : Obj) : Below w.heap.size w ((((w.alloc o).alloc p).alloc q).alloc r) := (below3 w o p q).alloc (by simp; omega) _
end Go.Proofs
namespace Go.Proofs.Hd
open Go.RowKit
theorem grown_of_below {w w' : World} (hb : Below w.heap.size w w') (row : Option Nat) : w.grownBy w' row := ⟨hb.os, hb.tape, hb.output, hb.size, fun k hk _ => hb.block k hk⟩
theorem own_on {w w' : World} {base : Nat} {e : TypeId} {size : Nat} {v : Value} {n : Nat} {xs : List Value} (h : w.ownsRow base e size v n xs) (hb : Below w.heap.size w w') : w'.ownsRow base e size v n xs := by
  refine h.kept (grown_of_below hb none) ?_
  cases v.ownBlock with
  | none => exact .inl rfl
  | some k => exact .inr (by simp)
/-- Block g is just these cells, and may be written. -/
def Blk (w : World) (g : Nat) (t : TypeId) (cs : Array Value) : Prop := w.heap[g]? = some (.cells cs t (0, 0))
theorem Blk.lt {w : World} {g : Nat} {t : TypeId} {cs : Array Value} (h : Blk w g t cs) : g < w.heap.size := by
  rcases Nat.lt_or_ge g w.heap.size with hlt | hge
  · exact hlt
  · unfold Blk at h; rw [Array.getElem?_eq_none hge] at h; cases h
theorem Blk.cell {w : World} {g : Nat} {t : TypeId} {cs : Array Value} (h : Blk w g t cs) (i : Nat) : w.cell? ⟨g, i, none⟩ = cs[i]? := cell_of_row w g i cs t (0, 0) h
theorem Blk.free {w : World} {g : Nat} {t : TypeId} {cs : Array Value} (h : Blk w g t cs) (i : Nat) : w.frozen? ⟨g, i, none⟩ = false := by
  unfold Blk at h; simp [World.frozen?, h]
theorem Blk.on {w w' : World} {g : Nat} {t : TypeId} {cs : Array Value} (h : Blk w g t cs) (hb : Below w.heap.size w w') : Blk w' g t cs := (hb.block g h.lt).trans h
theorem Blk.new (w : World) (t : TypeId) (cs : Array Value) : Blk (w.alloc (.cells cs t)) w.heap.size t cs := heap_alloc_new w _
theorem Blk.far {w : World} {g : Nat} {t : TypeId} {cs : Array Value} (h : Blk w g t cs) {p : Addr} (hp : g ≠ p.block) (u : Value) : Blk (w.setCell p u) g t cs := (Below.heap_setCell w p u g hp).trans h
theorem Blk.set {w : World} {g : Nat} {t : TypeId} {cs : Array Value} (h : Blk w g t cs) (i : Nat) (u : Value) : Blk (w.setCell ⟨g, i, none⟩ u) g t (cs.setIfInBounds i u) := by
  unfold Blk at h ⊢; simp [World.setCell, Array.getElem?_modify, h]
theorem Blk.grown {w w' : World} {g : Nat} {t : TypeId} {cs : Array Value} {row : Option Nat} (h : Blk w g t cs) (hb : w.grownBy w' row) (hg : some g ≠ row) : Blk w' g t cs := (hb.block g h.lt hg).trans h
/-- A row that is owned and a block of another element type are apart. -/
theorem own_apart {w : World} {base : Nat} {e t : TypeId} {size n g : Nat} {v : Value} {xs : List Value} {cs : Array Value} (h : w.ownsRow base e size v n xs) (hg : Blk w g t cs) (hne : e ≠ t) : some g ≠ v.ownBlock := by
  rcases h.2 with ⟨rfl, _⟩ | ⟨g', cap, cur, rfl, _, hh, _⟩
  · simp [Value.ownBlock]
  · intro he
    have e1 : g = g' := by simpa [Value.ownBlock] using he
    subst e1
    unfold Blk at hg
    rw [hh] at hg
    injection hg with hg
    injection hg with _ ht
    exact hne ht
theorem own_base {w : World} {base : Nat} {e : TypeId} {size n g : Nat} {v : Value} {xs : List Value} (h : w.ownsRow base e size v n xs) (hg : g < base) : some g ≠ v.ownBlock := by
  intro he
  have := (h.lt g he.symm).1
  omega
/-- Block g holds cells of type t. -/
def TB (w : World) (g : Nat) (t : TypeId) : Prop := ∃ cs fr, w.heap[g]? = some (.cells cs t fr)
theorem TB.lt {w : World} {g : Nat} {t : TypeId} (h : TB w g t) : g < w.heap.size := by
  obtain ⟨cs, fr, h⟩ := h
  rcases Nat.lt_or_ge g w.heap.size with hlt | hge
  · exact hlt
  · rw [Array.getElem?_eq_none hge] at h; cases h
theorem TB.on {w w' : World} {g : Nat} {t : TypeId} (h : TB w g t) (hb : Below w.heap.size w w') : TB w' g t := by
  obtain ⟨cs, fr, e⟩ := h
  exact ⟨cs, fr, (hb.block g (TB.lt ⟨cs, fr, e⟩)).trans e⟩
theorem TB.grown {w w' : World} {g : Nat} {t : TypeId} {row : Option Nat} (h : TB w g t) (hb : w.grownBy w' row) (hg : some g ≠ row) : TB w' g t := by
  obtain ⟨cs, fr, e⟩ := h
  exact ⟨cs, fr, (hb.block g (TB.lt ⟨cs, fr, e⟩) hg).trans e⟩
theorem TB.set {w : World} {g i : Nat} {t : TypeId} {v : Value} (h : TB w g t) : TB (w.setCell ⟨g, i, none⟩ v) g t := by
  obtain ⟨cs, fr, e⟩ := h
  refine ⟨cs.setIfInBounds i v, fr, ?_⟩
  simp [World.setCell, Array.getElem?_modify, e]
theorem own_apartT {w : World} {base : Nat} {e t : TypeId} {size n g : Nat} {v : Value} {xs : List Value} (h : w.ownsRow base e size v n xs) (hg : TB w g t) (hne : e ≠ t) : some g ≠ v.ownBlock := by
  rcases h.2 with ⟨rfl, _⟩ | ⟨g', cap, cur, rfl, _, hh, _⟩
  · simp [Value.ownBlock]
  · intro he
    have e1 : g = g' := by simpa [Value.ownBlock] using he
    subst e1
    obtain ⟨cs, fr, hg⟩ := hg
    rw [hh] at hg
    injection hg with hg
    injection hg with _ ht
    exact hne ht
/-- v is a slice of m elements of 'size' cells each that reads as the cells 'news'. -/
def Src (w : World) (size : Nat) (v : Value) (m : Nat) (news : List Value) : Prop :=
  news.length = m * size ∧ (∀ u ∈ news, u.oneCell' = true) ∧ ((m = 0 ∧ ∃ c, v = .slice none 0 c) ∨ ∃ ad c, v = .slice (some ad) m c ∧ ∀ (j : Nat) (u : Value), news[j]? = some u → w.cell? (ad.add j) = some u)
section
variable {P : Program} (w : World)
theorem run_app (base : Nat) (t ty e : TypeId) (i : TypeInfo) (z : Value) (size bytes : Nat) (ht : P.underlying t = some (.slice e)) (hi : P.info? e = some i) (hz : i.zero = some z)
    (hsize : i.size = size) (hby : i.bytes = bytes) (hzs : z.cells.size = size) (hsz : 0 < size) (v : Value) (n : Nat) (xs : List Value) (hown : w.ownsRow base e size v n xs)
    (x : Value) (m : Nat) (news : List Value) (hx : Src w size x m news) (h63 : n + m ≤ maxLen) (hbytes : (n + m) * bytes ≤ 140737488355328) (hbase : base ≤ w.heap.size) :
    ∃ v' w', (Builtin.append_ #[t, t] ty #[v, x]).run P w = .ok v' w' ∧ w'.ownsRow base e size v' (n + m) (xs ++ news) ∧ w.grownBy w' v.ownBlock := by
  obtain ⟨hl, h1, ⟨rfl, c, rfl⟩ | ⟨ad, c, rfl, hc⟩⟩ := hx
  · obtain rfl : news = [] := List.eq_nil_of_length_eq_zero (by simpa using hl)
    refine ⟨v, w, ?_, by simpa using hown, World.grownBy.refl w _⟩
    rcases hown.2 with ⟨rfl, rfl⟩ | ⟨g, cap, cur, rfl, _, _, hnc, _⟩
    · simp [Builtin.append_, run_underlying ht, sizeOf, typeInfo, hi, Builtin.lenOf, Builtin.firstCells]
    · simp [Builtin.append_, run_underlying ht, sizeOf, typeInfo, hi, Builtin.lenOf, Builtin.firstCells, hnc, storeCells]
  · obtain ⟨v', w', hr, h2, h3, _, _⟩ := run_append_own_at (P := P) w base t ty e i z size bytes ht hi hz hsize hby hzs hsz v n xs hown ad m c news hl hc h1 h63 hbytes hbase
    exact ⟨v', w', hr, h2, h3⟩
theorem wp_app {o : Oper} {a : Act} {K : Act → World → Prop} {Q : Exit → Act → World → Prop} (s x : Operand) (t : TypeId)
    (ho : o.op = .call { callee := .builtin .append, args := #[s, x], argTypes := #[t, t] }) (base : Nat) (e : TypeId) (i : TypeInfo) (z : Value) (size bytes : Nat) (ht : P.underlying t = some (.slice e)) (hi : P.info? e = some i) (hz : i.zero = some z)
    (hsize : i.size = size) (hby : i.bytes = bytes) (hzs : z.cells.size = size) (hsz : 0 < size) (v : Value) (n : Nat) (xs : List Value) (hs : a.eval s = v) (hown : w.ownsRow base e size v n xs)
    (y : Value) (m : Nat) (news : List Value) (hy : a.eval x = y) (hx : Src w size y m news) (h63 : n + m ≤ maxLen) (hbytes : (n + m) * bytes ≤ 140737488355328) (hbase : base ≤ w.heap.size)
    (h : ∀ v' w', w'.ownsRow base e size v' (n + m) (xs ++ news) → w.grownBy w' v.ownBlock → K (a.put o.dst v') w') : o.wp P a w K Q := by
  obtain ⟨v', w', hr, h2, h3⟩ := run_app (P := P) w base t o.type e i z size bytes ht hi hz hsize hby hzs hsz v n xs hown y m news hx h63 hbytes hbase
  exact Lib.wp_append_run w s x t t ho v y hs hy v' w' hr (h v' w' h2 h3)
theorem wpList_app {ops : Array Oper} {rest : List Oper} {o : Oper} {a : Act} {Q : Exit → Act → World → Prop} (hgd : o.guard = none) (s x : Operand) (t : TypeId)
    (ho : o.op = .call { callee := .builtin .append, args := #[s, x], argTypes := #[t, t] }) (base : Nat) (e : TypeId) (i : TypeInfo) (z : Value) (size bytes : Nat) (ht : P.underlying t = some (.slice e)) (hi : P.info? e = some i) (hz : i.zero = some z)
    (hsize : i.size = size) (hby : i.bytes = bytes) (hzs : z.cells.size = size) (hsz : 0 < size) (v : Value) (n : Nat) (xs : List Value) (hs : a.eval s = v) (hown : w.ownsRow base e size v n xs)
    (y : Value) (m : Nat) (news : List Value) (hy : a.eval x = y) (hx : Src w size y m news) (h63 : n + m ≤ maxLen) (hbytes : (n + m) * bytes ≤ 140737488355328) (hbase : base ≤ w.heap.size)
    (h : ∀ v' w', w'.ownsRow base e size v' (n + m) (xs ++ news) → w.grownBy w' v.ownBlock → wpList P ops Q rest (a.put o.dst v') w') : wpList P ops Q (o :: rest) a w :=
  wpList_plain hgd fun _ hK => wp_app w s x t ho base e i z size bytes ht hi hz hsize hby hzs hsz v n xs hs hown y m news hy hx h63 hbytes hbase fun v' w' h2 h3 => hK _ _ (h v' w' h2 h3)
end
section
variable {P : Program} (w : World)
theorem step_app {ops : Array Oper} {o : Oper} {a : Act} {K : Act → World → Prop} {Q : Exit → Act → World → Prop} {E : Prop} (hgd : o.guard = none) (s x : Operand) (t : TypeId)
    (ho : o.op = .call { callee := .builtin .append, args := #[s, x], argTypes := #[t, t] }) (base : Nat) (e : TypeId) (i : TypeInfo) (z : Value) (size bytes : Nat) (ht : P.underlying t = some (.slice e)) (hi : P.info? e = some i) (hz : i.zero = some z)
    (hsize : i.size = size) (hby : i.bytes = bytes) (hzs : z.cells.size = size) (hsz : 0 < size) (v : Value) (n : Nat) (xs : List Value) (hs : a.eval s = v) (hown : w.ownsRow base e size v n xs)
    (y : Value) (m : Nat) (news : List Value) (hy : a.eval x = y) (hx : Src w size y m news) (h63 : n + m ≤ maxLen) (hbytes : (n + m) * bytes ≤ 140737488355328) (hbase : base ≤ w.heap.size)
    (h : ∀ v' w', w'.ownsRow base e size v' (n + m) (xs ++ news) → w.grownBy w' v.ownBlock → K (a.put o.dst v') w') :
    if Region.wanted o (yielded ops a.tmps) = true then Oper.wp P o a w K Q else E := by
  have hw : Region.wanted o (yielded ops a.tmps) = true := by simp [Region.wanted, hgd]
  rw [if_pos hw]
  exact wp_app w s x t ho base e i z size bytes ht hi hz hsize hby hzs hsz v n xs hs hown y m news hy hx h63 hbytes hbase h
end
theorem wpList_appW {P : Program} (w : World) {ops : Array Oper} {rest : List Oper} {o : Oper} {a : Act} {Q : Exit → Act → World → Prop} (hw : Region.wanted o (yielded ops a.tmps) = true) (s x : Operand) (t : TypeId)
    (ho : o.op = .call { callee := .builtin .append, args := #[s, x], argTypes := #[t, t] }) (base : Nat) (e : TypeId) (i : TypeInfo) (z : Value) (size bytes : Nat) (ht : P.underlying t = some (.slice e)) (hi : P.info? e = some i) (hz : i.zero = some z)
    (hsize : i.size = size) (hby : i.bytes = bytes) (hzs : z.cells.size = size) (hsz : 0 < size) (v : Value) (n : Nat) (xs : List Value) (hs : a.eval s = v) (hown : w.ownsRow base e size v n xs)
    (y : Value) (m : Nat) (news : List Value) (hy : a.eval x = y) (hx : Src w size y m news) (h63 : n + m ≤ maxLen) (hbytes : (n + m) * bytes ≤ 140737488355328) (hbase : base ≤ w.heap.size)
    (h : ∀ v' w', w'.ownsRow base e size v' (n + m) (xs ++ news) → w.grownBy w' v.ownBlock → wpList P ops Q rest (a.put o.dst v') w') : wpList P ops Q (o :: rest) a w :=
  BigFrame.wpList_want hw fun _ hK => wp_app w s x t ho base e i z size bytes ht hi hz hsize hby hzs hsz v n xs hs hown y m news hy hx h63 hbytes hbase fun v' w' h2 h3 => hK _ _ (h v' w' h2 h3)
end Go.Proofs.Hd

namespace Go.Proofs
open Go.RowKit Go.Proofs.Hd
attribute [local go_sem] uv_and uv_or uv_xor uv_andNot uv_shr uv_shl uv_add uv_sub uv_nonneg

theorem run_eq2 (w : World) (a b c d : Int) : (Op.equalIn 10000 25 (.agg #[.int .u64 a, .int .u64 b]) (.agg #[.int .u64 c, .int .u64 d])).run Try.prog w = .ok (eq2 a b c d) w := by
  unfold eq2
  cases h1 : a == c <;> cases h2 : b == d <;> go_simp
theorem run_eq4 (w : World) (a b c d e f g h : Int) : (Op.equalIn 10000 27 (.agg #[.int .u64 a, .int .u64 b, .int .u64 c, .int .u64 d]) (.agg #[.int .u64 e, .int .u64 f, .int .u64 g, .int .u64 h])).run Try.prog w = .ok (eq4 a b c d e f g h) w := by
  unfold eq4
  cases h1 : a == e <;> cases h2 : b == f <;> cases h3 : c == g <;> cases h4 : d == h <;> go_simp
attribute [local go_sem high] run_eq2 run_eq4
theorem zero4_new (w : World) : Zero4 (w.alloc (.cells #[.int .u64 0, .int .u64 0, .int .u64 0, .int .u64 0] 27)) w.heap.size := by
  intro i hi
  rcases (show i = 0 ∨ i = 1 ∨ i = 2 ∨ i = 3 by omega) with rfl | rfl | rfl | rfl <;> simp
theorem zero2_new (w : World) : Zero2 (w.alloc (.cells #[.int .u64 0, .int .u64 0] 25)) w.heap.size := by
  intro i hi
  rcases (show i = 0 ∨ i = 1 by omega) with rfl | rfl <;> simp
theorem zero4_at (w : World) (r : Nat) (h : r = w.heap.size) : Zero4 (w.alloc (.cells #[.int .u64 0, .int .u64 0, .int .u64 0, .int .u64 0] 27)).drew r := by
  subst h; exact fun i hi => zero4_new w i hi
theorem zero2_at (w : World) (r : Nat) (h : r = w.heap.size) : Zero2 (w.alloc (.cells #[.int .u64 0, .int .u64 0] 25)).drew r := by
  subst h; exact fun i hi => zero2_new w i hi

set_option maxHeartbeats 1000000 in
theorem sound_c (cvh cvl cch ccl : BitVec 64) (w : World) : Calls Try.prog 21 #[.agg #[.int .u64 (uv cvh), .int .u64 (uv cvl), .int .u64 (uv cch), .int .u64 (uv ccl)]] w fun e w' => e = .returned (.bool (sndB cvh cvl cch ccl)) ∧ Below w.heap.size w w' := by
  have S0 := below1 w (.cells #[.int .u64 (uv cvh), .int .u64 (uv cvl), .int .u64 (uv cch), .int .u64 (uv ccl)] 27)
  go_enter Try.func21, Try.ntmps21
  go_wp2_with fail
  go_region_held3 (fun w' => Below w.heap.size w w' ∧ w'.cell? ⟨w.heap.size, 0, none⟩ = some (.int .u64 (uv cvh)) ∧ w'.cell? ⟨w.heap.size, 1, none⟩ = some (.int .u64 (uv cvl)) ∧ w'.cell? ⟨w.heap.size, 2, none⟩ = some (.int .u64 (uv cch)) ∧ w'.cell? ⟨w.heap.size, 3, none⟩ = some (.int .u64 (uv ccl)))
    (first
      | exact hold4 (by assumption) (by assumption)
      | exact ⟨S0.drew, by go_simp, by go_simp, by go_simp, by go_simp⟩)
    (first
      | (go_at_call 30; (with_reducible refine (and_c _ _ _ _ _).mono ?_); rintro e w' ⟨rfl, hb⟩))
  go_wp2
  go_ret
  exact ⟨ret_bool (sndB_eq _ _ _ _), And.left (by assumption)⟩

set_option maxHeartbeats 1000000 in
theorem make_c (vh vl ch cl : BitVec 64) (w : World) : Calls Try.prog 25 #[.agg #[.int .u64 (uv vh), .int .u64 (uv vl)], .agg #[.int .u64 (uv ch), .int .u64 (uv cl)]] w fun e w' => e = .returned (.agg #[.int .u64 (uv (vh &&& ch)), .int .u64 (uv (vl &&& cl)), .int .u64 (uv ch), .int .u64 (uv cl)]) ∧ Below w.heap.size w w' := by
  have S0 := below3 w (.cells #[.int .u64 (uv vh), .int .u64 (uv vl)] 25) (.cells #[.int .u64 (uv ch), .int .u64 (uv cl)] 25) (.cells #[.int .u64 0, .int .u64 0, .int .u64 0, .int .u64 0] 27)
  have Z0 := zero4_at ((w.alloc (.cells #[.int .u64 (uv vh), .int .u64 (uv vl)] 25)).alloc (.cells #[.int .u64 (uv ch), .int .u64 (uv cl)] 25)) (w.heap.size + 1 + 1) (by simp)
  go_enter Try.func25, Try.ntmps25
  go_wp2_with fail
  go_region_held3 (fun w' => Below w.heap.size w w' ∧ w'.cell? ⟨w.heap.size, 0, none⟩ = some (.int .u64 (uv vh)) ∧ w'.cell? ⟨w.heap.size, 1, none⟩ = some (.int .u64 (uv vl)) ∧ w'.cell? ⟨w.heap.size + 1, 0, none⟩ = some (.int .u64 (uv ch)) ∧ w'.cell? ⟨w.heap.size + 1, 1, none⟩ = some (.int .u64 (uv cl)))
    (first
      | exact hold4 (by assumption) (by assumption)
      | exact shold4 (sets4 _ _ _ _ _ _) (by assumption) (by omega) (by first | omega | (simp; done) | (simp; omega)) (by first | omega | (simp; done) | (simp; omega)) (by first | omega | (simp; done) | (simp; omega)) (by first | omega | (simp; done) | (simp; omega))
      | exact ⟨S0.drew, by go_simp, by go_simp, by go_simp, by go_simp⟩)
    (first
      | (go_at_call 30; (with_reducible refine (and_c _ _ _ _ _).mono ?_); rintro e w' ⟨rfl, hb⟩; have Z := Zero4.on hb (by assumption); obtain ⟨z0, y0, z1, y1, z2, y2, z3, y3⟩ := Z.out))
  go_wp2
  exact bodyPost_ret (v := .agg #[.int .u64 (uv (vh &&& ch)), .int .u64 (uv (vl &&& cl)), .int .u64 (uv ch), .int .u64 (uv cl)]) (by simp [results, Try.results25, go_sem, z0, z1, z2, z3]) rfl ⟨rfl, And.left (by assumption)⟩

set_option maxHeartbeats 1000000 in
theorem agree_c (avh avl ach acl bvh bvl bch bcl : BitVec 64) (w : World) : Calls Try.prog 36 #[.agg #[.int .u64 (uv avh), .int .u64 (uv avl), .int .u64 (uv ach), .int .u64 (uv acl)], .agg #[.int .u64 (uv bvh), .int .u64 (uv bvl), .int .u64 (uv bch), .int .u64 (uv bcl)]] w fun e w' => e = .returned (.bool (agrB avh avl ach acl bvh bvl bch bcl)) ∧ Below w.heap.size w w' := by
  have S0 := below2 w (.cells #[.int .u64 (uv avh), .int .u64 (uv avl), .int .u64 (uv ach), .int .u64 (uv acl)] 27) (.cells #[.int .u64 (uv bvh), .int .u64 (uv bvl), .int .u64 (uv bch), .int .u64 (uv bcl)] 27)
  go_enter Try.func36, Try.ntmps36
  go_wp2_with fail
  (with_reducible refine (and_c _ _ _ _ _).mono ?_)
  rintro e w1 ⟨rfl, hb1⟩
  have S1 : Below w.heap.size w w1 ∧ w1.cell? ⟨w.heap.size, 0, none⟩ = some (.int .u64 (uv avh)) ∧ w1.cell? ⟨w.heap.size, 1, none⟩ = some (.int .u64 (uv avl)) ∧ w1.cell? ⟨w.heap.size, 2, none⟩ = some (.int .u64 (uv ach)) ∧ w1.cell? ⟨w.heap.size, 3, none⟩ = some (.int .u64 (uv acl)) ∧ w1.cell? ⟨w.heap.size + 1, 0, none⟩ = some (.int .u64 (uv bvh)) ∧ w1.cell? ⟨w.heap.size + 1, 1, none⟩ = some (.int .u64 (uv bvl)) ∧ w1.cell? ⟨w.heap.size + 1, 2, none⟩ = some (.int .u64 (uv bch)) ∧ w1.cell? ⟨w.heap.size + 1, 3, none⟩ = some (.int .u64 (uv bcl)) := hold8 hb1 ⟨S0, by go_simp, by go_simp, by go_simp, by go_simp, by go_simp, by go_simp, by go_simp, by go_simp⟩
  clear hb1 S0
  obtain ⟨B1, a0, a1, a2, a3, b0, b1, b2, b3⟩ := S1
  have hz := B1.size
  have hz1 : w.heap.size + 1 < w1.heap.size := World.block_lt_of_cell? w1 _ b0
  have hz0 : w.heap.size < w1.heap.size := by omega
  have B2 := B1.alloc hz (.cells #[.int .u64 (uv (ach &&& bch)), .int .u64 (uv (acl &&& bcl))] 25)
  go_wp2_with fail
  go_region_held3 (fun w' => Below w.heap.size w w' ∧ w'.cell? ⟨w.heap.size, 0, none⟩ = some (.int .u64 (uv avh)) ∧ w'.cell? ⟨w.heap.size, 1, none⟩ = some (.int .u64 (uv avl)) ∧ w'.cell? ⟨w.heap.size, 2, none⟩ = some (.int .u64 (uv ach)) ∧ w'.cell? ⟨w.heap.size, 3, none⟩ = some (.int .u64 (uv acl)) ∧ w'.cell? ⟨w.heap.size + 1, 0, none⟩ = some (.int .u64 (uv bvh)) ∧ w'.cell? ⟨w.heap.size + 1, 1, none⟩ = some (.int .u64 (uv bvl)) ∧ w'.cell? ⟨w.heap.size + 1, 2, none⟩ = some (.int .u64 (uv bch)) ∧ w'.cell? ⟨w.heap.size + 1, 3, none⟩ = some (.int .u64 (uv bcl)) ∧ w'.cell? ⟨w1.heap.size, 0, none⟩ = some (.int .u64 (uv (ach &&& bch))) ∧ w'.cell? ⟨w1.heap.size, 1, none⟩ = some (.int .u64 (uv (acl &&& bcl))))
    (first
      | exact hold10 (by assumption) (by assumption)
      | exact ⟨B2.drew, by go_simp, by go_simp, by go_simp, by go_simp, by go_simp, by go_simp, by go_simp, by go_simp, by go_simp, by go_simp⟩)
    (first
      | (go_at_call 30; (with_reducible refine (and_c _ _ _ _ _).mono ?_); rintro e w' ⟨rfl, hb⟩))
  go_wp2
  go_ret
  exact ⟨ret_bool (agrB_eq _ _ _ _ _ _ _ _), And.left (by assumption)⟩
end Go.Proofs

namespace Go.Proofs
open Go.RowKit Go.Proofs.Hd
attribute [local go_sem] uv_and uv_or uv_xor uv_andNot uv_shr uv_shl uv_add uv_sub uv_nonneg
attribute [local go_sem high] run_eq2 run_eq4
set_option maxHeartbeats 1000000 in
theorem meet_no1 (avh avl ach acl bvh bvl bch bcl : BitVec 64) (w : World) (h1 : sndB avh avl ach acl = false) :
    Calls Try.prog 28 #[.agg #[.int .u64 (uv avh), .int .u64 (uv avl), .int .u64 (uv ach), .int .u64 (uv acl)], .agg #[.int .u64 (uv bvh), .int .u64 (uv bvl), .int .u64 (uv bch), .int .u64 (uv bcl)]] w fun e w' => e = .returned (.tuple #[.agg #[.int .u64 0, .int .u64 0, .int .u64 0, .int .u64 0], .bool false]) ∧ Below w.heap.size w w' := by
  have S0 : Below w.heap.size w (((w.alloc (.cells #[.int .u64 (uv avh), .int .u64 (uv avl), .int .u64 (uv ach), .int .u64 (uv acl)] 27)).alloc (.cells #[.int .u64 (uv bvh), .int .u64 (uv bvl), .int .u64 (uv bch), .int .u64 (uv bcl)] 27)).alloc (.cells #[.int .u64 0, .int .u64 0, .int .u64 0, .int .u64 0] 27)) ∧ (((w.alloc (.cells #[.int .u64 (uv avh), .int .u64 (uv avl), .int .u64 (uv ach), .int .u64 (uv acl)] 27)).alloc (.cells #[.int .u64 (uv bvh), .int .u64 (uv bvl), .int .u64 (uv bch), .int .u64 (uv bcl)] 27)).alloc (.cells #[.int .u64 0, .int .u64 0, .int .u64 0, .int .u64 0] 27)).cell? ⟨w.heap.size, 0, none⟩ = some (.int .u64 (uv avh)) ∧ (((w.alloc (.cells #[.int .u64 (uv avh), .int .u64 (uv avl), .int .u64 (uv ach), .int .u64 (uv acl)] 27)).alloc (.cells #[.int .u64 (uv bvh), .int .u64 (uv bvl), .int .u64 (uv bch), .int .u64 (uv bcl)] 27)).alloc (.cells #[.int .u64 0, .int .u64 0, .int .u64 0, .int .u64 0] 27)).cell? ⟨w.heap.size, 1, none⟩ = some (.int .u64 (uv avl)) ∧ (((w.alloc (.cells #[.int .u64 (uv avh), .int .u64 (uv avl), .int .u64 (uv ach), .int .u64 (uv acl)] 27)).alloc (.cells #[.int .u64 (uv bvh), .int .u64 (uv bvl), .int .u64 (uv bch), .int .u64 (uv bcl)] 27)).alloc (.cells #[.int .u64 0, .int .u64 0, .int .u64 0, .int .u64 0] 27)).cell? ⟨w.heap.size, 2, none⟩ = some (.int .u64 (uv ach)) ∧ (((w.alloc (.cells #[.int .u64 (uv avh), .int .u64 (uv avl), .int .u64 (uv ach), .int .u64 (uv acl)] 27)).alloc (.cells #[.int .u64 (uv bvh), .int .u64 (uv bvl), .int .u64 (uv bch), .int .u64 (uv bcl)] 27)).alloc (.cells #[.int .u64 0, .int .u64 0, .int .u64 0, .int .u64 0] 27)).cell? ⟨w.heap.size, 3, none⟩ = some (.int .u64 (uv acl)) ∧ (((w.alloc (.cells #[.int .u64 (uv avh), .int .u64 (uv avl), .int .u64 (uv ach), .int .u64 (uv acl)] 27)).alloc (.cells #[.int .u64 (uv bvh), .int .u64 (uv bvl), .int .u64 (uv bch), .int .u64 (uv bcl)] 27)).alloc (.cells #[.int .u64 0, .int .u64 0, .int .u64 0, .int .u64 0] 27)).cell? ⟨w.heap.size + 1, 0, none⟩ = some (.int .u64 (uv bvh)) ∧ (((w.alloc (.cells #[.int .u64 (uv avh), .int .u64 (uv avl), .int .u64 (uv ach), .int .u64 (uv acl)] 27)).alloc (.cells #[.int .u64 (uv bvh), .int .u64 (uv bvl), .int .u64 (uv bch), .int .u64 (uv bcl)] 27)).alloc (.cells #[.int .u64 0, .int .u64 0, .int .u64 0, .int .u64 0] 27)).cell? ⟨w.heap.size + 1, 1, none⟩ = some (.int .u64 (uv bvl)) ∧ (((w.alloc (.cells #[.int .u64 (uv avh), .int .u64 (uv avl), .int .u64 (uv ach), .int .u64 (uv acl)] 27)).alloc (.cells #[.int .u64 (uv bvh), .int .u64 (uv bvl), .int .u64 (uv bch), .int .u64 (uv bcl)] 27)).alloc (.cells #[.int .u64 0, .int .u64 0, .int .u64 0, .int .u64 0] 27)).cell? ⟨w.heap.size + 1, 2, none⟩ = some (.int .u64 (uv bch)) ∧ (((w.alloc (.cells #[.int .u64 (uv avh), .int .u64 (uv avl), .int .u64 (uv ach), .int .u64 (uv acl)] 27)).alloc (.cells #[.int .u64 (uv bvh), .int .u64 (uv bvl), .int .u64 (uv bch), .int .u64 (uv bcl)] 27)).alloc (.cells #[.int .u64 0, .int .u64 0, .int .u64 0, .int .u64 0] 27)).cell? ⟨w.heap.size + 1, 3, none⟩ = some (.int .u64 (uv bcl)) := ⟨below3 w (.cells #[.int .u64 (uv avh), .int .u64 (uv avl), .int .u64 (uv ach), .int .u64 (uv acl)] 27) (.cells #[.int .u64 (uv bvh), .int .u64 (uv bvl), .int .u64 (uv bch), .int .u64 (uv bcl)] 27) (.cells #[.int .u64 0, .int .u64 0, .int .u64 0, .int .u64 0] 27), by go_simp, by go_simp, by go_simp, by go_simp, by go_simp, by go_simp, by go_simp, by go_simp⟩
  have Z0 : Zero4 (((w.alloc (.cells #[.int .u64 (uv avh), .int .u64 (uv avl), .int .u64 (uv ach), .int .u64 (uv acl)] 27)).alloc (.cells #[.int .u64 (uv bvh), .int .u64 (uv bvl), .int .u64 (uv bch), .int .u64 (uv bcl)] 27)).alloc (.cells #[.int .u64 0, .int .u64 0, .int .u64 0, .int .u64 0] 27)) (w.heap.size + 1 + 1) := zero4_at ((w.alloc (.cells #[.int .u64 (uv avh), .int .u64 (uv avl), .int .u64 (uv ach), .int .u64 (uv acl)] 27)).alloc (.cells #[.int .u64 (uv bvh), .int .u64 (uv bvl), .int .u64 (uv bch), .int .u64 (uv bcl)] 27)) (w.heap.size + 1 + 1) (by simp)
  go_enter Try.func28, Try.ntmps28
  go_wp2_with fail
  (with_reducible refine (sound_c _ _ _ _ _).mono ?_)
  rintro e w1 ⟨rfl, hb1⟩
  have S1 := hold8 hb1 S0
  have Z1 := Zero4.on hb1 Z0
  clear hb1 S0 Z0
  have Y1 := Z1.out
  go_wp2
  exact bodyPost_ret (v := .tuple #[.agg #[.int .u64 0, .int .u64 0, .int .u64 0, .int .u64 0], .bool false]) (by simp [results, Try.results28, go_sem, Y1]) rfl ⟨rfl, S1.1.trans ((sets4 _ _ _ _ _ _).mono (by omega))⟩

set_option maxHeartbeats 1000000 in
theorem meet_no2 (avh avl ach acl bvh bvl bch bcl : BitVec 64) (w : World) (h1 : sndB avh avl ach acl = true) (h2 : sndB bvh bvl bch bcl = false) :
    Calls Try.prog 28 #[.agg #[.int .u64 (uv avh), .int .u64 (uv avl), .int .u64 (uv ach), .int .u64 (uv acl)], .agg #[.int .u64 (uv bvh), .int .u64 (uv bvl), .int .u64 (uv bch), .int .u64 (uv bcl)]] w fun e w' => e = .returned (.tuple #[.agg #[.int .u64 0, .int .u64 0, .int .u64 0, .int .u64 0], .bool false]) ∧ Below w.heap.size w w' := by
  have S0 : Below w.heap.size w (((w.alloc (.cells #[.int .u64 (uv avh), .int .u64 (uv avl), .int .u64 (uv ach), .int .u64 (uv acl)] 27)).alloc (.cells #[.int .u64 (uv bvh), .int .u64 (uv bvl), .int .u64 (uv bch), .int .u64 (uv bcl)] 27)).alloc (.cells #[.int .u64 0, .int .u64 0, .int .u64 0, .int .u64 0] 27)) ∧ (((w.alloc (.cells #[.int .u64 (uv avh), .int .u64 (uv avl), .int .u64 (uv ach), .int .u64 (uv acl)] 27)).alloc (.cells #[.int .u64 (uv bvh), .int .u64 (uv bvl), .int .u64 (uv bch), .int .u64 (uv bcl)] 27)).alloc (.cells #[.int .u64 0, .int .u64 0, .int .u64 0, .int .u64 0] 27)).cell? ⟨w.heap.size, 0, none⟩ = some (.int .u64 (uv avh)) ∧ (((w.alloc (.cells #[.int .u64 (uv avh), .int .u64 (uv avl), .int .u64 (uv ach), .int .u64 (uv acl)] 27)).alloc (.cells #[.int .u64 (uv bvh), .int .u64 (uv bvl), .int .u64 (uv bch), .int .u64 (uv bcl)] 27)).alloc (.cells #[.int .u64 0, .int .u64 0, .int .u64 0, .int .u64 0] 27)).cell? ⟨w.heap.size, 1, none⟩ = some (.int .u64 (uv avl)) ∧ (((w.alloc (.cells #[.int .u64 (uv avh), .int .u64 (uv avl), .int .u64 (uv ach), .int .u64 (uv acl)] 27)).alloc (.cells #[.int .u64 (uv bvh), .int .u64 (uv bvl), .int .u64 (uv bch), .int .u64 (uv bcl)] 27)).alloc (.cells #[.int .u64 0, .int .u64 0, .int .u64 0, .int .u64 0] 27)).cell? ⟨w.heap.size, 2, none⟩ = some (.int .u64 (uv ach)) ∧ (((w.alloc (.cells #[.int .u64 (uv avh), .int .u64 (uv avl), .int .u64 (uv ach), .int .u64 (uv acl)] 27)).alloc (.cells #[.int .u64 (uv bvh), .int .u64 (uv bvl), .int .u64 (uv bch), .int .u64 (uv bcl)] 27)).alloc (.cells #[.int .u64 0, .int .u64 0, .int .u64 0, .int .u64 0] 27)).cell? ⟨w.heap.size, 3, none⟩ = some (.int .u64 (uv acl)) ∧ (((w.alloc (.cells #[.int .u64 (uv avh), .int .u64 (uv avl), .int .u64 (uv ach), .int .u64 (uv acl)] 27)).alloc (.cells #[.int .u64 (uv bvh), .int .u64 (uv bvl), .int .u64 (uv bch), .int .u64 (uv bcl)] 27)).alloc (.cells #[.int .u64 0, .int .u64 0, .int .u64 0, .int .u64 0] 27)).cell? ⟨w.heap.size + 1, 0, none⟩ = some (.int .u64 (uv bvh)) ∧ (((w.alloc (.cells #[.int .u64 (uv avh), .int .u64 (uv avl), .int .u64 (uv ach), .int .u64 (uv acl)] 27)).alloc (.cells #[.int .u64 (uv bvh), .int .u64 (uv bvl), .int .u64 (uv bch), .int .u64 (uv bcl)] 27)).alloc (.cells #[.int .u64 0, .int .u64 0, .int .u64 0, .int .u64 0] 27)).cell? ⟨w.heap.size + 1, 1, none⟩ = some (.int .u64 (uv bvl)) ∧ (((w.alloc (.cells #[.int .u64 (uv avh), .int .u64 (uv avl), .int .u64 (uv ach), .int .u64 (uv acl)] 27)).alloc (.cells #[.int .u64 (uv bvh), .int .u64 (uv bvl), .int .u64 (uv bch), .int .u64 (uv bcl)] 27)).alloc (.cells #[.int .u64 0, .int .u64 0, .int .u64 0, .int .u64 0] 27)).cell? ⟨w.heap.size + 1, 2, none⟩ = some (.int .u64 (uv bch)) ∧ (((w.alloc (.cells #[.int .u64 (uv avh), .int .u64 (uv avl), .int .u64 (uv ach), .int .u64 (uv acl)] 27)).alloc (.cells #[.int .u64 (uv bvh), .int .u64 (uv bvl), .int .u64 (uv bch), .int .u64 (uv bcl)] 27)).alloc (.cells #[.int .u64 0, .int .u64 0, .int .u64 0, .int .u64 0] 27)).cell? ⟨w.heap.size + 1, 3, none⟩ = some (.int .u64 (uv bcl)) := ⟨below3 w (.cells #[.int .u64 (uv avh), .int .u64 (uv avl), .int .u64 (uv ach), .int .u64 (uv acl)] 27) (.cells #[.int .u64 (uv bvh), .int .u64 (uv bvl), .int .u64 (uv bch), .int .u64 (uv bcl)] 27) (.cells #[.int .u64 0, .int .u64 0, .int .u64 0, .int .u64 0] 27), by go_simp, by go_simp, by go_simp, by go_simp, by go_simp, by go_simp, by go_simp, by go_simp⟩
  have Z0 : Zero4 (((w.alloc (.cells #[.int .u64 (uv avh), .int .u64 (uv avl), .int .u64 (uv ach), .int .u64 (uv acl)] 27)).alloc (.cells #[.int .u64 (uv bvh), .int .u64 (uv bvl), .int .u64 (uv bch), .int .u64 (uv bcl)] 27)).alloc (.cells #[.int .u64 0, .int .u64 0, .int .u64 0, .int .u64 0] 27)) (w.heap.size + 1 + 1) := zero4_at ((w.alloc (.cells #[.int .u64 (uv avh), .int .u64 (uv avl), .int .u64 (uv ach), .int .u64 (uv acl)] 27)).alloc (.cells #[.int .u64 (uv bvh), .int .u64 (uv bvl), .int .u64 (uv bch), .int .u64 (uv bcl)] 27)) (w.heap.size + 1 + 1) (by simp)
  go_enter Try.func28, Try.ntmps28
  go_wp2_with fail
  (with_reducible refine (sound_c _ _ _ _ _).mono ?_)
  rintro e w1 ⟨rfl, hb1⟩
  have S1 := hold8 hb1 S0
  have Z1 := Zero4.on hb1 Z0
  clear hb1 S0 Z0
  go_wp2_with fail
  (with_reducible refine (sound_c _ _ _ _ _).mono ?_)
  rintro e w2 ⟨rfl, hb2⟩
  have S2 := hold8 hb2 S1
  have Z2 := Zero4.on hb2 Z1
  clear hb2 S1 Z1
  have Y2 := Z2.out
  go_wp2
  exact bodyPost_ret (v := .tuple #[.agg #[.int .u64 0, .int .u64 0, .int .u64 0, .int .u64 0], .bool false]) (by simp [results, Try.results28, go_sem, Y2]) rfl ⟨rfl, S2.1.trans ((sets4 _ _ _ _ _ _).mono (by omega))⟩

set_option maxHeartbeats 1000000 in
theorem meet_no3 (avh avl ach acl bvh bvl bch bcl : BitVec 64) (w : World) (h1 : sndB avh avl ach acl = true) (h2 : sndB bvh bvl bch bcl = true) (h3 : agrB avh avl ach acl bvh bvl bch bcl = false) :
    Calls Try.prog 28 #[.agg #[.int .u64 (uv avh), .int .u64 (uv avl), .int .u64 (uv ach), .int .u64 (uv acl)], .agg #[.int .u64 (uv bvh), .int .u64 (uv bvl), .int .u64 (uv bch), .int .u64 (uv bcl)]] w fun e w' => e = .returned (.tuple #[.agg #[.int .u64 0, .int .u64 0, .int .u64 0, .int .u64 0], .bool false]) ∧ Below w.heap.size w w' := by
  have S0 : Below w.heap.size w (((w.alloc (.cells #[.int .u64 (uv avh), .int .u64 (uv avl), .int .u64 (uv ach), .int .u64 (uv acl)] 27)).alloc (.cells #[.int .u64 (uv bvh), .int .u64 (uv bvl), .int .u64 (uv bch), .int .u64 (uv bcl)] 27)).alloc (.cells #[.int .u64 0, .int .u64 0, .int .u64 0, .int .u64 0] 27)) ∧ (((w.alloc (.cells #[.int .u64 (uv avh), .int .u64 (uv avl), .int .u64 (uv ach), .int .u64 (uv acl)] 27)).alloc (.cells #[.int .u64 (uv bvh), .int .u64 (uv bvl), .int .u64 (uv bch), .int .u64 (uv bcl)] 27)).alloc (.cells #[.int .u64 0, .int .u64 0, .int .u64 0, .int .u64 0] 27)).cell? ⟨w.heap.size, 0, none⟩ = some (.int .u64 (uv avh)) ∧ (((w.alloc (.cells #[.int .u64 (uv avh), .int .u64 (uv avl), .int .u64 (uv ach), .int .u64 (uv acl)] 27)).alloc (.cells #[.int .u64 (uv bvh), .int .u64 (uv bvl), .int .u64 (uv bch), .int .u64 (uv bcl)] 27)).alloc (.cells #[.int .u64 0, .int .u64 0, .int .u64 0, .int .u64 0] 27)).cell? ⟨w.heap.size, 1, none⟩ = some (.int .u64 (uv avl)) ∧ (((w.alloc (.cells #[.int .u64 (uv avh), .int .u64 (uv avl), .int .u64 (uv ach), .int .u64 (uv acl)] 27)).alloc (.cells #[.int .u64 (uv bvh), .int .u64 (uv bvl), .int .u64 (uv bch), .int .u64 (uv bcl)] 27)).alloc (.cells #[.int .u64 0, .int .u64 0, .int .u64 0, .int .u64 0] 27)).cell? ⟨w.heap.size, 2, none⟩ = some (.int .u64 (uv ach)) ∧ (((w.alloc (.cells #[.int .u64 (uv avh), .int .u64 (uv avl), .int .u64 (uv ach), .int .u64 (uv acl)] 27)).alloc (.cells #[.int .u64 (uv bvh), .int .u64 (uv bvl), .int .u64 (uv bch), .int .u64 (uv bcl)] 27)).alloc (.cells #[.int .u64 0, .int .u64 0, .int .u64 0, .int .u64 0] 27)).cell? ⟨w.heap.size, 3, none⟩ = some (.int .u64 (uv acl)) ∧ (((w.alloc (.cells #[.int .u64 (uv avh), .int .u64 (uv avl), .int .u64 (uv ach), .int .u64 (uv acl)] 27)).alloc (.cells #[.int .u64 (uv bvh), .int .u64 (uv bvl), .int .u64 (uv bch), .int .u64 (uv bcl)] 27)).alloc (.cells #[.int .u64 0, .int .u64 0, .int .u64 0, .int .u64 0] 27)).cell? ⟨w.heap.size + 1, 0, none⟩ = some (.int .u64 (uv bvh)) ∧ (((w.alloc (.cells #[.int .u64 (uv avh), .int .u64 (uv avl), .int .u64 (uv ach), .int .u64 (uv acl)] 27)).alloc (.cells #[.int .u64 (uv bvh), .int .u64 (uv bvl), .int .u64 (uv bch), .int .u64 (uv bcl)] 27)).alloc (.cells #[.int .u64 0, .int .u64 0, .int .u64 0, .int .u64 0] 27)).cell? ⟨w.heap.size + 1, 1, none⟩ = some (.int .u64 (uv bvl)) ∧ (((w.alloc (.cells #[.int .u64 (uv avh), .int .u64 (uv avl), .int .u64 (uv ach), .int .u64 (uv acl)] 27)).alloc (.cells #[.int .u64 (uv bvh), .int .u64 (uv bvl), .int .u64 (uv bch), .int .u64 (uv bcl)] 27)).alloc (.cells #[.int .u64 0, .int .u64 0, .int .u64 0, .int .u64 0] 27)).cell? ⟨w.heap.size + 1, 2, none⟩ = some (.int .u64 (uv bch)) ∧ (((w.alloc (.cells #[.int .u64 (uv avh), .int .u64 (uv avl), .int .u64 (uv ach), .int .u64 (uv acl)] 27)).alloc (.cells #[.int .u64 (uv bvh), .int .u64 (uv bvl), .int .u64 (uv bch), .int .u64 (uv bcl)] 27)).alloc (.cells #[.int .u64 0, .int .u64 0, .int .u64 0, .int .u64 0] 27)).cell? ⟨w.heap.size + 1, 3, none⟩ = some (.int .u64 (uv bcl)) := ⟨below3 w (.cells #[.int .u64 (uv avh), .int .u64 (uv avl), .int .u64 (uv ach), .int .u64 (uv acl)] 27) (.cells #[.int .u64 (uv bvh), .int .u64 (uv bvl), .int .u64 (uv bch), .int .u64 (uv bcl)] 27) (.cells #[.int .u64 0, .int .u64 0, .int .u64 0, .int .u64 0] 27), by go_simp, by go_simp, by go_simp, by go_simp, by go_simp, by go_simp, by go_simp, by go_simp⟩
  have Z0 : Zero4 (((w.alloc (.cells #[.int .u64 (uv avh), .int .u64 (uv avl), .int .u64 (uv ach), .int .u64 (uv acl)] 27)).alloc (.cells #[.int .u64 (uv bvh), .int .u64 (uv bvl), .int .u64 (uv bch), .int .u64 (uv bcl)] 27)).alloc (.cells #[.int .u64 0, .int .u64 0, .int .u64 0, .int .u64 0] 27)) (w.heap.size + 1 + 1) := zero4_at ((w.alloc (.cells #[.int .u64 (uv avh), .int .u64 (uv avl), .int .u64 (uv ach), .int .u64 (uv acl)] 27)).alloc (.cells #[.int .u64 (uv bvh), .int .u64 (uv bvl), .int .u64 (uv bch), .int .u64 (uv bcl)] 27)) (w.heap.size + 1 + 1) (by simp)
  go_enter Try.func28, Try.ntmps28
  go_wp2_with fail
  (with_reducible refine (sound_c _ _ _ _ _).mono ?_)
  rintro e w1 ⟨rfl, hb1⟩
  have S1 := hold8 hb1 S0
  have Z1 := Zero4.on hb1 Z0
  clear hb1 S0 Z0
  go_wp2_with fail
  (with_reducible refine (sound_c _ _ _ _ _).mono ?_)
  rintro e w2 ⟨rfl, hb2⟩
  have S2 := hold8 hb2 S1
  have Z2 := Zero4.on hb2 Z1
  clear hb2 S1 Z1
  go_wp2_with fail
  (with_reducible refine (agree_c _ _ _ _ _ _ _ _ _).mono ?_)
  rintro e w3 ⟨rfl, hb3⟩
  have S3 := hold8 hb3 S2
  have Z3 := Zero4.on hb3 Z2
  clear hb3 S2 Z2
  have Y3 := Z3.out
  go_wp2
  exact bodyPost_ret (v := .tuple #[.agg #[.int .u64 0, .int .u64 0, .int .u64 0, .int .u64 0], .bool false]) (by simp [results, Try.results28, go_sem, Y3]) rfl ⟨rfl, S3.1.trans ((sets4 _ _ _ _ _ _).mono (by omega))⟩

set_option maxHeartbeats 1000000 in
theorem meet_yes (avh avl ach acl bvh bvl bch bcl : BitVec 64) (w : World) (h1 : sndB avh avl ach acl = true) (h2 : sndB bvh bvl bch bcl = true) (h3 : agrB avh avl ach acl bvh bvl bch bcl = true) :
    Calls Try.prog 28 #[.agg #[.int .u64 (uv avh), .int .u64 (uv avl), .int .u64 (uv ach), .int .u64 (uv acl)], .agg #[.int .u64 (uv bvh), .int .u64 (uv bvl), .int .u64 (uv bch), .int .u64 (uv bcl)]] w fun e w' => e = .returned (.tuple #[.agg #[.int .u64 (uv (avh ||| bvh)), .int .u64 (uv (avl ||| bvl)), .int .u64 (uv (ach ||| bch)), .int .u64 (uv (acl ||| bcl))], .bool true]) ∧ Below w.heap.size w w' := by
  have S0 : Below w.heap.size w (((w.alloc (.cells #[.int .u64 (uv avh), .int .u64 (uv avl), .int .u64 (uv ach), .int .u64 (uv acl)] 27)).alloc (.cells #[.int .u64 (uv bvh), .int .u64 (uv bvl), .int .u64 (uv bch), .int .u64 (uv bcl)] 27)).alloc (.cells #[.int .u64 0, .int .u64 0, .int .u64 0, .int .u64 0] 27)) ∧ (((w.alloc (.cells #[.int .u64 (uv avh), .int .u64 (uv avl), .int .u64 (uv ach), .int .u64 (uv acl)] 27)).alloc (.cells #[.int .u64 (uv bvh), .int .u64 (uv bvl), .int .u64 (uv bch), .int .u64 (uv bcl)] 27)).alloc (.cells #[.int .u64 0, .int .u64 0, .int .u64 0, .int .u64 0] 27)).cell? ⟨w.heap.size, 0, none⟩ = some (.int .u64 (uv avh)) ∧ (((w.alloc (.cells #[.int .u64 (uv avh), .int .u64 (uv avl), .int .u64 (uv ach), .int .u64 (uv acl)] 27)).alloc (.cells #[.int .u64 (uv bvh), .int .u64 (uv bvl), .int .u64 (uv bch), .int .u64 (uv bcl)] 27)).alloc (.cells #[.int .u64 0, .int .u64 0, .int .u64 0, .int .u64 0] 27)).cell? ⟨w.heap.size, 1, none⟩ = some (.int .u64 (uv avl)) ∧ (((w.alloc (.cells #[.int .u64 (uv avh), .int .u64 (uv avl), .int .u64 (uv ach), .int .u64 (uv acl)] 27)).alloc (.cells #[.int .u64 (uv bvh), .int .u64 (uv bvl), .int .u64 (uv bch), .int .u64 (uv bcl)] 27)).alloc (.cells #[.int .u64 0, .int .u64 0, .int .u64 0, .int .u64 0] 27)).cell? ⟨w.heap.size, 2, none⟩ = some (.int .u64 (uv ach)) ∧ (((w.alloc (.cells #[.int .u64 (uv avh), .int .u64 (uv avl), .int .u64 (uv ach), .int .u64 (uv acl)] 27)).alloc (.cells #[.int .u64 (uv bvh), .int .u64 (uv bvl), .int .u64 (uv bch), .int .u64 (uv bcl)] 27)).alloc (.cells #[.int .u64 0, .int .u64 0, .int .u64 0, .int .u64 0] 27)).cell? ⟨w.heap.size, 3, none⟩ = some (.int .u64 (uv acl)) ∧ (((w.alloc (.cells #[.int .u64 (uv avh), .int .u64 (uv avl), .int .u64 (uv ach), .int .u64 (uv acl)] 27)).alloc (.cells #[.int .u64 (uv bvh), .int .u64 (uv bvl), .int .u64 (uv bch), .int .u64 (uv bcl)] 27)).alloc (.cells #[.int .u64 0, .int .u64 0, .int .u64 0, .int .u64 0] 27)).cell? ⟨w.heap.size + 1, 0, none⟩ = some (.int .u64 (uv bvh)) ∧ (((w.alloc (.cells #[.int .u64 (uv avh), .int .u64 (uv avl), .int .u64 (uv ach), .int .u64 (uv acl)] 27)).alloc (.cells #[.int .u64 (uv bvh), .int .u64 (uv bvl), .int .u64 (uv bch), .int .u64 (uv bcl)] 27)).alloc (.cells #[.int .u64 0, .int .u64 0, .int .u64 0, .int .u64 0] 27)).cell? ⟨w.heap.size + 1, 1, none⟩ = some (.int .u64 (uv bvl)) ∧ (((w.alloc (.cells #[.int .u64 (uv avh), .int .u64 (uv avl), .int .u64 (uv ach), .int .u64 (uv acl)] 27)).alloc (.cells #[.int .u64 (uv bvh), .int .u64 (uv bvl), .int .u64 (uv bch), .int .u64 (uv bcl)] 27)).alloc (.cells #[.int .u64 0, .int .u64 0, .int .u64 0, .int .u64 0] 27)).cell? ⟨w.heap.size + 1, 2, none⟩ = some (.int .u64 (uv bch)) ∧ (((w.alloc (.cells #[.int .u64 (uv avh), .int .u64 (uv avl), .int .u64 (uv ach), .int .u64 (uv acl)] 27)).alloc (.cells #[.int .u64 (uv bvh), .int .u64 (uv bvl), .int .u64 (uv bch), .int .u64 (uv bcl)] 27)).alloc (.cells #[.int .u64 0, .int .u64 0, .int .u64 0, .int .u64 0] 27)).cell? ⟨w.heap.size + 1, 3, none⟩ = some (.int .u64 (uv bcl)) := ⟨below3 w (.cells #[.int .u64 (uv avh), .int .u64 (uv avl), .int .u64 (uv ach), .int .u64 (uv acl)] 27) (.cells #[.int .u64 (uv bvh), .int .u64 (uv bvl), .int .u64 (uv bch), .int .u64 (uv bcl)] 27) (.cells #[.int .u64 0, .int .u64 0, .int .u64 0, .int .u64 0] 27), by go_simp, by go_simp, by go_simp, by go_simp, by go_simp, by go_simp, by go_simp, by go_simp⟩
  have Z0 : Zero4 (((w.alloc (.cells #[.int .u64 (uv avh), .int .u64 (uv avl), .int .u64 (uv ach), .int .u64 (uv acl)] 27)).alloc (.cells #[.int .u64 (uv bvh), .int .u64 (uv bvl), .int .u64 (uv bch), .int .u64 (uv bcl)] 27)).alloc (.cells #[.int .u64 0, .int .u64 0, .int .u64 0, .int .u64 0] 27)) (w.heap.size + 1 + 1) := zero4_at ((w.alloc (.cells #[.int .u64 (uv avh), .int .u64 (uv avl), .int .u64 (uv ach), .int .u64 (uv acl)] 27)).alloc (.cells #[.int .u64 (uv bvh), .int .u64 (uv bvl), .int .u64 (uv bch), .int .u64 (uv bcl)] 27)) (w.heap.size + 1 + 1) (by simp)
  go_enter Try.func28, Try.ntmps28
  go_wp2_with fail
  (with_reducible refine (sound_c _ _ _ _ _).mono ?_)
  rintro e w1 ⟨rfl, hb1⟩
  have S1 := hold8 hb1 S0
  have Z1 := Zero4.on hb1 Z0
  clear hb1 S0 Z0
  go_wp2_with fail
  (with_reducible refine (sound_c _ _ _ _ _).mono ?_)
  rintro e w2 ⟨rfl, hb2⟩
  have S2 := hold8 hb2 S1
  have Z2 := Zero4.on hb2 Z1
  clear hb2 S1 Z1
  go_wp2_with fail
  (with_reducible refine (agree_c _ _ _ _ _ _ _ _ _).mono ?_)
  rintro e w3 ⟨rfl, hb3⟩
  have S3 := hold8 hb3 S2
  have Z3 := Zero4.on hb3 Z2
  clear hb3 S2 Z2
  have D3 : Zero4 w3.drew (w.heap.size + 1 + 1) := Z3
  go_wp2_with fail
  go_region_held3 (fun w' => Below w.heap.size w w' ∧ w'.cell? ⟨w.heap.size, 0, none⟩ = some (.int .u64 (uv avh)) ∧ w'.cell? ⟨w.heap.size, 1, none⟩ = some (.int .u64 (uv avl)) ∧ w'.cell? ⟨w.heap.size, 2, none⟩ = some (.int .u64 (uv ach)) ∧ w'.cell? ⟨w.heap.size, 3, none⟩ = some (.int .u64 (uv acl)) ∧ w'.cell? ⟨w.heap.size + 1, 0, none⟩ = some (.int .u64 (uv bvh)) ∧ w'.cell? ⟨w.heap.size + 1, 1, none⟩ = some (.int .u64 (uv bvl)) ∧ w'.cell? ⟨w.heap.size + 1, 2, none⟩ = some (.int .u64 (uv bch)) ∧ w'.cell? ⟨w.heap.size + 1, 3, none⟩ = some (.int .u64 (uv bcl)))
    (first
      | exact hold8 (by assumption) (by assumption)
      | exact shold8 (sets4 _ _ _ _ _ _) (by assumption) (by omega) (by first | omega | (simp; done) | (simp; omega)) (by first | omega | (simp; done) | (simp; omega)) (by first | omega | (simp; done) | (simp; omega)) (by first | omega | (simp; done) | (simp; omega)) (by first | omega | (simp; done) | (simp; omega)) (by first | omega | (simp; done) | (simp; omega)) (by first | omega | (simp; done) | (simp; omega)) (by first | omega | (simp; done) | (simp; omega))
      | exact ⟨S3.1.drew, S3.2⟩)
    (first
      | (go_at_call 37; (with_reducible refine (or_c _ _ _ _ _).mono ?_); rintro e w' ⟨rfl, hb⟩; have Z := Zero4.on hb (by assumption); obtain ⟨z0, y0, z1, y1, z2, y2, z3, y3⟩ := Z.out))
  all_goals go_wp2
  all_goals exact bodyPost_ret (v := .tuple #[.agg #[.int .u64 (uv (avh ||| bvh)), .int .u64 (uv (avl ||| bvl)), .int .u64 (uv (ach ||| bch)), .int .u64 (uv (acl ||| bcl))], .bool true]) (by simp [results, Try.results28, go_sem, z0, z1, z2, z3]) rfl ⟨rfl, And.left (by assumption)⟩

end Go.Proofs

namespace Go.Proofs
open Go.RowKit Go.Proofs.Hd
attribute [local go_sem] uv_and uv_or uv_xor uv_andNot uv_shr uv_shl uv_add uv_sub uv_nonneg
attribute [local go_sem high] run_eq2 run_eq4

theorem sound_is (b : Bool) (avh avl ach acl : BitVec 64) (w : World) (h : sndB avh avl ach acl = b) : Calls Try.prog 21 #[.agg #[.int .u64 (uv avh), .int .u64 (uv avl), .int .u64 (uv ach), .int .u64 (uv acl)]] w fun e w' => e = .returned (.bool b) ∧ Below w.heap.size w w' := by
  subst h; exact sound_c _ _ _ _ _

end Go.Proofs

namespace Go.Proofs
open Go.Shelf Go.RowKit Go.Proofs.Hd
end Go.Proofs

namespace Go.Proofs
open Go.RowKit Go.Proofs.Hd
theorem uv_big_shr (k : Nat) : (9223372036854775808 : Int) / 2 ^ k = uv (9223372036854775808#64 >>> k) := uv_shr 9223372036854775808#64 k
attribute [local go_sem] uv_nonneg uv_big_shr
theorem neq_zero (x : BitVec 64) (h : x ≠ 0#64) : (uv x != 0) = true := by
  rw [uv_zero]; unfold bne; rw [uv_beq]; simpa using h

end Go.Proofs

namespace Go.Proofs.Hd
open Go.RowKit
def Cb.arr (c : Cb) : Array Value := #[.int .u64 (uv c.vh), .int .u64 (uv c.vl), .int .u64 (uv c.ch), .int .u64 (uv c.cl)]
def hArr (h l : BitVec 64) : Array Value := #[.int .u64 (uv h), .int .u64 (uv l)]
structure Lw (w wr : World) (a b : Cb) (g : Nat) (lh ll : BitVec 64) (v : Value) (L : List Cb) : Prop where
  bel : Below w.heap.size w wr
  ba : Blk wr w.heap.size 27 a.arr
  bb : Blk wr (w.heap.size + 1) 27 b.arr
  bg : Blk wr g 25 (hArr lh ll)
  gb : w.heap.size + 2 ≤ g
  own : wr.ownsRow (w.heap.size + 2) 27 4 v L.length (flat L)
theorem Lw.on {w wr w2 : World} {a b : Cb} {g : Nat} {lh ll : BitVec 64} {v : Value} {L : List Cb} (h : Lw w wr a b g lh ll v L) (hb : Below wr.heap.size wr w2) : Lw w w2 a b g lh ll v L :=
  ⟨h.bel.trans (hb.mono h.bel.size), h.ba.on hb, h.bb.on hb, h.bg.on hb, h.gb, own_on h.own hb⟩
theorem Lw.setL {w wr : World} {a b : Cb} {g : Nat} {lh ll : BitVec 64} {v : Value} {L : List Cb} (h : Lw w wr a b g lh ll v L) (p q : BitVec 64) :
    Lw w ((wr.setCell ⟨g, 0, none⟩ (.int .u64 (uv p))).setCell ⟨g, 1, none⟩ (.int .u64 (uv q))) a b g p q v L := by
  have hg := h.gb
  have n0 : v.ownBlock ≠ some g := fun e => own_apart h.own h.bg (by decide) e.symm
  refine ⟨(h.bel.setCell (by show _ ≤ g; omega) _).setCell (by show _ ≤ g; omega) _, (h.ba.far (by show _ ≠ g; omega) _).far (by show _ ≠ g; omega) _, (h.bb.far (by show _ ≠ g; omega) _).far (by show _ ≠ g; omega) _, ?_, h.gb, ownsRow_setCell_other (ownsRow_setCell_other h.own n0 _) n0 _⟩
  exact ((h.bg.set 0 (.int .u64 (uv p))).set 1 (.int .u64 (uv q)))
theorem Lw.setA {w wr : World} {a b : Cb} {g : Nat} {lh ll : BitVec 64} {v : Value} {L : List Cb} (h : Lw w wr a b g lh ll v L) (c : Cb) :
    Lw w ((((wr.setCell ⟨w.heap.size, 0, none⟩ (.int .u64 (uv c.vh))).setCell ⟨w.heap.size, 1, none⟩ (.int .u64 (uv c.vl))).setCell ⟨w.heap.size, 2, none⟩ (.int .u64 (uv c.ch))).setCell ⟨w.heap.size, 3, none⟩ (.int .u64 (uv c.cl))) c b g lh ll v L := by
  have hg := h.gb
  refine ⟨h.bel.trans ((sets4 _ _ _ _ _ _).mono (Nat.le_refl _)), ?_, ?_, ?_, h.gb, ?_⟩
  · exact (((h.ba.set 0 (.int .u64 (uv c.vh))).set 1 (.int .u64 (uv c.vl))).set 2 (.int .u64 (uv c.ch))).set 3 (.int .u64 (uv c.cl))
  · exact (((h.bb.far (by show _ ≠ w.heap.size; omega) _).far (by show _ ≠ w.heap.size; omega) _).far (by show _ ≠ w.heap.size; omega) _).far (by show _ ≠ w.heap.size; omega) _
  · exact (((h.bg.far (by show _ ≠ w.heap.size; omega) _).far (by show _ ≠ w.heap.size; omega) _).far (by show _ ≠ w.heap.size; omega) _).far (by show _ ≠ w.heap.size; omega) _
  · exact ownsRow_setCell_below (ownsRow_setCell_below (ownsRow_setCell_below (ownsRow_setCell_below h.own (by show w.heap.size < _; omega) _) (by show w.heap.size < _; omega) _) (by show w.heap.size < _; omega) _) (by show w.heap.size < _; omega) _
theorem Lw.newL {w wr : World} {a b : Cb} {g : Nat} {lh ll : BitVec 64} {v : Value} {L : List Cb} (h : Lw w wr a b g lh ll v L) (p q : BitVec 64) (hz : w.heap.size + 2 ≤ wr.heap.size) :
    Lw w (wr.alloc (.cells #[.int .u64 (uv p), .int .u64 (uv q)] 25)) a b wr.heap.size p q v L := by
  have hb : Below wr.heap.size wr (wr.alloc (.cells #[.int .u64 (uv p), .int .u64 (uv q)] 25)) := (Below.refl _ _).alloc (Nat.le_refl _) _
  have h2 := h.on hb
  exact ⟨h2.bel, h2.ba, h2.bb, Blk.new _ _ _, hz, h2.own⟩
theorem Lw.append {w wr w2 : World} {a b : Cb} {g : Nat} {lh ll : BitVec 64} {v v' : Value} {L : List Cb} {c : Cb} (h : Lw w wr a b g lh ll v L) (hg : wr.grownBy w2 v.ownBlock)
    (hown : w2.ownsRow (w.heap.size + 2) 27 4 v' (L.length + 1) (flat L ++ c.cells)) : Lw w w2 a b g lh ll v' (L ++ [c]) := by
  have hz := h.bel.size
  refine ⟨h.bel.grown hg hz (fun k hk => by have := (h.own.lt k hk).1; omega), h.ba.grown hg (own_base h.own (by omega)), h.bb.grown hg (own_base h.own (by omega)), h.bg.grown hg (own_apart h.own h.bg (by decide)), h.gb, ?_⟩
  rw [flat_snoc]
  simpa using hown
/-- Two cubes that were handed in lie in the first two blocks. -/
structure Tw (w wr : World) (a b : Cb) : Prop where
  bel : Below w.heap.size w wr
  ba : Blk wr w.heap.size 27 a.arr
  bb : Blk wr (w.heap.size + 1) 27 b.arr
theorem Tw.start (w : World) (a b : Cb) : Tw w ((w.alloc (.cells #[.int .u64 (uv a.vh), .int .u64 (uv a.vl), .int .u64 (uv a.ch), .int .u64 (uv a.cl)] 27)).alloc (.cells #[.int .u64 (uv b.vh), .int .u64 (uv b.vl), .int .u64 (uv b.ch), .int .u64 (uv b.cl)] 27)) a b := by
  have b1 : Below w.heap.size w (w.alloc (.cells #[.int .u64 (uv a.vh), .int .u64 (uv a.vl), .int .u64 (uv a.ch), .int .u64 (uv a.cl)] 27)) := (Below.refl _ _).alloc (Nat.le_refl _) _
  have k1 : Blk (w.alloc (.cells #[.int .u64 (uv a.vh), .int .u64 (uv a.vl), .int .u64 (uv a.ch), .int .u64 (uv a.cl)] 27)) w.heap.size 27 a.arr := Blk.new w _ _
  have k2 := Blk.new (w.alloc (.cells #[.int .u64 (uv a.vh), .int .u64 (uv a.vl), .int .u64 (uv a.ch), .int .u64 (uv a.cl)] 27)) 27 b.arr
  rw [World.size_alloc] at k2
  exact ⟨b1.alloc (by simp) _, k1.on ((Below.refl _ _).alloc (Nat.le_refl _) _), k2⟩
theorem Tw.on {w wr w2 : World} {a b : Cb} (h : Tw w wr a b) (hb : Below wr.heap.size wr w2) : Tw w w2 a b :=
  ⟨h.bel.trans (hb.mono h.bel.size), h.ba.on hb, h.bb.on hb⟩
theorem Tw.loop {w wr : World} {a b : Cb} (h : Tw w wr a b) (p q : BitVec 64) : Lw w (wr.alloc (.cells #[.int .u64 (uv p), .int .u64 (uv q)] 25)) a b wr.heap.size p q (.slice none 0 0) [] := by
  have h2 := h.on ((Below.refl wr.heap.size wr).alloc (Nat.le_refl _) (.cells #[.int .u64 (uv p), .int .u64 (uv q)] 25))
  exact ⟨h2.bel, h2.ba, h2.bb, Blk.new _ _ _, h.bb.lt, World.ownsRow_nil _ _ _ _⟩
theorem Tw.eqs {w wr : World} {a b : Cb} (h : Tw w wr a b) :
    (wr.cell? ⟨w.heap.size, 0, none⟩ = some (.int .u64 (uv a.vh)) ∧ wr.cell? ⟨w.heap.size, 1, none⟩ = some (.int .u64 (uv a.vl)) ∧ wr.cell? ⟨w.heap.size, 2, none⟩ = some (.int .u64 (uv a.ch)) ∧ wr.cell? ⟨w.heap.size, 3, none⟩ = some (.int .u64 (uv a.cl))) ∧
    (wr.cell? ⟨w.heap.size + 1, 0, none⟩ = some (.int .u64 (uv b.vh)) ∧ wr.cell? ⟨w.heap.size + 1, 1, none⟩ = some (.int .u64 (uv b.vl)) ∧ wr.cell? ⟨w.heap.size + 1, 2, none⟩ = some (.int .u64 (uv b.ch)) ∧ wr.cell? ⟨w.heap.size + 1, 3, none⟩ = some (.int .u64 (uv b.cl))) :=
  ⟨⟨h.ba.cell 0, h.ba.cell 1, h.ba.cell 2, h.ba.cell 3⟩, ⟨h.bb.cell 0, h.bb.cell 1, h.bb.cell 2, h.bb.cell 3⟩⟩
theorem pair_zero {lh ll : BitVec 64} (h : bitsDown (hbit lh ll) 128 = []) : eq2 (uv lh) (uv ll) 0 0 = true := by
  have hb := bitsDown_nil h
  obtain ⟨e1, e2⟩ := head_ext (h := lh) (l := ll) (h' := 0#64) (l' := 0#64) (fun j hj => by rw [hb j hj]; simp [hbit])
  rw [e1, e2]; exact eq2_self 0 0
theorem pair_some {lh ll : BitVec 64} {k : Nat} {ks : List Nat} (h : bitsDown (hbit lh ll) 128 = k :: ks) : eq2 (uv lh) (uv ll) 0 0 = false := by
  obtain ⟨h1, h2, _, _⟩ := bitsDown_cons h
  cases c : eq2 (uv lh) (uv ll) 0 0 with
  | false => rfl
  | true =>
    rw [uv_zero, eq2_uv] at c
    simp only [Bool.and_eq_true, beq_iff_eq] at c
    rw [c.1, c.2] at h2
    simp [hbit] at h2
theorem next_bits {lh ll : BitVec 64} {k : Nat} {ks : List Nat} (h : bitsDown (hbit lh ll) 128 = k :: ks) : bitsDown (hbit (lh &&& ~~~oneH k) (ll &&& ~~~oneL k)) 128 = ks := by
  obtain ⟨h1, h2, _, h4⟩ := bitsDown_cons h
  rw [← h4]
  exact bitsDown_congr 128 fun j hj => by rw [hbit_andNot _ _ _ _ _ hj, hbit_one _ _ h1 hj]
/-- What the walk reads. -/
theorem Lw.eqs {w wr : World} {a b : Cb} {g : Nat} {lh ll : BitVec 64} {v : Value} {L : List Cb} (h : Lw w wr a b g lh ll v L) :
    (wr.cell? ⟨w.heap.size, 0, none⟩ = some (.int .u64 (uv a.vh)) ∧ wr.cell? ⟨w.heap.size, 1, none⟩ = some (.int .u64 (uv a.vl)) ∧ wr.cell? ⟨w.heap.size, 2, none⟩ = some (.int .u64 (uv a.ch)) ∧ wr.cell? ⟨w.heap.size, 3, none⟩ = some (.int .u64 (uv a.cl))) ∧
    (wr.cell? ⟨w.heap.size + 1, 0, none⟩ = some (.int .u64 (uv b.vh)) ∧ wr.cell? ⟨w.heap.size + 1, 1, none⟩ = some (.int .u64 (uv b.vl)) ∧ wr.cell? ⟨w.heap.size + 1, 2, none⟩ = some (.int .u64 (uv b.ch)) ∧ wr.cell? ⟨w.heap.size + 1, 3, none⟩ = some (.int .u64 (uv b.cl))) ∧
    (wr.cell? ⟨g, 0, none⟩ = some (.int .u64 (uv lh)) ∧ wr.cell? ⟨g, 1, none⟩ = some (.int .u64 (uv ll))) ∧
    (wr.frozen? ⟨w.heap.size, 0, none⟩ = false ∧ wr.frozen? ⟨w.heap.size, 1, none⟩ = false ∧ wr.frozen? ⟨w.heap.size, 2, none⟩ = false ∧ wr.frozen? ⟨w.heap.size, 3, none⟩ = false) ∧
    (wr.frozen? ⟨g, 0, none⟩ = false ∧ wr.frozen? ⟨g, 1, none⟩ = false) :=
  ⟨⟨h.ba.cell 0, h.ba.cell 1, h.ba.cell 2, h.ba.cell 3⟩, ⟨h.bb.cell 0, h.bb.cell 1, h.bb.cell 2, h.bb.cell 3⟩, ⟨h.bg.cell 0, h.bg.cell 1⟩, ⟨h.ba.free 0, h.ba.free 1, h.ba.free 2, h.ba.free 3⟩, ⟨h.bg.free 0, h.bg.free 1⟩⟩
theorem Blk.two {w : World} {g : Nat} {t : TypeId} {p q : BitVec 64} (h : Blk w g t (hArr p q)) : w.cell? ⟨g, 0, none⟩ = some (.int .u64 (uv p)) ∧ w.cell? ⟨g, 1, none⟩ = some (.int .u64 (uv q)) := ⟨h.cell 0, h.cell 1⟩
theorem Blk.pair {w : World} {g : Nat} {t : TypeId} {x0 x1 : Value} (h : Blk w g t #[x0, x1]) : w.cell? ⟨g, 0, none⟩ = some x0 ∧ w.cell? ⟨g, 1, none⟩ = some x1 := ⟨h.cell 0, h.cell 1⟩
theorem Blk.four {w : World} {g : Nat} {t : TypeId} {x0 x1 x2 x3 : Value} (h : Blk w g t #[x0, x1, x2, x3]) : w.cell? ⟨g, 0, none⟩ = some x0 ∧ w.cell? ⟨g, 1, none⟩ = some x1 ∧ w.cell? ⟨g, 2, none⟩ = some x2 ∧ w.cell? ⟨g, 3, none⟩ = some x3 := ⟨h.cell 0, h.cell 1, h.cell 2, h.cell 3⟩
theorem Blk.fr2 {w : World} {g : Nat} {t : TypeId} {cs : Array Value} (h : Blk w g t cs) : w.frozen? ⟨g, 0, none⟩ = false ∧ w.frozen? ⟨g, 1, none⟩ = false := ⟨h.free 0, h.free 1⟩
theorem Blk.fr4 {w : World} {g : Nat} {t : TypeId} {cs : Array Value} (h : Blk w g t cs) : w.frozen? ⟨g, 0, none⟩ = false ∧ w.frozen? ⟨g, 1, none⟩ = false ∧ w.frozen? ⟨g, 2, none⟩ = false ∧ w.frozen? ⟨g, 3, none⟩ = false := ⟨h.free 0, h.free 1, h.free 2, h.free 3⟩
theorem Blk.set4 {w : World} {g : Nat} {t : TypeId} {x0 x1 x2 x3 : Value} (h : Blk w g t #[x0, x1, x2, x3]) (y0 y1 y2 y3 : Value) : Blk ((((w.setCell ⟨g, 0, none⟩ y0).setCell ⟨g, 1, none⟩ y1).setCell ⟨g, 2, none⟩ y2).setCell ⟨g, 3, none⟩ y3) g t #[y0, y1, y2, y3] := (((h.set 0 y0).set 1 y1).set 2 y2).set 3 y3
theorem Blk.far4 {w : World} {g r : Nat} {t : TypeId} {cs : Array Value} (h : Blk w g t cs) (hp : g ≠ r) (y0 y1 y2 y3 : Value) : Blk ((((w.setCell ⟨r, 0, none⟩ y0).setCell ⟨r, 1, none⟩ y1).setCell ⟨r, 2, none⟩ y2).setCell ⟨r, 3, none⟩ y3) g t cs := (((h.far hp y0).far hp y1).far hp y2).far hp y3
/-- A list of cubes was returned, in memory of the call's own; nothing that was there has changed. -/
def Got (w : World) (L : List Cb) (e : Ending) (w' : World) : Prop := ∃ v, e = .returned v ∧ w'.ownsRow w.heap.size 27 4 v L.length (flat L) ∧ Below w.heap.size w w'
end Go.Proofs.Hd

namespace Go.Proofs
open Go.RowKit Go.Proofs.Hd
attribute [local go_sem] uv_and uv_or uv_xor uv_andNot uv_shr uv_shl uv_add uv_sub uv_nonneg
attribute [local go_sem high] run_eq2 run_eq4
theorem bdrew (w : World) : Below w.heap.size w w.drew := (Below.refl _ _).drew
theorem infoCube : (Try.prog.info? 27).map (fun i => (i.zero, i.size, i.bytes)) = some (some (.agg #[.int .u64 0, .int .u64 0, .int .u64 0, .int .u64 0]), 4, 32) := by kernel_rfl
end Go.Proofs

namespace Go.Proofs
open Go.RowKit Go.Proofs.Hd
attribute [local go_sem] uv_and uv_or uv_xor uv_andNot uv_shr uv_shl uv_add uv_sub uv_nonneg uv_shl_one uv_sub_one uv_and_one uv_div_2 uv_div_4 uv_div_16 uv_div_256 uv_div_65536 uv_div_big uv_and_m0 uv_and_m1 uv_and_m2
theorem ret_int {k : IntKind} {a b : Int} (h : a = b) : Ending.returned (.int k a) = .returned (.int k b) := by rw [h]
theorem bdrewN {B : Nat} {w w' : World} (n : Nat) (h : Below B w w') : Below B w (w'.drewN n) := ⟨h.os, h.tape, h.output, h.size, h.block⟩

theorem down_hi (h l : BitVec 64) (n : Nat) (w : World) (h1 : 64 ≤ n) (h2 : n ≤ 128) : Calls Try.prog 58 #[.agg #[.int .u64 (uv h), .int .u64 (uv l)], .int .i64 n] w fun e w' => e = .returned (.int .u64 (uv (downW h l n))) ∧ Below w.heap.size w w' := by
  go_enter Try.func58, Try.ntmps58
  go_wp2
  go_ret
  exact ⟨ret_int (by rw [downW, if_pos h1]), (Below.refl _ _).alloc (Nat.le_refl _) _⟩

theorem down_lo (h l : BitVec 64) (n : Nat) (w : World) (h1 : n < 64) : Calls Try.prog 58 #[.agg #[.int .u64 (uv h), .int .u64 (uv l)], .int .i64 n] w fun e w' => e = .returned (.int .u64 (uv (downW h l n))) ∧ Below w.heap.size w w' := by
  go_enter Try.func58, Try.ntmps58
  go_wp2
  go_quiet (fail)
  go_wp2
  go_ret
  exact ⟨ret_int (by rw [downW, if_neg (by omega)]), bdrewN _ ((Below.refl _ _).alloc (Nat.le_refl _) _)⟩

theorem down_c (h l : BitVec 64) (n : Nat) (w : World) (h2 : n ≤ 128) : Calls Try.prog 58 #[.agg #[.int .u64 (uv h), .int .u64 (uv l)], .int .i64 n] w fun e w' => e = .returned (.int .u64 (uv (downW h l n))) ∧ Below w.heap.size w w' := by
  by_cases h1 : 64 ≤ n
  · exact down_hi h l n w h1 h2
  · exact down_lo h l n w (by omega)

theorem bit_out (h l : BitVec 64) (n : Int) (w : World) (hn : n < 0 ∨ 128 ≤ n) : Calls Try.prog 44 #[.agg #[.int .u64 (uv h), .int .u64 (uv l)], .int .i64 n] w fun e w' => e = .returned (.bool false) ∧ Below w.heap.size w w' := by
  rcases hn with hn | hn
  · go_enter Try.func44, Try.ntmps44
    go_wp2
    go_ret
    exact ⟨rfl, (Below.refl _ _).alloc (Nat.le_refl _) _⟩
  · have h1 : (0 : Int) ≤ n := by omega
    go_enter Try.func44, Try.ntmps44
    go_wp2
    go_ret
    exact ⟨rfl, (Below.refl _ _).alloc (Nat.le_refl _) _⟩

end Go.Proofs

namespace Go.Proofs
open Go.RowKit Go.Proofs.Hd
attribute [local go_sem] uv_and uv_or uv_xor uv_andNot uv_shr uv_shl uv_add uv_sub uv_nonneg uv_shl_one uv_sub_one uv_and_one

theorem bit_in (h l : BitVec 64) (n : Nat) (w : World) (hn : n < 128) : Calls Try.prog 44 #[.agg #[.int .u64 (uv h), .int .u64 (uv l)], .int .i64 n] w fun e w' => e = .returned (.bool (hbit h l n)) ∧ Below w.heap.size w w' := by
  have h1 : (0 : Int) ≤ n := by omega
  have h2 : (n : Int) < 128 := by omega
  go_enter Try.func44, Try.ntmps44
  go_wp2_with fail
  refine (down_c _ _ _ _ (by omega)).mono ?_
  rintro e w1 ⟨rfl, hb⟩
  go_wp2
  go_ret
  have e : (uv (downW h l n &&& 1#64) == 1) = hbit h l n := by rw [uv_bit, downW_bit]; simp
  exact ⟨congrArg (fun b => Ending.returned (.bool b)) e, ((Below.refl _ w).alloc (Nat.le_refl _) _).trans (hb.mono (by simp))⟩

end Go.Proofs

namespace Go.Proofs
open Go.RowKit Go.Proofs.Hd
attribute [local go_sem] uv_and uv_or uv_xor uv_andNot uv_shr uv_shl uv_add uv_sub uv_nonneg uv_shl_one uv_sub_one uv_and_one

theorem keep2 {B b : Nat} {x y : Option Value} {W0 w1 w2 : World} (hb : Below w1.heap.size w1 w2) (h : Below B W0 w1 ∧ w1.cell? ⟨b, 0, none⟩ = x ∧ w1.cell? ⟨b, 1, none⟩ = y) (hB : B ≤ W0.heap.size) (hbB : b < B) :
    Below B W0 w2 ∧ w2.cell? ⟨b, 0, none⟩ = x ∧ w2.cell? ⟨b, 1, none⟩ = y := by
  have hs := h.1.size
  exact ⟨h.1.trans (hb.mono (by omega)), (hb.cell (p := ⟨b, 0, none⟩) (by simp; omega)).trans h.2.1, (hb.cell (p := ⟨b, 1, none⟩) (by simp; omega)).trans h.2.2⟩

theorem later {B : Nat} {W0 w1 w2 : World} (hb : Below w1.heap.size w1 w2) (h : Below B W0 w1) (hB : B ≤ W0.heap.size) : Below B W0 w2 :=
  h.trans (hb.mono (Nat.le_trans hB h.size))
theorem six {w w' : World} {h l : BitVec 64} (J : Below (w.heap.size + 2) ((w.alloc (.cells #[.int .u64 (uv h), .int .u64 (uv l)] 25)).alloc (.cells #[.int .u64 0, .int .u64 0] 25)) w') : w'.cell? ⟨w.heap.size, 0, none⟩ = some (.int .u64 (uv h)) ∧ w'.cell? ⟨w.heap.size, 1, none⟩ = some (.int .u64 (uv l)) ∧
    w'.cell? ⟨w.heap.size + 1, 0, none⟩ = some (.int .u64 0) ∧ w'.cell? ⟨w.heap.size + 1, 1, none⟩ = some (.int .u64 0) ∧ w'.frozen? ⟨w.heap.size + 1, 0, none⟩ = false ∧ w'.frozen? ⟨w.heap.size + 1, 1, none⟩ = false := by
  refine ⟨?_, ?_, ?_, ?_, ?_, ?_⟩
  · rw [J.cell (by simp <;> omega)]; simp
  · rw [J.cell (by simp <;> omega)]; simp
  · rw [J.cell (by simp)]; simp
  · rw [J.cell (by simp)]; simp
  · rw [J.frozen (by simp)]; simp
  · rw [J.frozen (by simp)]; simp

end Go.Proofs

namespace Go.Proofs
open Go.RowKit Go.Proofs.Hd
attribute [local go_sem] uv_nonneg

end Go.Proofs

namespace Go.Proofs
open Go.RowKit Go.Proofs.Hd
attribute [local go_sem] uv_nonneg eq4_self
attribute [local go_sem high] run_eq2 run_eq4

theorem k_make (w : World) : Calls Try.prog 25 #[.agg #[.int .u64 0, .int .u64 1], .agg #[.int .u64 0, .int .u64 3]] w fun e w' => e = .returned (.agg #[.int .u64 0, .int .u64 1, .int .u64 0, .int .u64 3]) ∧ Below w.heap.size w w' :=
  make_c 0#64 1#64 0#64 3#64 w
theorem k_meet (w : World) : Calls Try.prog 28 #[.agg #[.int .u64 0, .int .u64 240, .int .u64 0, .int .u64 240], .agg #[.int .u64 0, .int .u64 51, .int .u64 0, .int .u64 255]] w fun e w' => e = .returned (.tuple #[.agg #[.int .u64 0, .int .u64 0, .int .u64 0, .int .u64 0], .bool false]) ∧ Below w.heap.size w w' :=
  meet_no3 0#64 240#64 0#64 240#64 0#64 51#64 0#64 255#64 w (by decide +kernel) (by decide +kernel) (by decide +kernel)
theorem k_sound (w : World) : Calls Try.prog 21 #[.agg #[.int .u64 0, .int .u64 240, .int .u64 0, .int .u64 240]] w fun e w' => e = .returned (.bool true) ∧ Below w.heap.size w w' := by
  have h := sound_c 0#64 240#64 0#64 240#64 w
  rw [show sndB 0#64 240#64 0#64 240#64 = true by decide +kernel] at h
  exact h
end Go.Proofs

namespace Go.Proofs
open Go.RowKit Go.Proofs.Hd
def sel (c : Bool) (x : BitVec 64) : BitVec 64 := if c = true then x else 0#64
theorem sel_t (x : BitVec 64) : sel true x = x := rfl
theorem sel_f (x : BitVec 64) : uv (sel false x) = 0 := rfl
/-- Is the intersection not empty? -/
def metB (avh avl ach acl bvh bvl bch bcl : BitVec 64) : Bool := sndB avh avl ach acl && (sndB bvh bvl bch bcl && agrB avh avl ach acl bvh bvl bch bcl)
/-- Does the first care for all bits that the second cares for? -/
def inCa (ach acl bch bcl : BitVec 64) : Bool := (ach &&& bch == bch) && (acl &&& bcl == bcl)
def witB (avh avl ach acl bvh bvl bch bcl : BitVec 64) : Bool := sndB avh avl ach acl && (sndB bvh bvl bch bcl && (inCa ach acl bch bcl && agrB avh avl ach acl bvh bvl bch bcl))
def befB (avh avl ach acl bvh bvl bch bcl : BitVec 64) : Bool := sndB avh avl ach acl && agrB avh avl ach acl bvh bvl bch bcl
theorem in_eq (ach acl bch bcl : BitVec 64) : eq2 (uv (ach &&& bch)) (uv (acl &&& bcl)) (uv bch) (uv bcl) = inCa ach acl bch bcl := eq2_uv _ _ _ _

theorem meet_c (avh avl ach acl bvh bvl bch bcl : BitVec 64) (w : World) : Calls Try.prog 28 #[.agg #[.int .u64 (uv avh), .int .u64 (uv avl), .int .u64 (uv ach), .int .u64 (uv acl)], .agg #[.int .u64 (uv bvh), .int .u64 (uv bvl), .int .u64 (uv bch), .int .u64 (uv bcl)]] w fun e w' => e = .returned (.tuple #[.agg #[.int .u64 (uv (sel (metB avh avl ach acl bvh bvl bch bcl) (avh ||| bvh))), .int .u64 (uv (sel (metB avh avl ach acl bvh bvl bch bcl) (avl ||| bvl))), .int .u64 (uv (sel (metB avh avl ach acl bvh bvl bch bcl) (ach ||| bch))), .int .u64 (uv (sel (metB avh avl ach acl bvh bvl bch bcl) (acl ||| bcl)))], .bool (metB avh avl ach acl bvh bvl bch bcl)]) ∧ Below w.heap.size w w' := by
  cases h1 : sndB avh avl ach acl
  · rw [show metB avh avl ach acl bvh bvl bch bcl = false by unfold metB; rw [h1]; rfl]; simp only [sel_f]; exact meet_no1 _ _ _ _ _ _ _ _ _ h1
  · cases h2 : sndB bvh bvl bch bcl
    · rw [show metB avh avl ach acl bvh bvl bch bcl = false by unfold metB; rw [h1, h2]; rfl]; simp only [sel_f]; exact meet_no2 _ _ _ _ _ _ _ _ _ h1 h2
    · cases h3 : agrB avh avl ach acl bvh bvl bch bcl
      · rw [show metB avh avl ach acl bvh bvl bch bcl = false by unfold metB; rw [h1, h2, h3]; rfl]; simp only [sel_f]; exact meet_no3 _ _ _ _ _ _ _ _ _ h1 h2 h3
      · rw [show metB avh avl ach acl bvh bvl bch bcl = true by unfold metB; rw [h1, h2, h3]; rfl]; simp only [sel_t]; exact meet_yes _ _ _ _ _ _ _ _ _ h1 h2 h3

theorem pair_bits (a b c d : BitVec 64) : ((a == c) && (b == d)) = true ↔ ∀ j, j < 128 → hbit a b j = hbit c d j := by
  simp only [Bool.and_eq_true, beq_iff_eq]
  constructor
  · rintro ⟨rfl, rfl⟩ j _; rfl
  · exact fun h => head_ext h
theorem snd_bits (avh avl ach acl : BitVec 64) : sndB avh avl ach acl = true ↔ ∀ j, j < 128 → hbit avh avl j = true → hbit ach acl j = true := by
  unfold sndB
  rw [pair_bits]
  constructor
  · intro h j hj hv; have := h j hj; rw [hbit_and, hv] at this; simpa using this
  · intro h j hj; rw [hbit_and]; cases hv : hbit avh avl j with
    | false => rfl
    | true => rw [h j hj hv]; rfl
theorem has_bits (avh avl ach acl hh hl : BitVec 64) : hasB avh avl ach acl hh hl = true ↔ ∀ j, j < 128 → (hbit hh hl j && hbit ach acl j) = hbit avh avl j := by
  unfold hasB
  rw [pair_bits]
  exact ⟨fun h j hj => by rw [← hbit_and]; exact h j hj, fun h j hj => by rw [hbit_and]; exact h j hj⟩
theorem agr_bits (avh avl ach acl bvh bvl bch bcl : BitVec 64) : agrB avh avl ach acl bvh bvl bch bcl = true ↔ ∀ j, j < 128 → hbit ach acl j = true → hbit bch bcl j = true → hbit avh avl j = hbit bvh bvl j := by
  unfold agrB
  rw [pair_bits]
  constructor
  · intro h j hj h1 h2; have := h j hj; simp only [hbit_and, h1, h2, Bool.and_true] at this; exact this
  · intro h j hj; simp only [hbit_and]
    cases h1 : hbit ach acl j <;> cases h2 : hbit bch bcl j <;> simp
    exact h j hj h1 h2
theorem in_bits (ach acl bch bcl : BitVec 64) : inCa ach acl bch bcl = true ↔ ∀ j, j < 128 → hbit bch bcl j = true → hbit ach acl j = true := by
  unfold inCa
  rw [pair_bits]
  constructor
  · intro h j hj h1; have := h j hj; rw [hbit_and, h1] at this; simpa using this
  · intro h j hj; rw [hbit_and]; cases h1 : hbit bch bcl j with
    | false => simp
    | true => rw [h j hj h1]; rfl
theorem agr_comm (avh avl ach acl bvh bvl bch bcl : BitVec 64) : agrB bvh bvl bch bcl avh avl ach acl = agrB avh avl ach acl bvh bvl bch bcl := by
  rw [Bool.eq_iff_iff, agr_bits, agr_bits]
  exact ⟨fun h j hj h1 h2 => (h j hj h2 h1).symm, fun h j hj h1 h2 => (h j hj h2 h1).symm⟩
theorem met_comm (avh avl ach acl bvh bvl bch bcl : BitVec 64) : metB bvh bvl bch bcl avh avl ach acl = metB avh avl ach acl bvh bvl bch bcl := by
  unfold metB; rw [agr_comm]; cases sndB avh avl ach acl <;> cases sndB bvh bvl bch bcl <;> simp
theorem meet_r (avh avl ach acl bvh bvl bch bcl : BitVec 64) (w : World) : Calls Try.prog 28 #[.agg #[.int .u64 (uv bvh), .int .u64 (uv bvl), .int .u64 (uv bch), .int .u64 (uv bcl)], .agg #[.int .u64 (uv avh), .int .u64 (uv avl), .int .u64 (uv ach), .int .u64 (uv acl)]] w fun e w' => e = .returned (.tuple #[.agg #[.int .u64 (uv (sel (metB avh avl ach acl bvh bvl bch bcl) (avh ||| bvh))), .int .u64 (uv (sel (metB avh avl ach acl bvh bvl bch bcl) (avl ||| bvl))), .int .u64 (uv (sel (metB avh avl ach acl bvh bvl bch bcl) (ach ||| bch))), .int .u64 (uv (sel (metB avh avl ach acl bvh bvl bch bcl) (acl ||| bcl)))], .bool (metB avh avl ach acl bvh bvl bch bcl)]) ∧ Below w.heap.size w w' := by
  have h := meet_c bvh bvl bch bcl avh avl ach acl w
  rwa [met_comm, BitVec.or_comm bvh avh, BitVec.or_comm bvl avl, BitVec.or_comm bch ach, BitVec.or_comm bcl acl] at h
attribute [irreducible] sel metB witB befB inCa
end Go.Proofs

namespace Go.Proofs.Hd
open Go.RowKit
def Cb.V (c : Cb) (j : Nat) : Bool := hbit c.vh c.vl j
def Cb.K (c : Cb) (j : Nat) : Bool := hbit c.ch c.cl j
def Cb.snd (c : Cb) : Bool := sndB c.vh c.vl c.ch c.cl
def Cb.has (c : Cb) (h l : BitVec 64) : Bool := hasB c.vh c.vl c.ch c.cl h l
def Cb.agr (a b : Cb) : Bool := agrB a.vh a.vl a.ch a.cl b.vh b.vl b.ch b.cl
def Cb.wit (a b : Cb) : Bool := witB a.vh a.vl a.ch a.cl b.vh b.vl b.ch b.cl
theorem Cb.snd_iff (c : Cb) : c.snd = true ↔ ∀ j, j < 128 → c.V j = true → c.K j = true := snd_bits _ _ _ _
theorem Cb.has_iff (c : Cb) (h l : BitVec 64) : c.has h l = true ↔ ∀ j, j < 128 → (hbit h l j && c.K j) = c.V j := has_bits _ _ _ _ _ _
theorem Cb.agr_iff (a b : Cb) : a.agr b = true ↔ ∀ j, j < 128 → a.K j = true → b.K j = true → a.V j = b.V j := agr_bits _ _ _ _ _ _ _ _
theorem wit_and' (avh avl ach acl bvh bvl bch bcl : BitVec 64) : witB avh avl ach acl bvh bvl bch bcl = true ↔ sndB avh avl ach acl = true ∧ sndB bvh bvl bch bcl = true ∧ inCa ach acl bch bcl = true ∧ agrB avh avl ach acl bvh bvl bch bcl = true := by
  rw [show witB avh avl ach acl bvh bvl bch bcl = (sndB avh avl ach acl && (sndB bvh bvl bch bcl && (inCa ach acl bch bcl && agrB avh avl ach acl bvh bvl bch bcl))) by unfold witB; rfl]
  simp only [Bool.and_eq_true]
theorem Cb.wit_iff (a b : Cb) : a.wit b = true ↔ a.snd = true ∧ b.snd = true ∧ (∀ j, j < 128 → b.K j = true → a.K j = true) ∧ (∀ j, j < 128 → a.K j = true → b.K j = true → a.V j = b.V j) := by
  unfold Cb.wit
  rw [wit_and', in_bits, agr_bits]
  exact Iff.rfl
theorem wOther_V (a b : Cb) (k j : Nat) (hk : k < 128) (hj : j < 128) : (wOther a b k).V j = (a.V j || ((b.V j && decide (j = k)) ^^ decide (j = k))) := by
  unfold Cb.V wOther; simp only [hbit_or, hbit_xor, hbit_and, hbit_one k j hk hj]
theorem wOther_K (a b : Cb) (k j : Nat) (hk : k < 128) (hj : j < 128) : (wOther a b k).K j = (a.K j || decide (j = k)) := by
  unfold Cb.K wOther; simp only [hbit_or, hbit_one k j hk hj]
theorem wSame_V (a b : Cb) (k j : Nat) (hk : k < 128) (hj : j < 128) : (wSame a b k).V j = (a.V j || (b.V j && decide (j = k))) := by
  unfold Cb.V wSame; simp only [hbit_or, hbit_and, hbit_one k j hk hj]
theorem wSame_K (a b : Cb) (k j : Nat) (hk : k < 128) (hj : j < 128) : (wSame a b k).K j = (a.K j || decide (j = k)) := by
  unfold Cb.K wSame; simp only [hbit_or, hbit_one k j hk hj]
theorem wSame_snd {a b : Cb} {k : Nat} (hk : k < 128) (ha : a.snd = true) : (wSame a b k).snd = true := by
  rw [Cb.snd_iff] at *
  intro j hj h
  rw [wSame_V _ _ _ _ hk hj] at h
  rw [wSame_K _ _ _ _ hk hj]
  have := ha j hj
  cases x1 : a.V j <;> cases x2 : a.K j <;> by_cases x3 : j = k <;> simp_all
theorem wOther_snd {a b : Cb} {k : Nat} (hk : k < 128) (ha : a.snd = true) : (wOther a b k).snd = true := by
  rw [Cb.snd_iff] at *
  intro j hj h
  rw [wOther_V _ _ _ _ hk hj] at h
  rw [wOther_K _ _ _ _ hk hj]
  have := ha j hj
  cases x1 : a.V j <;> cases x2 : a.K j <;> by_cases x3 : j = k <;> simp_all
theorem open_V {a : Cb} {k : Nat} (hk : k < 128) (ha : a.snd = true) (hn : a.K k = false) : a.V k = false := by
  rw [Cb.snd_iff] at ha
  cases h : a.V k with
  | false => rfl
  | true => rw [ha k hk h] at hn; cases hn
theorem wSame_has {a b : Cb} {k : Nat} (h l : BitVec 64) (hk : k < 128) (ha : a.snd = true) (hn : a.K k = false) :
    (wSame a b k).has h l = (a.has h l && (hbit h l k == b.V k)) := by
  have hv := open_V hk ha hn
  rw [Bool.eq_iff_iff, Bool.and_eq_true, Cb.has_iff, Cb.has_iff, beq_iff_eq]
  constructor
  · intro H
    refine ⟨fun j hj => ?_, ?_⟩
    · have := H j hj
      rw [wSame_V _ _ _ _ hk hj, wSame_K _ _ _ _ hk hj] at this
      by_cases e : j = k
      · subst e; rw [hv, hn]; simp
      · simpa [e] using this
    · have := H k hk
      rw [wSame_V _ _ _ _ hk hk, wSame_K _ _ _ _ hk hk, hv, hn] at this
      simpa using this
  · rintro ⟨H, e⟩ j hj
    rw [wSame_V _ _ _ _ hk hj, wSame_K _ _ _ _ hk hj]
    by_cases c : j = k
    · subst c; rw [hv, hn, e]; simp
    · have := H j hj; simpa [c] using this
theorem wOther_has {a b : Cb} {k : Nat} (h l : BitVec 64) (hk : k < 128) (ha : a.snd = true) (hn : a.K k = false) :
    (wOther a b k).has h l = (a.has h l && !(hbit h l k == b.V k)) := by
  have hv := open_V hk ha hn
  rw [Bool.eq_iff_iff, Bool.and_eq_true, Cb.has_iff, Cb.has_iff]
  constructor
  · intro H
    refine ⟨fun j hj => ?_, ?_⟩
    · have := H j hj
      rw [wOther_V _ _ _ _ hk hj, wOther_K _ _ _ _ hk hj] at this
      by_cases e : j = k
      · subst e; rw [hv, hn]; simp
      · simpa [e] using this
    · have := H k hk
      rw [wOther_V _ _ _ _ hk hk, wOther_K _ _ _ _ hk hk, hv, hn] at this
      cases x : hbit h l k <;> cases y : b.V k <;> simp_all
  · rintro ⟨H, e⟩ j hj
    rw [wOther_V _ _ _ _ hk hj, wOther_K _ _ _ _ hk hj]
    by_cases c : j = k
    · subst c; rw [hv, hn]; cases x : hbit h l j <;> cases y : b.V j <;> simp_all
    · have := H j hj; simpa [c] using this
/-- Numbers below 128, each once, for which a does not care. -/
def Free (a : Cb) : List Nat → Prop
  | [] => True
  | k :: ks => k < 128 ∧ a.K k = false ∧ k ∉ ks ∧ Free a ks
theorem Free.same {a b : Cb} {k : Nat} {ks : List Nat} (hk : k < 128) (h : Free a ks) (hn : k ∉ ks) : Free (wSame a b k) ks := by
  induction ks with
  | nil => trivial
  | cons m ks ih =>
    obtain ⟨h1, h2, h3, h4⟩ := h
    have e : m ≠ k := fun e => hn (by simp [e])
    exact ⟨h1, by rw [wSame_K _ _ _ _ hk h1, h2]; simp [e], h3, ih h4 (fun h => hn (by simp [h]))⟩
theorem bitsDown_mem {f : Nat → Bool} {n k : Nat} : k ∈ bitsDown f n ↔ k < n ∧ f k = true := by
  induction n with
  | zero => simp [bitsDown]
  | succ n ih =>
    rw [bitsDown]
    by_cases c : f n = true
    · rw [if_pos c, List.mem_cons, ih]
      constructor
      · rintro (rfl | ⟨h1, h2⟩)
        · exact ⟨by omega, c⟩
        · exact ⟨by omega, h2⟩
      · rintro ⟨h1, h2⟩
        by_cases e : k = n
        · exact .inl e
        · exact .inr ⟨by omega, h2⟩
    · rw [if_neg c, ih]
      constructor
      · rintro ⟨h1, h2⟩; exact ⟨by omega, h2⟩
      · rintro ⟨h1, h2⟩
        have e : k ≠ n := fun e => c (by rw [← e]; exact h2)
        exact ⟨by omega, h2⟩
theorem free_down (a : Cb) (f : Nat → Bool) (n : Nat) (hn : n ≤ 128) (hf : ∀ j, j < n → f j = true → a.K j = false) : Free a (bitsDown f n) := by
  induction n with
  | zero => trivial
  | succ n ih =>
    rw [bitsDown]
    by_cases c : f n = true
    · rw [if_pos c]
      exact ⟨by omega, hf n (by omega) c, fun h => by have := (bitsDown_mem.1 h).1; omega, ih (by omega) (fun j hj => hf j (by omega))⟩
    · rw [if_neg c]; exact ih (by omega) (fun j hj => hf j (by omega))
theorem open_iff (a b : Cb) (k : Nat) : k ∈ openBits a b ↔ k < 128 ∧ b.K k = true ∧ a.K k = false := by
  unfold openBits
  rw [bitsDown_mem]
  constructor
  · rintro ⟨h1, h2⟩
    rw [hbit_andNot _ _ _ _ _ h1] at h2
    refine ⟨h1, ?_⟩
    unfold Cb.K
    cases x : hbit b.ch b.cl k <;> cases y : hbit a.ch a.cl k <;> simp_all
  · rintro ⟨h1, h2, h3⟩
    refine ⟨h1, ?_⟩
    rw [hbit_andNot _ _ _ _ _ h1]
    unfold Cb.K at h2 h3
    rw [h2, h3]; rfl
theorem open_free (a b : Cb) : Free a (openBits a b) := by
  unfold openBits
  refine free_down a _ 128 (Nat.le_refl _) fun j hj h => ?_
  exact ((open_iff a b j).1 (bitsDown_mem.2 ⟨hj, h⟩)).2.2
def cntC (h l : BitVec 64) (L : List Cb) : Nat := (L.filter (fun c => c.has h l)).length
theorem cntC_nil (h l : BitVec 64) : cntC h l [] = 0 := rfl
theorem cntC_cons (h l : BitVec 64) (c : Cb) (L : List Cb) : cntC h l (c :: L) = (c.has h l).toNat + cntC h l L := by
  unfold cntC
  rw [List.filter_cons]
  cases x : c.has h l <;> simp [Nat.add_comm]
theorem cntC_snoc (h l : BitVec 64) (c : Cb) (L : List Cb) : cntC h l (L ++ [c]) = cntC h l L + (c.has h l).toNat := by
  unfold cntC
  rw [List.filter_append]
  cases x : c.has h l <;> simp [x]
theorem lessP_count (h l : BitVec 64) (b : Cb) (ks : List Nat) (a : Cb) (ha : a.snd = true) (hf : Free a ks) :
    cntC h l (lessP b a ks) + (a.has h l && ks.all (fun k => hbit h l k == b.V k)).toNat = (a.has h l).toNat := by
  induction ks generalizing a with
  | nil => simp [lessP, cntC_nil]
  | cons k ks ih =>
    obtain ⟨h1, h2, h3, h4⟩ := hf
    rw [lessP, cntC_cons, wOther_has h l h1 ha h2]
    have := ih (wSame a b k) (wSame_snd h1 ha) (h4.same h1 h3)
    rw [wSame_has h l h1 ha h2] at this
    rw [List.all_cons]
    cases x : a.has h l <;> cases y : (hbit h l k == b.V k) <;> simp_all
theorem wit_trans {a b c : Cb} (h1 : a.wit b = true) (h2 : b.wit c = true) : a.wit c = true := by
  rw [Cb.wit_iff] at *
  obtain ⟨p1, p2, p3, p4⟩ := h1
  obtain ⟨q1, q2, q3, q4⟩ := h2
  exact ⟨p1, q2, fun j hj h => p3 j hj (q3 j hj h), fun j hj x y => (p4 j hj x (q3 j hj y)).trans (q4 j hj (q3 j hj y) y)⟩
theorem wSame_wit {a b : Cb} {k : Nat} (hk : k < 128) (ha : a.snd = true) (hn : a.K k = false) : (wSame a b k).wit a = true := by
  rw [Cb.wit_iff]
  refine ⟨wSame_snd hk ha, ha, fun j hj h => by rw [wSame_K _ _ _ _ hk hj, h]; rfl, fun j hj _ h => ?_⟩
  have e : j ≠ k := fun e => by rw [e, hn] at h; cases h
  rw [wSame_V _ _ _ _ hk hj]; simp [e]
theorem wOther_wit {a b : Cb} {k : Nat} (hk : k < 128) (ha : a.snd = true) (hn : a.K k = false) : (wOther a b k).wit a = true := by
  rw [Cb.wit_iff]
  refine ⟨wOther_snd hk ha, ha, fun j hj h => by rw [wOther_K _ _ _ _ hk hj, h]; rfl, fun j hj _ h => ?_⟩
  have e : j ≠ k := fun e => by rw [e, hn] at h; cases h
  rw [wOther_V _ _ _ _ hk hj]; simp [e]
theorem wit_self {a : Cb} (ha : a.snd = true) : a.wit a = true := by
  rw [Cb.wit_iff]; exact ⟨ha, ha, fun _ _ h => h, fun _ _ _ _ => rfl⟩
theorem lessP_wit (b : Cb) (ks : List Nat) (a : Cb) (ha : a.snd = true) (hf : Free a ks) : ∀ c ∈ lessP b a ks, c.wit a = true := by
  induction ks generalizing a with
  | nil => intro c hc; cases hc
  | cons k ks ih =>
    obtain ⟨h1, h2, h3, h4⟩ := hf
    intro c hc
    rw [lessP, List.mem_cons] at hc
    rcases hc with rfl | hc
    · exact wOther_wit h1 ha h2
    · exact wit_trans (ih _ (wSame_snd h1 ha) (h4.same h1 h3) c hc) (wSame_wit h1 ha h2)
/-- The difference of two sound cubes. -/
def lessC (a b : Cb) : List Cb := if a.agr b = true then lessP b a (openBits a b) else [a]
theorem lessC_wit {a b : Cb} (ha : a.snd = true) : ∀ c ∈ lessC a b, c.wit a = true := by
  unfold lessC
  by_cases h : a.agr b = true
  · rw [if_pos h]; exact lessP_wit b _ a ha (open_free a b)
  · rw [if_neg h]; intro c hc; rw [List.mem_singleton] at hc; subst hc; exact wit_self ha
theorem lessC_len {a b : Cb} (ha : a.snd = true) (hb : b.snd = true) : (lessC a b).length = 0 ↔ a.wit b = true := by
  unfold lessC
  rw [Cb.wit_iff]
  by_cases h : a.agr b = true
  · rw [if_pos h, lessP_len, List.length_eq_zero_iff]
    constructor
    · intro e
      refine ⟨ha, hb, fun j hj hk => ?_, (Cb.agr_iff a b).1 h⟩
      cases x : a.K j with
      | true => rfl
      | false => have := (open_iff a b j).2 ⟨hj, hk, x⟩; rw [e] at this; cases this
    · rintro ⟨_, _, h3, _⟩
      cases e : openBits a b with
      | nil => rfl
      | cons k ks =>
        obtain ⟨h1, h2, h4⟩ := (open_iff a b k).1 (by rw [e]; simp)
        rw [h3 k h1 h2] at h4; cases h4
  · rw [if_neg h]
    constructor
    · intro e; simp at e
    · rintro ⟨_, _, _, h4⟩; exact absurd ((Cb.agr_iff a b).2 h4) h
theorem lessC_le (a b : Cb) : (lessC a b).length ≤ 128 := by
  unfold lessC
  by_cases h : a.agr b = true
  · rw [if_pos h, lessP_len]; exact bitsDown_len _ 128
  · rw [if_neg h]; simp
def Cb.met (a b : Cb) : Bool := metB a.vh a.vl a.ch a.cl b.vh b.vl b.ch b.cl
theorem met_eq (a b : Cb) (ha : a.snd = true) (hb : b.snd = true) : a.met b = a.agr b := by
  unfold Cb.met metB
  show (a.snd && (b.snd && a.agr b)) = _
  rw [ha, hb]; rfl
def Cb.join (a b : Cb) : Cb := ⟨a.vh ||| b.vh, a.vl ||| b.vl, a.ch ||| b.ch, a.cl ||| b.cl⟩
theorem join_has {a b : Cb} (h l : BitVec 64) (ha : a.snd = true) (hb : b.snd = true) (hg : a.agr b = true) :
    (a.join b).has h l = (a.has h l && (openBits a b).all (fun k => hbit h l k == b.V k)) := by
  rw [Cb.agr_iff] at hg
  rw [Cb.snd_iff] at ha hb
  rw [Bool.eq_iff_iff, Bool.and_eq_true, List.all_eq_true, Cb.has_iff, Cb.has_iff]
  have jv : ∀ j, (a.join b).V j = (a.V j || b.V j) := fun j => by unfold Cb.V Cb.join; rw [hbit_or]
  have jk : ∀ j, (a.join b).K j = (a.K j || b.K j) := fun j => by unfold Cb.K Cb.join; rw [hbit_or]
  constructor
  · intro H
    refine ⟨fun j hj => ?_, fun k hk => ?_⟩
    · have h1 := H j hj
      rw [jv, jk] at h1
      have h2 := hg j hj
      have h3 := ha j hj
      have h4 := hb j hj
      revert h1 h2 h3 h4
      generalize a.K j = k1
      generalize b.K j = k2
      generalize a.V j = v1
      generalize b.V j = v2
      generalize hbit h l j = t
      cases k1 <;> cases k2 <;> cases v1 <;> cases v2 <;> cases t <;> simp
    · obtain ⟨k1, k2, k3⟩ := (open_iff a b k).1 hk
      have h1 := H k k1
      rw [jv, jk, k2, k3] at h1
      have h3 := ha k k1
      rw [k3] at h3
      cases x3 : a.V k <;> simp_all
  · rintro ⟨H, G⟩ j hj
    rw [jv, jk]
    have h1 := H j hj
    have h2 := hg j hj
    have h3 := ha j hj
    have h4 := hb j hj
    by_cases hk : j ∈ openBits a b
    · have g := G j hk
      obtain ⟨k1, k2, k3⟩ := (open_iff a b j).1 hk
      cases x3 : a.V j <;> cases x4 : b.V j <;> cases x5 : hbit h l j <;> simp_all
    · have nk : ¬ (b.K j = true ∧ a.K j = false) := fun e => hk ((open_iff a b j).2 ⟨hj, e⟩)
      revert h1 h2 h3 h4 nk
      generalize a.K j = k1
      generalize b.K j = k2
      generalize a.V j = v1
      generalize b.V j = v2
      generalize hbit h l j = t
      cases k1 <;> cases k2 <;> cases v1 <;> cases v2 <;> cases t <;> simp
theorem parts_count {a b : Cb} (h l : BitVec 64) (ha : a.snd = true) (hb : b.snd = true) :
    (a.met b && (a.join b).has h l).toNat + cntC h l (lessC a b) = (a.has h l).toNat := by
  rw [met_eq a b ha hb]
  unfold lessC
  by_cases hg : a.agr b = true
  · rw [if_pos hg, hg, Bool.true_and, join_has h l ha hb hg, Nat.add_comm]
    exact lessP_count h l b _ a ha (open_free a b)
  · rw [if_neg hg, show a.agr b = false by simpa using hg, cntC_cons, cntC_nil]; simp
end Go.Proofs.Hd

namespace Go.Proofs
open Go.RowKit Go.Proofs.Hd
attribute [local go_sem] uv_nonneg eq4_self eq2_self
attribute [local go_sem high] run_eq2 run_eq4
theorem csound (x : Bool) (c : Cb) (w : World) (h : c.snd = x) : Calls Try.prog 21 #[.agg #[.int .u64 (uv c.vh), .int .u64 (uv c.vl), .int .u64 (uv c.ch), .int .u64 (uv c.cl)]] w fun e w' => e = .returned (.bool x) ∧ Below w.heap.size w w' := by
  subst h; exact sound_c _ _ _ _ _
theorem cmeet (a b : Cb) (w : World) : Calls Try.prog 28 #[.agg #[.int .u64 (uv a.vh), .int .u64 (uv a.vl), .int .u64 (uv a.ch), .int .u64 (uv a.cl)], .agg #[.int .u64 (uv b.vh), .int .u64 (uv b.vl), .int .u64 (uv b.ch), .int .u64 (uv b.cl)]] w fun e w' => e = .returned (.tuple #[.agg #[.int .u64 (uv (sel (a.met b) (a.vh ||| b.vh))), .int .u64 (uv (sel (a.met b) (a.vl ||| b.vl))), .int .u64 (uv (sel (a.met b) (a.ch ||| b.ch))), .int .u64 (uv (sel (a.met b) (a.cl ||| b.cl)))], .bool (a.met b)]) ∧ Below w.heap.size w w' :=
  meet_c _ _ _ _ _ _ _ _ _
theorem cmeet_t (a b : Cb) (w : World) (h : a.met b = true) : Calls Try.prog 28 #[.agg #[.int .u64 (uv a.vh), .int .u64 (uv a.vl), .int .u64 (uv a.ch), .int .u64 (uv a.cl)], .agg #[.int .u64 (uv b.vh), .int .u64 (uv b.vl), .int .u64 (uv b.ch), .int .u64 (uv b.cl)]] w fun e w' => e = .returned (.tuple #[.agg #[.int .u64 (uv (a.vh ||| b.vh)), .int .u64 (uv (a.vl ||| b.vl)), .int .u64 (uv (a.ch ||| b.ch)), .int .u64 (uv (a.cl ||| b.cl))], .bool true]) ∧ Below w.heap.size w w' := by
  have c := cmeet a b w
  rw [h] at c
  simp only [sel_t] at c
  exact c
theorem cmeet_f (a b : Cb) (w : World) (h : a.met b = false) : Calls Try.prog 28 #[.agg #[.int .u64 (uv a.vh), .int .u64 (uv a.vl), .int .u64 (uv a.ch), .int .u64 (uv a.cl)], .agg #[.int .u64 (uv b.vh), .int .u64 (uv b.vl), .int .u64 (uv b.ch), .int .u64 (uv b.cl)]] w fun e w' => e = .returned (.tuple #[.agg #[.int .u64 0, .int .u64 0, .int .u64 0, .int .u64 0], .bool false]) ∧ Below w.heap.size w w' := by
  have c := cmeet a b w
  rw [h] at c
  simp only [sel_f] at c
  exact c
theorem flat_get (L : List Cb) (k : Nat) (hk : k < L.length) (j : Nat) (hj : j < 4) : (flat L)[k * 4 + j]? = (L[k]).cells[j]? := by
  induction L generalizing k with
  | nil => simp at hk
  | cons c L ih =>
    have e : flat (c :: L) = c.cells ++ flat L := by simp [flat]
    rw [e]
    cases k with
    | zero => rw [Nat.zero_mul, Nat.zero_add, List.getElem?_append_left (by simp [Cb.cells]; omega)]; rfl
    | succ k =>
      rw [List.getElem?_append_right (by simp [Cb.cells]; omega), show (k + 1) * 4 + j - c.cells.length = k * 4 + j by simp [Cb.cells]; omega]
      exact ih k (by simpa using hk)
theorem own_get {w : World} {base g cap : Nat} {t : TypeId} {L : List Cb} (h : w.ownsRow base t 4 (.slice (some ⟨g, 0, none⟩) L.length cap) L.length (flat L)) (k : Nat) (hk : k < L.length) (j : Nat) (hj : j < 4) : w.cell? ⟨g, k * 4 + j, none⟩ = (L[k]).cells[j]? :=
  (h.cellAt (k * 4 + j) (by omega)).trans (flat_get L k hk j hj)
theorem own_at {w : World} {base g cap : Nat} {t : TypeId} {L : List Cb} {c : Cb} (h : w.ownsRow base t 4 (.slice (some ⟨g, 0, none⟩) L.length cap) L.length (flat L)) (k : Nat) (hc : L[k]? = some c) (j : Nat) (hj : j < 4) : w.cell? ⟨g, k * 4 + j, none⟩ = c.cells[j]? := by
  obtain ⟨hk, rfl⟩ := List.getElem?_eq_some_iff.1 hc
  exact own_get h k hk j hj
theorem take_count (h l : BitVec 64) (L : List Cb) (k : Nat) (c : Cb) (hc : L[k]? = some c) : cntC h l (L.take (k + 1)) = cntC h l (L.take k) + (c.has h l).toNat := by
  obtain ⟨hk, rfl⟩ := List.getElem?_eq_some_iff.1 hc
  rw [List.take_succ_eq_append_getElem hk, cntC_snoc]
theorem cntC_le (h l : BitVec 64) (L : List Cb) : cntC h l L ≤ L.length := List.length_filter_le _ _
theorem own_form {w : World} {base : Nat} {t : TypeId} {size n : Nat} {v : Value} {xs : List Value} (h : w.ownsRow base t size v n xs) : ∃ A cap, v = .slice A n cap ∧ (0 < n → ∃ g, A = some ⟨g, 0, none⟩) := by
  rcases h.2 with ⟨rfl, rfl⟩ | ⟨g, cap, cur, rfl, _⟩
  · exact ⟨none, 0, rfl, fun h => by omega⟩
  · exact ⟨_, cap, rfl, fun _ => ⟨g, rfl⟩⟩
end Go.Proofs

namespace Go.Proofs.Hd
open Go.RowKit
def Cb.same (a b : Cb) : Bool := (a.vh == b.vh && a.vl == b.vl) && (a.ch == b.ch && a.cl == b.cl)
theorem Cb.same_iff (a b : Cb) : a.same b = true ↔ a = b := by
  cases a; cases b
  simp [Cb.same, and_assoc]
/-- How many bits a cube cares for. -/
def Cb.size (c : Cb) : Nat := cnt c.K 128
theorem cnt_le_of {p q : Nat → Bool} (n : Nat) (h : ∀ j, j < n → p j = true → q j = true) : cnt p n ≤ cnt q n := by
  induction n with
  | zero => exact Nat.le_refl _
  | succ n ih =>
    rw [cnt, cnt]
    have h1 := ih (fun j hj => h j (by omega))
    have h2 := h n (by omega)
    cases hp : p n with
    | false => simp; omega
    | true => rw [h2 hp]; omega
theorem cnt_eq_of {p q : Nat → Bool} (n : Nat) (h : ∀ j, j < n → p j = true → q j = true) (he : cnt p n = cnt q n) : ∀ j, j < n → p j = q j := by
  induction n with
  | zero => intro j hj; omega
  | succ n ih =>
    rw [cnt, cnt] at he
    have h1 := cnt_le_of n (fun j hj => h j (by omega))
    have h2 := h n (by omega)
    have h3 : p n = q n := by
      cases hp : p n with
      | true => rw [h2 hp]
      | false => cases hq : q n with
        | false => rfl
        | true => rw [hp, hq] at he; simp at he; omega
    intro j hj
    by_cases e : j = n
    · subst e; exact h3
    · exact ih (fun j hj => h j (by omega)) (by rw [h3] at he; omega) j (by omega)
theorem wit_size {a b : Cb} (h : a.wit b = true) : b.size ≤ a.size := cnt_le_of 128 ((Cb.wit_iff a b).1 h).2.2.1
theorem cb_ext {a b : Cb} (hv : ∀ j, j < 128 → a.V j = b.V j) (hk : ∀ j, j < 128 → a.K j = b.K j) : a = b := by
  obtain ⟨e1, e2⟩ := head_ext hv
  obtain ⟨e3, e4⟩ := head_ext hk
  cases a; cases b; simp_all
theorem wit_same_size {a b : Cb} (h : a.wit b = true) (he : b.size = a.size) : a = b := by
  obtain ⟨h1, h2, h3, h4⟩ := (Cb.wit_iff a b).1 h
  have hk := cnt_eq_of 128 h3 he
  refine cb_ext (fun j hj => ?_) (fun j hj => (hk j hj).symm)
  cases hb : b.K j with
  | true => exact h4 j hj (h3 j hj hb) hb
  | false =>
    have ha : a.K j = false := by rw [← hk j hj, hb]
    rw [open_V hj h1 ha, open_V hj h2 hb]
theorem wit_has {a b : Cb} (x y : BitVec 64) (h : a.wit b = true) (hh : a.has x y = true) : b.has x y = true := by
  obtain ⟨h1, h2, h3, h4⟩ := (Cb.wit_iff a b).1 h
  rw [Cb.has_iff] at *
  intro j hj
  have g := hh j hj
  cases hb : b.K j with
  | true =>
    have ha := h3 j hj hb
    rw [ha, Bool.and_true] at g
    rw [Bool.and_true, g, h4 j hj ha hb]
  | false => rw [open_V hj h2 hb, Bool.and_false]
/-- Cube a, number i, is not wanted beside cube b, number k. -/
def spareBy (a : Cb) (i : Nat) (b : Cb) (k : Nat) : Bool := (k != i) && (a.wit b && (!a.same b || decide (k < i)))
/-- Number i of L is not wanted. -/
def spare (L : List Cb) (i : Nat) : Bool := (List.range L.length).any fun k => match L[i]?, L[k]? with
  | some a, some b => spareBy a i b k
  | _, _ => false
def leanL (L : List Cb) : List Cb := (List.range L.length).filterMap fun i => if spare L i = true then none else L[i]?
theorem leanL_mem {L : List Cb} {c : Cb} : c ∈ leanL L ↔ ∃ i, L[i]? = some c ∧ spare L i = false := by
  unfold leanL
  rw [List.mem_filterMap]
  constructor
  · rintro ⟨i, _, h⟩
    by_cases hs : spare L i = true
    · rw [if_pos hs] at h; cases h
    · rw [if_neg hs] at h; exact ⟨i, h, by simpa using hs⟩
  · rintro ⟨i, h, hs⟩
    exact ⟨i, List.mem_range.2 (List.getElem?_eq_some_iff.1 h).1, by rw [hs]; simpa using h⟩
theorem spare_iff {L : List Cb} {i : Nat} {a : Cb} (ha : L[i]? = some a) : spare L i = true ↔ ∃ k b, L[k]? = some b ∧ k ≠ i ∧ a.wit b = true ∧ (a ≠ b ∨ k < i) := by
  unfold spare
  rw [List.any_eq_true]
  constructor
  · rintro ⟨k, hk, h⟩
    rw [ha] at h
    cases hb : L[k]? with
    | none => rw [hb] at h; cases h
    | some b =>
      rw [hb] at h
      simp only [spareBy, Bool.and_eq_true, Bool.or_eq_true, bne_iff_ne, ne_eq, Bool.not_eq_true', decide_eq_true_eq] at h
      refine ⟨k, b, hb, h.1, h.2.1, h.2.2.imp (fun e c => ?_) id⟩
      rw [(Cb.same_iff a b).2 c] at e; cases e
  · rintro ⟨k, b, hb, h1, h2, h3⟩
    refine ⟨k, List.mem_range.2 (List.getElem?_eq_some_iff.1 hb).1, ?_⟩
    rw [ha, hb]
    simp only [spareBy, Bool.and_eq_true, Bool.or_eq_true, bne_iff_ne, ne_eq, Bool.not_eq_true', decide_eq_true_eq]
    refine ⟨h1, h2, h3.imp (fun c => ?_) id⟩
    cases e : a.same b with
    | false => rfl
    | true => exact absurd ((Cb.same_iff a b).1 e) c
/-- Each sound cube of a list lies within one that is kept. -/
theorem kept_over {L : List Cb} (s : Nat) : ∀ (i : Nat) (a : Cb), a.size ≤ s → L[i]? = some a → a.snd = true → ∃ b ∈ leanL L, a.wit b = true := by
  induction s with
  | zero =>
    intro i
    induction i using Nat.strongRecOn with
    | ind i ih =>
      intro a hs ha hsnd
      cases hsp : spare L i with
      | false => exact ⟨a, leanL_mem.2 ⟨i, ha, hsp⟩, wit_self hsnd⟩
      | true =>
        obtain ⟨k, b, hb, _, hw, hor⟩ := (spare_iff ha).1 hsp
        have hz := wit_size hw
        have e := wit_same_size hw (by omega)
        subst e
        exact ih k (hor.resolve_left (fun h => h rfl)) a hs hb hsnd
  | succ s ihs =>
    intro i
    induction i using Nat.strongRecOn with
    | ind i ih =>
      intro a hs ha hsnd
      cases hsp : spare L i with
      | false => exact ⟨a, leanL_mem.2 ⟨i, ha, hsp⟩, wit_self hsnd⟩
      | true =>
        obtain ⟨k, b, hb, _, hw, hor⟩ := (spare_iff ha).1 hsp
        have hz := wit_size hw
        by_cases e : a = b
        · subst e
          exact ih k (hor.resolve_left (fun h => h rfl)) a hs hb hsnd
        · have hlt : b.size < a.size := Nat.lt_of_le_of_ne hz (fun c => e (wit_same_size hw c))
          obtain ⟨c, hc, hwc⟩ := ihs k b (by omega) hb ((Cb.wit_iff a b).1 hw).2.1
          exact ⟨c, hc, wit_trans hw hwc⟩
def anyHas (L : List Cb) (x y : BitVec 64) : Bool := L.any fun c => c.has x y
/-- A list of sound cubes has the headers that it has without its spare cubes. -/
theorem lean_has {L : List Cb} (hs : ∀ c ∈ L, c.snd = true) (x y : BitVec 64) : anyHas (leanL L) x y = anyHas L x y := by
  rw [Bool.eq_iff_iff]
  unfold anyHas
  rw [List.any_eq_true, List.any_eq_true]
  constructor
  · rintro ⟨c, hc, h⟩
    obtain ⟨i, hi, _⟩ := leanL_mem.1 hc
    exact ⟨c, List.mem_of_getElem? hi, h⟩
  · rintro ⟨c, hc, h⟩
    obtain ⟨i, hi⟩ := List.mem_iff_getElem?.1 hc
    obtain ⟨b, hb, hw⟩ := kept_over c.size i c (Nat.le_refl _) hi (hs c hc)
    exact ⟨b, hb, wit_has x y hw h⟩
theorem lean_sub {L : List Cb} {c : Cb} (h : c ∈ leanL L) : c ∈ L := by
  obtain ⟨i, hi, _⟩ := leanL_mem.1 h
  exact List.mem_of_getElem? hi
end Go.Proofs.Hd

namespace Go.Proofs.Hd
open Go.RowKit
/-- The four words of a cube lie in block b from place o on. -/
def At4 (w : World) (b o : Nat) (c : Cb) : Prop := w.cell? ⟨b, o, none⟩ = some (.int .u64 (uv c.vh)) ∧ w.cell? ⟨b, o + 1, none⟩ = some (.int .u64 (uv c.vl)) ∧ w.cell? ⟨b, o + 2, none⟩ = some (.int .u64 (uv c.ch)) ∧ w.cell? ⟨b, o + 3, none⟩ = some (.int .u64 (uv c.cl))
theorem At4.on {w w' : World} {b o : Nat} {c : Cb} (h : At4 w b o c) (hb : Below w.heap.size w w') : At4 w' b o c := ⟨on_some hb h.1, on_some hb h.2.1, on_some hb h.2.2.1, on_some hb h.2.2.2⟩
/-- v is a slice that reads as the cubes L. -/
def Pl (w : World) (v : Value) (L : List Cb) : Prop := (L = [] ∧ ∃ A cap, v = .slice A 0 cap) ∨ ∃ b off cap, v = .slice (some ⟨b, off, none⟩) L.length cap ∧ L.length ≤ maxLen ∧ b < w.heap.size ∧ ∀ k c, L[k]? = some c → At4 w b (off + k * 4) c
theorem Pl.on {w w' : World} {v : Value} {L : List Cb} (h : Pl w v L) (hb : Below w.heap.size w w') : Pl w' v L := by
  rcases h with h | ⟨b, off, cap, e, hl, hs, h⟩
  · exact .inl h
  · exact .inr ⟨b, off, cap, e, hl, Nat.lt_of_lt_of_le hs hb.size, fun k c hk => (h k c hk).on hb⟩
/-- What an index says: the first place at which q holds, or -1. -/
def IdxIs {α : Type} (q : α → Bool) (L : List α) (r : Int) : Prop := (r = -1 ∧ ∀ (k : Nat) (c : α), L[k]? = some c → q c = false) ∨ ∃ (k : Nat) (c : α), r = k ∧ L[k]? = some c ∧ q c = true ∧ ∀ (j : Nat) (d : α), j < k → L[j]? = some d → q d = false
theorem IdxIs.ex {α : Type} (q : α → Bool) (L : List α) : ∃ r, IdxIs q L r := by
  by_cases h : ∃ (k : Nat) (c : α), L[k]? = some c ∧ q c = true
  · have : ∃ k : Nat, ∃ c, L[k]? = some c ∧ q c = true := h
    classical
    obtain ⟨k, ⟨c, hc, hq⟩, hmin⟩ : ∃ k : Nat, (∃ c, L[k]? = some c ∧ q c = true) ∧ ∀ j, j < k → ¬ ∃ c, L[j]? = some c ∧ q c = true := by
      obtain ⟨k, hk⟩ := this
      induction k using Nat.strongRecOn with
      | ind k ih =>
        by_cases hj : ∃ j, j < k ∧ ∃ c, L[j]? = some c ∧ q c = true
        · obtain ⟨j, hj, hc⟩ := hj; exact ih j hj hc
        · exact ⟨k, hk, fun j hjk hc => hj ⟨j, hjk, hc⟩⟩
    refine ⟨k, .inr ⟨k, c, rfl, hc, hq, fun j d hj hd => ?_⟩⟩
    cases e : q d with
    | false => rfl
    | true => exact absurd ⟨d, hd, e⟩ (hmin j hj)
  · refine ⟨-1, .inl ⟨rfl, fun k c hc => ?_⟩⟩
    cases e : q c with
    | false => rfl
    | true => exact absurd ⟨k, c, hc, e⟩ h
theorem IdxIs.hit {α : Type} {q : α → Bool} {L : List α} {r : Int} (h : IdxIs q L r) {k : Nat} {c : α} (hc : L[k]? = some c) (hq : q c = true) (hb : ∀ (j : Nat) (d : α), j < k → L[j]? = some d → q d = false) : r = k := by
  rcases h with ⟨_, h⟩ | ⟨k', c', rfl, hc', hq', hb'⟩
  · rw [h k c hc] at hq; cases hq
  · rcases Nat.lt_trichotomy k k' with hlt | rfl | hlt
    · rw [hb' k c hlt hc] at hq; cases hq
    · rfl
    · rw [hb k' c' hlt hc'] at hq'; cases hq'
theorem IdxIs.miss {α : Type} {q : α → Bool} {L : List α} {r : Int} (h : IdxIs q L r) (hb : ∀ (j : Nat) (d : α), L[j]? = some d → q d = false) : r = -1 := by
  rcases h with ⟨e, _⟩ | ⟨k', c', rfl, hc', hq', hb'⟩
  · exact e
  · rw [hb k' c' hc'] at hq'; cases hq'
theorem IdxIs.any {α : Type} {q : α → Bool} {L : List α} {r : Int} (h : IdxIs q L r) : L.any q = decide (0 ≤ r) := by
  rcases h with ⟨rfl, h⟩ | ⟨k', c', rfl, hc', hq', hb'⟩
  · rw [show decide ((0 : Int) ≤ -1) = false by decide, List.any_eq_false]
    intro c hc
    obtain ⟨k, hk⟩ := List.mem_iff_getElem?.1 hc
    rw [h k c hk]; simp
  · rw [show decide ((0 : Int) ≤ (k' : Int)) = true by simp, List.any_eq_true]
    exact ⟨c', List.mem_of_getElem? hc', hq'⟩
end Go.Proofs.Hd
namespace Go.Proofs
open Go.RowKit Go.Proofs.Hd Go.Shelf Go.Lib
attribute [local go_sem] uv_nonneg

/-- Is a list of cubes sound? -/
def sndL (L : List Cb) : Bool := decide (L.length ≤ 200) && L.all Cb.snd
theorem any_not (L : List Cb) : (L.any fun c => !c.snd) = !L.all Cb.snd := by induction L <;> simp_all
end Go.Proofs

namespace Go.Proofs.Ytgoieipchhamgaa
open Go.ChangeShapes Go.WideShapes Go.ChangeAt Go.RowKit Go.Joins Go.Deep Go.Proofs.Hd
theorem four_at {w : World} {b off n : Nat} {c : Cb} (h : Four w ((⟨b, off, none⟩ : Addr).add n) c) : At4 w b (off + n) c := by
  obtain ⟨h0, h1, h2, h3⟩ := h
  have e : (⟨b, off, none⟩ : Addr).add n = ⟨b, off + n, none⟩ := by unfold Addr.add; by_cases hn : n = 0 <;> simp [hn]
  rw [e] at h0 h1 h2 h3
  exact ⟨by simpa [Addr.add] using h0, by simpa [Addr.add] using h1, by simpa [Addr.add] using h2, by simpa [Addr.add] using h3⟩
set_option maxRecDepth 100000 in
theorem open_pl {H : Type} {enc : TypeId × Value → H} {W : World} {base : Nat} {v : Value} {d : DataW H} {p : List MemPlace} (hok : Value.okWide Try.prog W .any base 48 v)
    (h0 : DataW.Trod enc Try.prog W 0 (fun _ => true) true 48 v d p) : ∃ (A : Option Addr) (cap : Nat) (L : List Cb), v = .slice A L.length cap ∧ L.length ≤ cap ∧ cap ≤ maxLen ∧ Pl W v L := by
  rcases open_cubes hok h0 with rfl | ⟨a, cap, L, rfl, hl, hm, hc⟩
  · exact ⟨none, 0, [], rfl, Nat.le_refl _, Nat.zero_le _, .inl ⟨rfl, none, 0, rfl⟩⟩
  · refine ⟨some a, cap, L, rfl, hl, hm, ?_⟩
    cases L with
    | nil => exact .inl ⟨rfl, some a, cap, rfl⟩
    | cons c L =>
      have h1 := hc 0 c rfl
      obtain ⟨b, off, spot⟩ := a
      have hs : spot = none := by
        have := World.cell?_spot h1.1
        simpa [Addr.add] using this
      subst hs
      refine .inr ⟨b, off, cap, rfl, Nat.le_trans hl hm, ?_, fun k d hk => four_at (hc k d hk)⟩
      have := h1.block
      simpa [Addr.add] using this
set_option maxRecDepth 100000 in
/-- How long the datum of such a slice is. -/
theorem open_len {H : Type} {enc : TypeId × Value → H} {W : World} {base : Nat} {v : Value} {d : DataW H} {p : List MemPlace} (hok : Value.okWide Try.prog W .any base 48 v)
    (h0 : DataW.Trod enc Try.prog W 0 (fun _ => true) true 48 v d p) : ∀ (A : Option Addr) (n cap : Nat), v = .slice A n cap → n = 0 ∨ ∃ el sp, d = .slice el sp ∧ el.length = n := by
  intro A n cap e
  obtain ⟨fuel, hf⟩ := h0
  obtain ⟨va, vl, vc, rfl⟩ := okWide_slice Try.underlying48 hok
  injection e with e1 e2 e3
  subst e1 e2 e3
  rcases open_slice Try.underlying48 hf with ⟨h1, _⟩ | ⟨a, len, cap, m, n, D, Pl, hcs, _, hlc, hcm, hm, hx, hel⟩
  · left
    have : va = none ∧ vl = 0 ∧ vc = 0 := by simpa [Value.cells] using h1
    exact this.2.1
  · right
    have hv : va = some a ∧ vl = len ∧ vc = cap := by simpa [Value.cells] using hcs
    obtain ⟨rfl, rfl, rfl⟩ := hv
    have hd := congrArg Prod.fst hx
    exact ⟨_, _, hd, by simp⟩
end Go.Proofs.Ytgoieipchhamgaa
