/-
  Plain facts on worlds: blocks known whole, rows that a call owns, appending what lies anywhere to such a row. No program in sight. No conditions.
  Contracts of package cube: Sound, Has, Make, All, Set, agree, withBit: what they return, and that they change nothing that was there. No conditions.
  Contracts of package cube: Meet, Within, Before, After: what they return, and that they change nothing that was there. Conditions as each theorem lists them.
  Contracts of package cube: Within: what they return, and that they change nothing that was there. Conditions as each theorem lists them.
  Contract of math/bits.LeadingZeros64, out of the library's own contract, which is proved over any program: the function's bodies are compared by the kernel. No conditions.
  Contract of cube.highest: the header with the highest bit alone. No conditions.
  What memory holds at the head of the loop of cube.Less, and how it is carried on: plain facts on worlds. No conditions.
-/
import Derived.Test.YtpmgbofnikmhgaaGreatJ1
import Derived.Deep.AppendLies
import Derived.Laws.OwnMore
import Derived.OneCell
import Derived.Deep.Onto
import Derived.Maps.AppendAt
import Derived.Laws.AppendOwnNone
import Derived.BigFrame
import Derived.Lib.AppendStr
import Derived.Lib.AppendZeros
import Derived.Deep.RegionWith
import Derived.Shelf.Small.Bits
import Derived.Shelf.Strconv.Itoa0
import Derived.Test.YtpmgbofnikmhgaaGreatProg
import Derived.Lib.Hide
namespace Go.Proofs
open Go.RowKit
theorem below1 (w : World) (o : Obj) : Below w.heap.size w (w.alloc o) := (Below.refl _ _).alloc (Nat.le_refl _) _
theorem below2 (w : World) (o p : Obj) : Below w.heap.size w ((w.alloc o).alloc p) := (below1 w o).alloc (by simp) _
theorem below3 (w : World) (o p q : Obj) : Below w.heap.size w (((w.alloc o).alloc p).alloc q) := (below2 w o p).alloc (by simp; omega) _
theorem below4 (w : World) (o p q r : Obj) : Below w.heap.size w ((((w.alloc o).alloc p).alloc q).alloc r) := (below3 w o p q).alloc (by simp; omega) _
end Go.Proofs
namespace Go.Proofs.Hd
open Go.RowKit
theorem grown_of_below {w w' : World} (hb : Below w.heap.size w w') (row : Option Nat) : w.grownBy w' row := ⟨hb.os, hb.tape, hb.output, hb.size, fun k hk _ => hb.block k hk⟩
theorem own_on {w w' : World} {base : Nat} {e : TypeId} {size : Nat} {v : Value} {n : Nat} {xs : List Value} (h : w.ownsRow base e size v n xs) (hb : Below w.heap.size w w') : w'.ownsRow base e size v n xs := by
  refine h.kept (grown_of_below hb none) ?_
  cases v.ownBlock with
  | none => exact .inl rfl
  | some k => exact .inr (by simp)
/-- Block g is just these cells, and may be written. -/
def Blk (w : World) (g : Nat) (t : TypeId) (cs : Array Value) : Prop := w.heap[g]? = some (.cells cs t (0, 0))
theorem Blk.lt {w : World} {g : Nat} {t : TypeId} {cs : Array Value} (h : Blk w g t cs) : g < w.heap.size := by
  rcases Nat.lt_or_ge g w.heap.size with hlt | hge
  · exact hlt
  · unfold Blk at h; rw [Array.getElem?_eq_none hge] at h; cases h
theorem Blk.cell {w : World} {g : Nat} {t : TypeId} {cs : Array Value} (h : Blk w g t cs) (i : Nat) : w.cell? ⟨g, i, none⟩ = cs[i]? := cell_of_row w g i cs t (0, 0) h
theorem Blk.free {w : World} {g : Nat} {t : TypeId} {cs : Array Value} (h : Blk w g t cs) (i : Nat) : w.frozen? ⟨g, i, none⟩ = false := by
  unfold Blk at h; simp [World.frozen?, h]
theorem Blk.on {w w' : World} {g : Nat} {t : TypeId} {cs : Array Value} (h : Blk w g t cs) (hb : Below w.heap.size w w') : Blk w' g t cs := (hb.block g h.lt).trans h
theorem Blk.new (w : World) (t : TypeId) (cs : Array Value) : Blk (w.alloc (.cells cs t)) w.heap.size t cs := heap_alloc_new w _
theorem Blk.far {w : World} {g : Nat} {t : TypeId} {cs : Array Value} (h : Blk w g t cs) {p : Addr} (hp : g ≠ p.block) (u : Value) : Blk (w.setCell p u) g t cs := (Below.heap_setCell w p u g hp).trans h
theorem Blk.set {w : World} {g : Nat} {t : TypeId} {cs : Array Value} (h : Blk w g t cs) (i : Nat) (u : Value) : Blk (w.setCell ⟨g, i, none⟩ u) g t (cs.setIfInBounds i u) := by
  unfold Blk at h ⊢; simp [World.setCell, Array.getElem?_modify, h]
theorem Blk.grown {w w' : World} {g : Nat} {t : TypeId} {cs : Array Value} {row : Option Nat} (h : Blk w g t cs) (hb : w.grownBy w' row) (hg : some g ≠ row) : Blk w' g t cs := (hb.block g h.lt hg).trans h
/-- A row that is owned and a block of another element type are apart. -/
theorem own_apart {w : World} {base : Nat} {e t : TypeId} {size n g : Nat} {v : Value} {xs : List Value} {cs : Array Value} (h : w.ownsRow base e size v n xs) (hg : Blk w g t cs) (hne : e ≠ t) : some g ≠ v.ownBlock := by
  rcases h.2 with ⟨rfl, _⟩ | ⟨g', cap, cur, rfl, _, hh, _⟩
  · simp [Value.ownBlock]
  · intro he
    have e1 : g = g' := by simpa [Value.ownBlock] using he
    subst e1
    unfold Blk at hg
    rw [hh] at hg
    injection hg with hg
    injection hg with _ ht
    exact hne ht
theorem own_base {w : World} {base : Nat} {e : TypeId} {size n g : Nat} {v : Value} {xs : List Value} (h : w.ownsRow base e size v n xs) (hg : g < base) : some g ≠ v.ownBlock := by
  intro he
  have := (h.lt g he.symm).1
  omega
/-- Block g holds cells of type t. -/
def TB (w : World) (g : Nat) (t : TypeId) : Prop := ∃ cs fr, w.heap[g]? = some (.cells cs t fr)
theorem TB.lt {w : World} {g : Nat} {t : TypeId} (h : TB w g t) : g < w.heap.size := by
  obtain ⟨cs, fr, h⟩ := h
  rcases Nat.lt_or_ge g w.heap.size with hlt | hge
  · exact hlt
  · rw [Array.getElem?_eq_none hge] at h; cases h
theorem TB.on {w w' : World} {g : Nat} {t : TypeId} (h : TB w g t) (hb : Below w.heap.size w w') : TB w' g t := by
  obtain ⟨cs, fr, e⟩ := h
  exact ⟨cs, fr, (hb.block g (TB.lt ⟨cs, fr, e⟩)).trans e⟩
theorem TB.grown {w w' : World} {g : Nat} {t : TypeId} {row : Option Nat} (h : TB w g t) (hb : w.grownBy w' row) (hg : some g ≠ row) : TB w' g t := by
  obtain ⟨cs, fr, e⟩ := h
  exact ⟨cs, fr, (hb.block g (TB.lt ⟨cs, fr, e⟩) hg).trans e⟩
theorem TB.set {w : World} {g i : Nat} {t : TypeId} {v : Value} (h : TB w g t) : TB (w.setCell ⟨g, i, none⟩ v) g t := by
  obtain ⟨cs, fr, e⟩ := h
  refine ⟨cs.setIfInBounds i v, fr, ?_⟩
  simp [World.setCell, Array.getElem?_modify, e]
theorem own_apartT {w : World} {base : Nat} {e t : TypeId} {size n g : Nat} {v : Value} {xs : List Value} (h : w.ownsRow base e size v n xs) (hg : TB w g t) (hne : e ≠ t) : some g ≠ v.ownBlock := by
  rcases h.2 with ⟨rfl, _⟩ | ⟨g', cap, cur, rfl, _, hh, _⟩
  · simp [Value.ownBlock]
  · intro he
    have e1 : g = g' := by simpa [Value.ownBlock] using he
    subst e1
    obtain ⟨cs, fr, hg⟩ := hg
    rw [hh] at hg
    injection hg with hg
    injection hg with _ ht
    exact hne ht
/-- v is a slice of m elements of 'size' cells each that reads as the cells 'news'. -/
def Src (w : World) (size : Nat) (v : Value) (m : Nat) (news : List Value) : Prop :=
  news.length = m * size ∧ (∀ u ∈ news, u.oneCell' = true) ∧ ((m = 0 ∧ ∃ c, v = .slice none 0 c) ∨ ∃ ad c, v = .slice (some ad) m c ∧ ∀ (j : Nat) (u : Value), news[j]? = some u → w.cell? (ad.add j) = some u)
section
variable {P : Program} (w : World)
theorem run_app (base : Nat) (t ty e : TypeId) (i : TypeInfo) (z : Value) (size bytes : Nat) (ht : P.underlying t = some (.slice e)) (hi : P.info? e = some i) (hz : i.zero = some z)
    (hsize : i.size = size) (hby : i.bytes = bytes) (hzs : z.cells.size = size) (hsz : 0 < size) (v : Value) (n : Nat) (xs : List Value) (hown : w.ownsRow base e size v n xs)
    (x : Value) (m : Nat) (news : List Value) (hx : Src w size x m news) (h63 : n + m ≤ maxLen) (hbytes : (n + m) * bytes ≤ 140737488355328) (hbase : base ≤ w.heap.size) :
    ∃ v' w', (Builtin.append_ #[t, t] ty #[v, x]).run P w = .ok v' w' ∧ w'.ownsRow base e size v' (n + m) (xs ++ news) ∧ w.grownBy w' v.ownBlock := by
  obtain ⟨hl, h1, ⟨rfl, c, rfl⟩ | ⟨ad, c, rfl, hc⟩⟩ := hx
  · obtain rfl : news = [] := List.eq_nil_of_length_eq_zero (by simpa using hl)
    refine ⟨v, w, ?_, by simpa using hown, World.grownBy.refl w _⟩
    rcases hown.2 with ⟨rfl, rfl⟩ | ⟨g, cap, cur, rfl, _, _, hnc, _⟩
    · simp [Builtin.append_, run_underlying ht, sizeOf, typeInfo, hi, Builtin.lenOf, Builtin.firstCells]
    · simp [Builtin.append_, run_underlying ht, sizeOf, typeInfo, hi, Builtin.lenOf, Builtin.firstCells, hnc, storeCells]
  · obtain ⟨v', w', hr, h2, h3, _, _⟩ := run_append_own_at (P := P) w base t ty e i z size bytes ht hi hz hsize hby hzs hsz v n xs hown ad m c news hl hc h1 h63 hbytes hbase
    exact ⟨v', w', hr, h2, h3⟩
theorem wp_app {o : Oper} {a : Act} {K : Act → World → Prop} {Q : Exit → Act → World → Prop} (s x : Operand) (t : TypeId)
    (ho : o.op = .call { callee := .builtin .append, args := #[s, x], argTypes := #[t, t] }) (base : Nat) (e : TypeId) (i : TypeInfo) (z : Value) (size bytes : Nat) (ht : P.underlying t = some (.slice e)) (hi : P.info? e = some i) (hz : i.zero = some z)
    (hsize : i.size = size) (hby : i.bytes = bytes) (hzs : z.cells.size = size) (hsz : 0 < size) (v : Value) (n : Nat) (xs : List Value) (hs : a.eval s = v) (hown : w.ownsRow base e size v n xs)
    (y : Value) (m : Nat) (news : List Value) (hy : a.eval x = y) (hx : Src w size y m news) (h63 : n + m ≤ maxLen) (hbytes : (n + m) * bytes ≤ 140737488355328) (hbase : base ≤ w.heap.size)
    (h : ∀ v' w', w'.ownsRow base e size v' (n + m) (xs ++ news) → w.grownBy w' v.ownBlock → K (a.put o.dst v') w') : o.wp P a w K Q := by
  obtain ⟨v', w', hr, h2, h3⟩ := run_app (P := P) w base t o.type e i z size bytes ht hi hz hsize hby hzs hsz v n xs hown y m news hx h63 hbytes hbase
  exact Lib.wp_append_run w s x t t ho v y hs hy v' w' hr (h v' w' h2 h3)
theorem wpList_app {ops : Array Oper} {rest : List Oper} {o : Oper} {a : Act} {Q : Exit → Act → World → Prop} (hgd : o.guard = none) (s x : Operand) (t : TypeId)
    (ho : o.op = .call { callee := .builtin .append, args := #[s, x], argTypes := #[t, t] }) (base : Nat) (e : TypeId) (i : TypeInfo) (z : Value) (size bytes : Nat) (ht : P.underlying t = some (.slice e)) (hi : P.info? e = some i) (hz : i.zero = some z)
    (hsize : i.size = size) (hby : i.bytes = bytes) (hzs : z.cells.size = size) (hsz : 0 < size) (v : Value) (n : Nat) (xs : List Value) (hs : a.eval s = v) (hown : w.ownsRow base e size v n xs)
    (y : Value) (m : Nat) (news : List Value) (hy : a.eval x = y) (hx : Src w size y m news) (h63 : n + m ≤ maxLen) (hbytes : (n + m) * bytes ≤ 140737488355328) (hbase : base ≤ w.heap.size)
    (h : ∀ v' w', w'.ownsRow base e size v' (n + m) (xs ++ news) → w.grownBy w' v.ownBlock → wpList P ops Q rest (a.put o.dst v') w') : wpList P ops Q (o :: rest) a w :=
  wpList_plain hgd fun _ hK => wp_app w s x t ho base e i z size bytes ht hi hz hsize hby hzs hsz v n xs hs hown y m news hy hx h63 hbytes hbase fun v' w' h2 h3 => hK _ _ (h v' w' h2 h3)
end
section
variable {P : Program} (w : World)
theorem step_app {ops : Array Oper} {o : Oper} {a : Act} {K : Act → World → Prop} {Q : Exit → Act → World → Prop} {E : Prop} (hgd : o.guard = none) (s x : Operand) (t : TypeId)
    (ho : o.op = .call { callee := .builtin .append, args := #[s, x], argTypes := #[t, t] }) (base : Nat) (e : TypeId) (i : TypeInfo) (z : Value) (size bytes : Nat) (ht : P.underlying t = some (.slice e)) (hi : P.info? e = some i) (hz : i.zero = some z)
    (hsize : i.size = size) (hby : i.bytes = bytes) (hzs : z.cells.size = size) (hsz : 0 < size) (v : Value) (n : Nat) (xs : List Value) (hs : a.eval s = v) (hown : w.ownsRow base e size v n xs)
    (y : Value) (m : Nat) (news : List Value) (hy : a.eval x = y) (hx : Src w size y m news) (h63 : n + m ≤ maxLen) (hbytes : (n + m) * bytes ≤ 140737488355328) (hbase : base ≤ w.heap.size)
    (h : ∀ v' w', w'.ownsRow base e size v' (n + m) (xs ++ news) → w.grownBy w' v.ownBlock → K (a.put o.dst v') w') :
    if Region.wanted o (yielded ops a.tmps) = true then Oper.wp P o a w K Q else E := by
  have hw : Region.wanted o (yielded ops a.tmps) = true := by simp [Region.wanted, hgd]
  rw [if_pos hw]
  exact wp_app w s x t ho base e i z size bytes ht hi hz hsize hby hzs hsz v n xs hs hown y m news hy hx h63 hbytes hbase h
end
theorem wpList_appW {P : Program} (w : World) {ops : Array Oper} {rest : List Oper} {o : Oper} {a : Act} {Q : Exit → Act → World → Prop} (hw : Region.wanted o (yielded ops a.tmps) = true) (s x : Operand) (t : TypeId)
    (ho : o.op = .call { callee := .builtin .append, args := #[s, x], argTypes := #[t, t] }) (base : Nat) (e : TypeId) (i : TypeInfo) (z : Value) (size bytes : Nat) (ht : P.underlying t = some (.slice e)) (hi : P.info? e = some i) (hz : i.zero = some z)
    (hsize : i.size = size) (hby : i.bytes = bytes) (hzs : z.cells.size = size) (hsz : 0 < size) (v : Value) (n : Nat) (xs : List Value) (hs : a.eval s = v) (hown : w.ownsRow base e size v n xs)
    (y : Value) (m : Nat) (news : List Value) (hy : a.eval x = y) (hx : Src w size y m news) (h63 : n + m ≤ maxLen) (hbytes : (n + m) * bytes ≤ 140737488355328) (hbase : base ≤ w.heap.size)
    (h : ∀ v' w', w'.ownsRow base e size v' (n + m) (xs ++ news) → w.grownBy w' v.ownBlock → wpList P ops Q rest (a.put o.dst v') w') : wpList P ops Q (o :: rest) a w :=
  BigFrame.wpList_want hw fun _ hK => wp_app w s x t ho base e i z size bytes ht hi hz hsize hby hzs hsz v n xs hs hown y m news hy hx h63 hbytes hbase fun v' w' h2 h3 => hK _ _ (h v' w' h2 h3)
end Go.Proofs.Hd

namespace Go.Proofs
open Go.RowKit Go.Proofs.Hd
attribute [local go_sem] uv_and uv_or uv_xor uv_andNot uv_shr uv_shl uv_add uv_sub uv_nonneg

theorem run_eq2 (w : World) (a b c d : Int) : (Op.equalIn 10000 25 (.agg #[.int .u64 a, .int .u64 b]) (.agg #[.int .u64 c, .int .u64 d])).run Tryz.prog w = .ok (eq2 a b c d) w := by
  unfold eq2
  cases h1 : a == c <;> cases h2 : b == d <;> go_simp
theorem run_eq4 (w : World) (a b c d e f g h : Int) : (Op.equalIn 10000 53 (.agg #[.int .u64 a, .int .u64 b, .int .u64 c, .int .u64 d]) (.agg #[.int .u64 e, .int .u64 f, .int .u64 g, .int .u64 h])).run Tryz.prog w = .ok (eq4 a b c d e f g h) w := by
  unfold eq4
  cases h1 : a == e <;> cases h2 : b == f <;> cases h3 : c == g <;> cases h4 : d == h <;> go_simp
attribute [local go_sem high] run_eq2 run_eq4
theorem zero4_new (w : World) : Zero4 (w.alloc (.cells #[.int .u64 0, .int .u64 0, .int .u64 0, .int .u64 0] 53)) w.heap.size := by
  intro i hi
  rcases (show i = 0 ∨ i = 1 ∨ i = 2 ∨ i = 3 by omega) with rfl | rfl | rfl | rfl <;> simp
theorem zero2_new (w : World) : Zero2 (w.alloc (.cells #[.int .u64 0, .int .u64 0] 25)) w.heap.size := by
  intro i hi
  rcases (show i = 0 ∨ i = 1 by omega) with rfl | rfl <;> simp
theorem zero4_at (w : World) (r : Nat) (h : r = w.heap.size) : Zero4 (w.alloc (.cells #[.int .u64 0, .int .u64 0, .int .u64 0, .int .u64 0] 53)).drew r := by
  subst h; exact fun i hi => zero4_new w i hi
theorem zero2_at (w : World) (r : Nat) (h : r = w.heap.size) : Zero2 (w.alloc (.cells #[.int .u64 0, .int .u64 0] 25)).drew r := by
  subst h; exact fun i hi => zero2_new w i hi

theorem all_c (w : World) : Calls Tryz.prog 30 #[] w fun e w' => e = .returned (.agg #[.int .u64 0, .int .u64 0, .int .u64 0, .int .u64 0]) ∧ Below w.heap.size w w' := by
  go_enter Tryz.func30, Tryz.ntmps30
  go_wp2
  exact bodyPost_ret (v := .agg #[.int .u64 0, .int .u64 0, .int .u64 0, .int .u64 0]) (by simp [results, Tryz.results30, go_sem]) rfl ⟨rfl, below1 _ _⟩

set_option maxHeartbeats 1000000 in
theorem sound_c (cvh cvl cch ccl : BitVec 64) (w : World) : Calls Tryz.prog 27 #[.agg #[.int .u64 (uv cvh), .int .u64 (uv cvl), .int .u64 (uv cch), .int .u64 (uv ccl)]] w fun e w' => e = .returned (.bool (sndB cvh cvl cch ccl)) ∧ Below w.heap.size w w' := by
  have S0 := below1 w (.cells #[.int .u64 (uv cvh), .int .u64 (uv cvl), .int .u64 (uv cch), .int .u64 (uv ccl)] 53)
  go_enter Tryz.func27, Tryz.ntmps27
  go_wp2_with fail
  go_region_held3 (fun w' => Below w.heap.size w w' ∧ w'.cell? ⟨w.heap.size, 0, none⟩ = some (.int .u64 (uv cvh)) ∧ w'.cell? ⟨w.heap.size, 1, none⟩ = some (.int .u64 (uv cvl)) ∧ w'.cell? ⟨w.heap.size, 2, none⟩ = some (.int .u64 (uv cch)) ∧ w'.cell? ⟨w.heap.size, 3, none⟩ = some (.int .u64 (uv ccl)))
    (first
      | exact hold4 (by assumption) (by assumption)
      | exact ⟨S0.drew, by go_simp, by go_simp, by go_simp, by go_simp⟩)
    (first
      | (go_at_call 48; (with_reducible refine (and_c _ _ _ _ _).mono ?_); rintro e w' ⟨rfl, hb⟩))
  go_wp2
  go_ret
  exact ⟨ret_bool (sndB_eq _ _ _ _), And.left (by assumption)⟩

set_option maxHeartbeats 1000000 in
theorem has_c (cvh cvl cch ccl hh hl : BitVec 64) (w : World) : Calls Tryz.prog 54 #[.agg #[.int .u64 (uv cvh), .int .u64 (uv cvl), .int .u64 (uv cch), .int .u64 (uv ccl)], .agg #[.int .u64 (uv hh), .int .u64 (uv hl)]] w fun e w' => e = .returned (.bool (hasB cvh cvl cch ccl hh hl)) ∧ Below w.heap.size w w' := by
  have S0 := below2 w (.cells #[.int .u64 (uv cvh), .int .u64 (uv cvl), .int .u64 (uv cch), .int .u64 (uv ccl)] 53) (.cells #[.int .u64 (uv hh), .int .u64 (uv hl)] 25)
  go_enter Tryz.func54, Tryz.ntmps54
  go_wp2_with fail
  go_region_held3 (fun w' => Below w.heap.size w w' ∧ w'.cell? ⟨w.heap.size, 0, none⟩ = some (.int .u64 (uv cvh)) ∧ w'.cell? ⟨w.heap.size, 1, none⟩ = some (.int .u64 (uv cvl)) ∧ w'.cell? ⟨w.heap.size, 2, none⟩ = some (.int .u64 (uv cch)) ∧ w'.cell? ⟨w.heap.size, 3, none⟩ = some (.int .u64 (uv ccl)) ∧ w'.cell? ⟨w.heap.size + 1, 0, none⟩ = some (.int .u64 (uv hh)) ∧ w'.cell? ⟨w.heap.size + 1, 1, none⟩ = some (.int .u64 (uv hl)))
    (first
      | exact hold6 (by assumption) (by assumption)
      | exact ⟨S0.drew, by go_simp, by go_simp, by go_simp, by go_simp, by go_simp, by go_simp⟩)
    (first
      | (go_at_call 48; (with_reducible refine (and_c _ _ _ _ _).mono ?_); rintro e w' ⟨rfl, hb⟩))
  go_wp2
  go_ret
  exact ⟨ret_bool (hasB_eq _ _ _ _ _ _), And.left (by assumption)⟩

set_option maxHeartbeats 1000000 in
theorem withBit_c (cvh cvl cch ccl bh bl vh vl : BitVec 64) (w : World) : Calls Tryz.prog 121 #[.agg #[.int .u64 (uv cvh), .int .u64 (uv cvl), .int .u64 (uv cch), .int .u64 (uv ccl)], .agg #[.int .u64 (uv bh), .int .u64 (uv bl)], .agg #[.int .u64 (uv vh), .int .u64 (uv vl)]] w fun e w' => e = .returned (.agg #[.int .u64 (uv (cvh ||| vh)), .int .u64 (uv (cvl ||| vl)), .int .u64 (uv (cch ||| bh)), .int .u64 (uv (ccl ||| bl))]) ∧ Below w.heap.size w w' := by
  have S0 := below4 w (.cells #[.int .u64 (uv cvh), .int .u64 (uv cvl), .int .u64 (uv cch), .int .u64 (uv ccl)] 53) (.cells #[.int .u64 (uv bh), .int .u64 (uv bl)] 25) (.cells #[.int .u64 (uv vh), .int .u64 (uv vl)] 25) (.cells #[.int .u64 0, .int .u64 0, .int .u64 0, .int .u64 0] 53)
  have Z0 := zero4_at (((w.alloc (.cells #[.int .u64 (uv cvh), .int .u64 (uv cvl), .int .u64 (uv cch), .int .u64 (uv ccl)] 53)).alloc (.cells #[.int .u64 (uv bh), .int .u64 (uv bl)] 25)).alloc (.cells #[.int .u64 (uv vh), .int .u64 (uv vl)] 25)) (w.heap.size + 1 + 1 + 1) (by simp)
  go_enter Tryz.func121, Tryz.ntmps121
  go_wp2_with fail
  go_region_held3 (fun w' => Below w.heap.size w w' ∧ w'.cell? ⟨w.heap.size, 0, none⟩ = some (.int .u64 (uv cvh)) ∧ w'.cell? ⟨w.heap.size, 1, none⟩ = some (.int .u64 (uv cvl)) ∧ w'.cell? ⟨w.heap.size, 2, none⟩ = some (.int .u64 (uv cch)) ∧ w'.cell? ⟨w.heap.size, 3, none⟩ = some (.int .u64 (uv ccl)) ∧ w'.cell? ⟨w.heap.size + 1, 0, none⟩ = some (.int .u64 (uv bh)) ∧ w'.cell? ⟨w.heap.size + 1, 1, none⟩ = some (.int .u64 (uv bl)) ∧ w'.cell? ⟨w.heap.size + 1 + 1, 0, none⟩ = some (.int .u64 (uv vh)) ∧ w'.cell? ⟨w.heap.size + 1 + 1, 1, none⟩ = some (.int .u64 (uv vl)))
    (first
      | exact hold8 (by assumption) (by assumption)
      | exact shold8 (sets4 _ _ _ _ _ _) (by assumption) (by omega) (by first | omega | (simp; done) | (simp; omega)) (by first | omega | (simp; done) | (simp; omega)) (by first | omega | (simp; done) | (simp; omega)) (by first | omega | (simp; done) | (simp; omega)) (by first | omega | (simp; done) | (simp; omega)) (by first | omega | (simp; done) | (simp; omega)) (by first | omega | (simp; done) | (simp; omega)) (by first | omega | (simp; done) | (simp; omega))
      | exact ⟨S0.drew, by go_simp, by go_simp, by go_simp, by go_simp, by go_simp, by go_simp, by go_simp, by go_simp⟩)
    (first
      | (go_at_call 86; (with_reducible refine (or_c _ _ _ _ _).mono ?_); rintro e w' ⟨rfl, hb⟩; have Z := Zero4.on hb (by assumption); obtain ⟨z0, y0, z1, y1, z2, y2, z3, y3⟩ := Z.out))
  go_wp2
  exact bodyPost_ret (v := .agg #[.int .u64 (uv (cvh ||| vh)), .int .u64 (uv (cvl ||| vl)), .int .u64 (uv (cch ||| bh)), .int .u64 (uv (ccl ||| bl))]) (by simp [results, Tryz.results121, go_sem, z0, z1, z2, z3]) rfl ⟨rfl, And.left (by assumption)⟩

set_option maxHeartbeats 1000000 in
theorem agree_c (avh avl ach acl bvh bvl bch bcl : BitVec 64) (w : World) : Calls Tryz.prog 85 #[.agg #[.int .u64 (uv avh), .int .u64 (uv avl), .int .u64 (uv ach), .int .u64 (uv acl)], .agg #[.int .u64 (uv bvh), .int .u64 (uv bvl), .int .u64 (uv bch), .int .u64 (uv bcl)]] w fun e w' => e = .returned (.bool (agrB avh avl ach acl bvh bvl bch bcl)) ∧ Below w.heap.size w w' := by
  have S0 := below2 w (.cells #[.int .u64 (uv avh), .int .u64 (uv avl), .int .u64 (uv ach), .int .u64 (uv acl)] 53) (.cells #[.int .u64 (uv bvh), .int .u64 (uv bvl), .int .u64 (uv bch), .int .u64 (uv bcl)] 53)
  go_enter Tryz.func85, Tryz.ntmps85
  go_wp2_with fail
  (with_reducible refine (and_c _ _ _ _ _).mono ?_)
  rintro e w1 ⟨rfl, hb1⟩
  have S1 : Below w.heap.size w w1 ∧ w1.cell? ⟨w.heap.size, 0, none⟩ = some (.int .u64 (uv avh)) ∧ w1.cell? ⟨w.heap.size, 1, none⟩ = some (.int .u64 (uv avl)) ∧ w1.cell? ⟨w.heap.size, 2, none⟩ = some (.int .u64 (uv ach)) ∧ w1.cell? ⟨w.heap.size, 3, none⟩ = some (.int .u64 (uv acl)) ∧ w1.cell? ⟨w.heap.size + 1, 0, none⟩ = some (.int .u64 (uv bvh)) ∧ w1.cell? ⟨w.heap.size + 1, 1, none⟩ = some (.int .u64 (uv bvl)) ∧ w1.cell? ⟨w.heap.size + 1, 2, none⟩ = some (.int .u64 (uv bch)) ∧ w1.cell? ⟨w.heap.size + 1, 3, none⟩ = some (.int .u64 (uv bcl)) := hold8 hb1 ⟨S0, by go_simp, by go_simp, by go_simp, by go_simp, by go_simp, by go_simp, by go_simp, by go_simp⟩
  clear hb1 S0
  obtain ⟨B1, a0, a1, a2, a3, b0, b1, b2, b3⟩ := S1
  have hz := B1.size
  have hz1 : w.heap.size + 1 < w1.heap.size := World.block_lt_of_cell? w1 _ b0
  have hz0 : w.heap.size < w1.heap.size := by omega
  have B2 := B1.alloc hz (.cells #[.int .u64 (uv (ach &&& bch)), .int .u64 (uv (acl &&& bcl))] 25)
  go_wp2_with fail
  go_region_held3 (fun w' => Below w.heap.size w w' ∧ w'.cell? ⟨w.heap.size, 0, none⟩ = some (.int .u64 (uv avh)) ∧ w'.cell? ⟨w.heap.size, 1, none⟩ = some (.int .u64 (uv avl)) ∧ w'.cell? ⟨w.heap.size, 2, none⟩ = some (.int .u64 (uv ach)) ∧ w'.cell? ⟨w.heap.size, 3, none⟩ = some (.int .u64 (uv acl)) ∧ w'.cell? ⟨w.heap.size + 1, 0, none⟩ = some (.int .u64 (uv bvh)) ∧ w'.cell? ⟨w.heap.size + 1, 1, none⟩ = some (.int .u64 (uv bvl)) ∧ w'.cell? ⟨w.heap.size + 1, 2, none⟩ = some (.int .u64 (uv bch)) ∧ w'.cell? ⟨w.heap.size + 1, 3, none⟩ = some (.int .u64 (uv bcl)) ∧ w'.cell? ⟨w1.heap.size, 0, none⟩ = some (.int .u64 (uv (ach &&& bch))) ∧ w'.cell? ⟨w1.heap.size, 1, none⟩ = some (.int .u64 (uv (acl &&& bcl))))
    (first
      | exact hold10 (by assumption) (by assumption)
      | exact ⟨B2.drew, by go_simp, by go_simp, by go_simp, by go_simp, by go_simp, by go_simp, by go_simp, by go_simp, by go_simp, by go_simp⟩)
    (first
      | (go_at_call 48; (with_reducible refine (and_c _ _ _ _ _).mono ?_); rintro e w' ⟨rfl, hb⟩))
  go_wp2
  go_ret
  exact ⟨ret_bool (agrB_eq _ _ _ _ _ _ _ _), And.left (by assumption)⟩
end Go.Proofs

namespace Go.Proofs
open Go.RowKit Go.Proofs.Hd
attribute [local go_sem] uv_and uv_or uv_xor uv_andNot uv_shr uv_shl uv_add uv_sub uv_nonneg
attribute [local go_sem high] run_eq2 run_eq4
set_option maxHeartbeats 1000000 in
theorem meet_no1 (avh avl ach acl bvh bvl bch bcl : BitVec 64) (w : World) (h1 : sndB avh avl ach acl = false) :
    Calls Tryz.prog 69 #[.agg #[.int .u64 (uv avh), .int .u64 (uv avl), .int .u64 (uv ach), .int .u64 (uv acl)], .agg #[.int .u64 (uv bvh), .int .u64 (uv bvl), .int .u64 (uv bch), .int .u64 (uv bcl)]] w fun e w' => e = .returned (.tuple #[.agg #[.int .u64 0, .int .u64 0, .int .u64 0, .int .u64 0], .bool false]) ∧ Below w.heap.size w w' := by
  have S0 : Below w.heap.size w (((w.alloc (.cells #[.int .u64 (uv avh), .int .u64 (uv avl), .int .u64 (uv ach), .int .u64 (uv acl)] 53)).alloc (.cells #[.int .u64 (uv bvh), .int .u64 (uv bvl), .int .u64 (uv bch), .int .u64 (uv bcl)] 53)).alloc (.cells #[.int .u64 0, .int .u64 0, .int .u64 0, .int .u64 0] 53)) ∧ (((w.alloc (.cells #[.int .u64 (uv avh), .int .u64 (uv avl), .int .u64 (uv ach), .int .u64 (uv acl)] 53)).alloc (.cells #[.int .u64 (uv bvh), .int .u64 (uv bvl), .int .u64 (uv bch), .int .u64 (uv bcl)] 53)).alloc (.cells #[.int .u64 0, .int .u64 0, .int .u64 0, .int .u64 0] 53)).cell? ⟨w.heap.size, 0, none⟩ = some (.int .u64 (uv avh)) ∧ (((w.alloc (.cells #[.int .u64 (uv avh), .int .u64 (uv avl), .int .u64 (uv ach), .int .u64 (uv acl)] 53)).alloc (.cells #[.int .u64 (uv bvh), .int .u64 (uv bvl), .int .u64 (uv bch), .int .u64 (uv bcl)] 53)).alloc (.cells #[.int .u64 0, .int .u64 0, .int .u64 0, .int .u64 0] 53)).cell? ⟨w.heap.size, 1, none⟩ = some (.int .u64 (uv avl)) ∧ (((w.alloc (.cells #[.int .u64 (uv avh), .int .u64 (uv avl), .int .u64 (uv ach), .int .u64 (uv acl)] 53)).alloc (.cells #[.int .u64 (uv bvh), .int .u64 (uv bvl), .int .u64 (uv bch), .int .u64 (uv bcl)] 53)).alloc (.cells #[.int .u64 0, .int .u64 0, .int .u64 0, .int .u64 0] 53)).cell? ⟨w.heap.size, 2, none⟩ = some (.int .u64 (uv ach)) ∧ (((w.alloc (.cells #[.int .u64 (uv avh), .int .u64 (uv avl), .int .u64 (uv ach), .int .u64 (uv acl)] 53)).alloc (.cells #[.int .u64 (uv bvh), .int .u64 (uv bvl), .int .u64 (uv bch), .int .u64 (uv bcl)] 53)).alloc (.cells #[.int .u64 0, .int .u64 0, .int .u64 0, .int .u64 0] 53)).cell? ⟨w.heap.size, 3, none⟩ = some (.int .u64 (uv acl)) ∧ (((w.alloc (.cells #[.int .u64 (uv avh), .int .u64 (uv avl), .int .u64 (uv ach), .int .u64 (uv acl)] 53)).alloc (.cells #[.int .u64 (uv bvh), .int .u64 (uv bvl), .int .u64 (uv bch), .int .u64 (uv bcl)] 53)).alloc (.cells #[.int .u64 0, .int .u64 0, .int .u64 0, .int .u64 0] 53)).cell? ⟨w.heap.size + 1, 0, none⟩ = some (.int .u64 (uv bvh)) ∧ (((w.alloc (.cells #[.int .u64 (uv avh), .int .u64 (uv avl), .int .u64 (uv ach), .int .u64 (uv acl)] 53)).alloc (.cells #[.int .u64 (uv bvh), .int .u64 (uv bvl), .int .u64 (uv bch), .int .u64 (uv bcl)] 53)).alloc (.cells #[.int .u64 0, .int .u64 0, .int .u64 0, .int .u64 0] 53)).cell? ⟨w.heap.size + 1, 1, none⟩ = some (.int .u64 (uv bvl)) ∧ (((w.alloc (.cells #[.int .u64 (uv avh), .int .u64 (uv avl), .int .u64 (uv ach), .int .u64 (uv acl)] 53)).alloc (.cells #[.int .u64 (uv bvh), .int .u64 (uv bvl), .int .u64 (uv bch), .int .u64 (uv bcl)] 53)).alloc (.cells #[.int .u64 0, .int .u64 0, .int .u64 0, .int .u64 0] 53)).cell? ⟨w.heap.size + 1, 2, none⟩ = some (.int .u64 (uv bch)) ∧ (((w.alloc (.cells #[.int .u64 (uv avh), .int .u64 (uv avl), .int .u64 (uv ach), .int .u64 (uv acl)] 53)).alloc (.cells #[.int .u64 (uv bvh), .int .u64 (uv bvl), .int .u64 (uv bch), .int .u64 (uv bcl)] 53)).alloc (.cells #[.int .u64 0, .int .u64 0, .int .u64 0, .int .u64 0] 53)).cell? ⟨w.heap.size + 1, 3, none⟩ = some (.int .u64 (uv bcl)) := ⟨below3 w (.cells #[.int .u64 (uv avh), .int .u64 (uv avl), .int .u64 (uv ach), .int .u64 (uv acl)] 53) (.cells #[.int .u64 (uv bvh), .int .u64 (uv bvl), .int .u64 (uv bch), .int .u64 (uv bcl)] 53) (.cells #[.int .u64 0, .int .u64 0, .int .u64 0, .int .u64 0] 53), by go_simp, by go_simp, by go_simp, by go_simp, by go_simp, by go_simp, by go_simp, by go_simp⟩
  have Z0 : Zero4 (((w.alloc (.cells #[.int .u64 (uv avh), .int .u64 (uv avl), .int .u64 (uv ach), .int .u64 (uv acl)] 53)).alloc (.cells #[.int .u64 (uv bvh), .int .u64 (uv bvl), .int .u64 (uv bch), .int .u64 (uv bcl)] 53)).alloc (.cells #[.int .u64 0, .int .u64 0, .int .u64 0, .int .u64 0] 53)) (w.heap.size + 1 + 1) := zero4_at ((w.alloc (.cells #[.int .u64 (uv avh), .int .u64 (uv avl), .int .u64 (uv ach), .int .u64 (uv acl)] 53)).alloc (.cells #[.int .u64 (uv bvh), .int .u64 (uv bvl), .int .u64 (uv bch), .int .u64 (uv bcl)] 53)) (w.heap.size + 1 + 1) (by simp)
  go_enter Tryz.func69, Tryz.ntmps69
  go_wp2_with fail
  (with_reducible refine (sound_c _ _ _ _ _).mono ?_)
  rintro e w1 ⟨rfl, hb1⟩
  have S1 := hold8 hb1 S0
  have Z1 := Zero4.on hb1 Z0
  clear hb1 S0 Z0
  have Y1 := Z1.out
  go_wp2
  exact bodyPost_ret (v := .tuple #[.agg #[.int .u64 0, .int .u64 0, .int .u64 0, .int .u64 0], .bool false]) (by simp [results, Tryz.results69, go_sem, Y1]) rfl ⟨rfl, S1.1.trans ((sets4 _ _ _ _ _ _).mono (by omega))⟩

set_option maxHeartbeats 1000000 in
theorem meet_no2 (avh avl ach acl bvh bvl bch bcl : BitVec 64) (w : World) (h1 : sndB avh avl ach acl = true) (h2 : sndB bvh bvl bch bcl = false) :
    Calls Tryz.prog 69 #[.agg #[.int .u64 (uv avh), .int .u64 (uv avl), .int .u64 (uv ach), .int .u64 (uv acl)], .agg #[.int .u64 (uv bvh), .int .u64 (uv bvl), .int .u64 (uv bch), .int .u64 (uv bcl)]] w fun e w' => e = .returned (.tuple #[.agg #[.int .u64 0, .int .u64 0, .int .u64 0, .int .u64 0], .bool false]) ∧ Below w.heap.size w w' := by
  have S0 : Below w.heap.size w (((w.alloc (.cells #[.int .u64 (uv avh), .int .u64 (uv avl), .int .u64 (uv ach), .int .u64 (uv acl)] 53)).alloc (.cells #[.int .u64 (uv bvh), .int .u64 (uv bvl), .int .u64 (uv bch), .int .u64 (uv bcl)] 53)).alloc (.cells #[.int .u64 0, .int .u64 0, .int .u64 0, .int .u64 0] 53)) ∧ (((w.alloc (.cells #[.int .u64 (uv avh), .int .u64 (uv avl), .int .u64 (uv ach), .int .u64 (uv acl)] 53)).alloc (.cells #[.int .u64 (uv bvh), .int .u64 (uv bvl), .int .u64 (uv bch), .int .u64 (uv bcl)] 53)).alloc (.cells #[.int .u64 0, .int .u64 0, .int .u64 0, .int .u64 0] 53)).cell? ⟨w.heap.size, 0, none⟩ = some (.int .u64 (uv avh)) ∧ (((w.alloc (.cells #[.int .u64 (uv avh), .int .u64 (uv avl), .int .u64 (uv ach), .int .u64 (uv acl)] 53)).alloc (.cells #[.int .u64 (uv bvh), .int .u64 (uv bvl), .int .u64 (uv bch), .int .u64 (uv bcl)] 53)).alloc (.cells #[.int .u64 0, .int .u64 0, .int .u64 0, .int .u64 0] 53)).cell? ⟨w.heap.size, 1, none⟩ = some (.int .u64 (uv avl)) ∧ (((w.alloc (.cells #[.int .u64 (uv avh), .int .u64 (uv avl), .int .u64 (uv ach), .int .u64 (uv acl)] 53)).alloc (.cells #[.int .u64 (uv bvh), .int .u64 (uv bvl), .int .u64 (uv bch), .int .u64 (uv bcl)] 53)).alloc (.cells #[.int .u64 0, .int .u64 0, .int .u64 0, .int .u64 0] 53)).cell? ⟨w.heap.size, 2, none⟩ = some (.int .u64 (uv ach)) ∧ (((w.alloc (.cells #[.int .u64 (uv avh), .int .u64 (uv avl), .int .u64 (uv ach), .int .u64 (uv acl)] 53)).alloc (.cells #[.int .u64 (uv bvh), .int .u64 (uv bvl), .int .u64 (uv bch), .int .u64 (uv bcl)] 53)).alloc (.cells #[.int .u64 0, .int .u64 0, .int .u64 0, .int .u64 0] 53)).cell? ⟨w.heap.size, 3, none⟩ = some (.int .u64 (uv acl)) ∧ (((w.alloc (.cells #[.int .u64 (uv avh), .int .u64 (uv avl), .int .u64 (uv ach), .int .u64 (uv acl)] 53)).alloc (.cells #[.int .u64 (uv bvh), .int .u64 (uv bvl), .int .u64 (uv bch), .int .u64 (uv bcl)] 53)).alloc (.cells #[.int .u64 0, .int .u64 0, .int .u64 0, .int .u64 0] 53)).cell? ⟨w.heap.size + 1, 0, none⟩ = some (.int .u64 (uv bvh)) ∧ (((w.alloc (.cells #[.int .u64 (uv avh), .int .u64 (uv avl), .int .u64 (uv ach), .int .u64 (uv acl)] 53)).alloc (.cells #[.int .u64 (uv bvh), .int .u64 (uv bvl), .int .u64 (uv bch), .int .u64 (uv bcl)] 53)).alloc (.cells #[.int .u64 0, .int .u64 0, .int .u64 0, .int .u64 0] 53)).cell? ⟨w.heap.size + 1, 1, none⟩ = some (.int .u64 (uv bvl)) ∧ (((w.alloc (.cells #[.int .u64 (uv avh), .int .u64 (uv avl), .int .u64 (uv ach), .int .u64 (uv acl)] 53)).alloc (.cells #[.int .u64 (uv bvh), .int .u64 (uv bvl), .int .u64 (uv bch), .int .u64 (uv bcl)] 53)).alloc (.cells #[.int .u64 0, .int .u64 0, .int .u64 0, .int .u64 0] 53)).cell? ⟨w.heap.size + 1, 2, none⟩ = some (.int .u64 (uv bch)) ∧ (((w.alloc (.cells #[.int .u64 (uv avh), .int .u64 (uv avl), .int .u64 (uv ach), .int .u64 (uv acl)] 53)).alloc (.cells #[.int .u64 (uv bvh), .int .u64 (uv bvl), .int .u64 (uv bch), .int .u64 (uv bcl)] 53)).alloc (.cells #[.int .u64 0, .int .u64 0, .int .u64 0, .int .u64 0] 53)).cell? ⟨w.heap.size + 1, 3, none⟩ = some (.int .u64 (uv bcl)) := ⟨below3 w (.cells #[.int .u64 (uv avh), .int .u64 (uv avl), .int .u64 (uv ach), .int .u64 (uv acl)] 53) (.cells #[.int .u64 (uv bvh), .int .u64 (uv bvl), .int .u64 (uv bch), .int .u64 (uv bcl)] 53) (.cells #[.int .u64 0, .int .u64 0, .int .u64 0, .int .u64 0] 53), by go_simp, by go_simp, by go_simp, by go_simp, by go_simp, by go_simp, by go_simp, by go_simp⟩
  have Z0 : Zero4 (((w.alloc (.cells #[.int .u64 (uv avh), .int .u64 (uv avl), .int .u64 (uv ach), .int .u64 (uv acl)] 53)).alloc (.cells #[.int .u64 (uv bvh), .int .u64 (uv bvl), .int .u64 (uv bch), .int .u64 (uv bcl)] 53)).alloc (.cells #[.int .u64 0, .int .u64 0, .int .u64 0, .int .u64 0] 53)) (w.heap.size + 1 + 1) := zero4_at ((w.alloc (.cells #[.int .u64 (uv avh), .int .u64 (uv avl), .int .u64 (uv ach), .int .u64 (uv acl)] 53)).alloc (.cells #[.int .u64 (uv bvh), .int .u64 (uv bvl), .int .u64 (uv bch), .int .u64 (uv bcl)] 53)) (w.heap.size + 1 + 1) (by simp)
  go_enter Tryz.func69, Tryz.ntmps69
  go_wp2_with fail
  (with_reducible refine (sound_c _ _ _ _ _).mono ?_)
  rintro e w1 ⟨rfl, hb1⟩
  have S1 := hold8 hb1 S0
  have Z1 := Zero4.on hb1 Z0
  clear hb1 S0 Z0
  go_wp2_with fail
  (with_reducible refine (sound_c _ _ _ _ _).mono ?_)
  rintro e w2 ⟨rfl, hb2⟩
  have S2 := hold8 hb2 S1
  have Z2 := Zero4.on hb2 Z1
  clear hb2 S1 Z1
  have Y2 := Z2.out
  go_wp2
  exact bodyPost_ret (v := .tuple #[.agg #[.int .u64 0, .int .u64 0, .int .u64 0, .int .u64 0], .bool false]) (by simp [results, Tryz.results69, go_sem, Y2]) rfl ⟨rfl, S2.1.trans ((sets4 _ _ _ _ _ _).mono (by omega))⟩

set_option maxHeartbeats 1000000 in
theorem meet_no3 (avh avl ach acl bvh bvl bch bcl : BitVec 64) (w : World) (h1 : sndB avh avl ach acl = true) (h2 : sndB bvh bvl bch bcl = true) (h3 : agrB avh avl ach acl bvh bvl bch bcl = false) :
    Calls Tryz.prog 69 #[.agg #[.int .u64 (uv avh), .int .u64 (uv avl), .int .u64 (uv ach), .int .u64 (uv acl)], .agg #[.int .u64 (uv bvh), .int .u64 (uv bvl), .int .u64 (uv bch), .int .u64 (uv bcl)]] w fun e w' => e = .returned (.tuple #[.agg #[.int .u64 0, .int .u64 0, .int .u64 0, .int .u64 0], .bool false]) ∧ Below w.heap.size w w' := by
  have S0 : Below w.heap.size w (((w.alloc (.cells #[.int .u64 (uv avh), .int .u64 (uv avl), .int .u64 (uv ach), .int .u64 (uv acl)] 53)).alloc (.cells #[.int .u64 (uv bvh), .int .u64 (uv bvl), .int .u64 (uv bch), .int .u64 (uv bcl)] 53)).alloc (.cells #[.int .u64 0, .int .u64 0, .int .u64 0, .int .u64 0] 53)) ∧ (((w.alloc (.cells #[.int .u64 (uv avh), .int .u64 (uv avl), .int .u64 (uv ach), .int .u64 (uv acl)] 53)).alloc (.cells #[.int .u64 (uv bvh), .int .u64 (uv bvl), .int .u64 (uv bch), .int .u64 (uv bcl)] 53)).alloc (.cells #[.int .u64 0, .int .u64 0, .int .u64 0, .int .u64 0] 53)).cell? ⟨w.heap.size, 0, none⟩ = some (.int .u64 (uv avh)) ∧ (((w.alloc (.cells #[.int .u64 (uv avh), .int .u64 (uv avl), .int .u64 (uv ach), .int .u64 (uv acl)] 53)).alloc (.cells #[.int .u64 (uv bvh), .int .u64 (uv bvl), .int .u64 (uv bch), .int .u64 (uv bcl)] 53)).alloc (.cells #[.int .u64 0, .int .u64 0, .int .u64 0, .int .u64 0] 53)).cell? ⟨w.heap.size, 1, none⟩ = some (.int .u64 (uv avl)) ∧ (((w.alloc (.cells #[.int .u64 (uv avh), .int .u64 (uv avl), .int .u64 (uv ach), .int .u64 (uv acl)] 53)).alloc (.cells #[.int .u64 (uv bvh), .int .u64 (uv bvl), .int .u64 (uv bch), .int .u64 (uv bcl)] 53)).alloc (.cells #[.int .u64 0, .int .u64 0, .int .u64 0, .int .u64 0] 53)).cell? ⟨w.heap.size, 2, none⟩ = some (.int .u64 (uv ach)) ∧ (((w.alloc (.cells #[.int .u64 (uv avh), .int .u64 (uv avl), .int .u64 (uv ach), .int .u64 (uv acl)] 53)).alloc (.cells #[.int .u64 (uv bvh), .int .u64 (uv bvl), .int .u64 (uv bch), .int .u64 (uv bcl)] 53)).alloc (.cells #[.int .u64 0, .int .u64 0, .int .u64 0, .int .u64 0] 53)).cell? ⟨w.heap.size, 3, none⟩ = some (.int .u64 (uv acl)) ∧ (((w.alloc (.cells #[.int .u64 (uv avh), .int .u64 (uv avl), .int .u64 (uv ach), .int .u64 (uv acl)] 53)).alloc (.cells #[.int .u64 (uv bvh), .int .u64 (uv bvl), .int .u64 (uv bch), .int .u64 (uv bcl)] 53)).alloc (.cells #[.int .u64 0, .int .u64 0, .int .u64 0, .int .u64 0] 53)).cell? ⟨w.heap.size + 1, 0, none⟩ = some (.int .u64 (uv bvh)) ∧ (((w.alloc (.cells #[.int .u64 (uv avh), .int .u64 (uv avl), .int .u64 (uv ach), .int .u64 (uv acl)] 53)).alloc (.cells #[.int .u64 (uv bvh), .int .u64 (uv bvl), .int .u64 (uv bch), .int .u64 (uv bcl)] 53)).alloc (.cells #[.int .u64 0, .int .u64 0, .int .u64 0, .int .u64 0] 53)).cell? ⟨w.heap.size + 1, 1, none⟩ = some (.int .u64 (uv bvl)) ∧ (((w.alloc (.cells #[.int .u64 (uv avh), .int .u64 (uv avl), .int .u64 (uv ach), .int .u64 (uv acl)] 53)).alloc (.cells #[.int .u64 (uv bvh), .int .u64 (uv bvl), .int .u64 (uv bch), .int .u64 (uv bcl)] 53)).alloc (.cells #[.int .u64 0, .int .u64 0, .int .u64 0, .int .u64 0] 53)).cell? ⟨w.heap.size + 1, 2, none⟩ = some (.int .u64 (uv bch)) ∧ (((w.alloc (.cells #[.int .u64 (uv avh), .int .u64 (uv avl), .int .u64 (uv ach), .int .u64 (uv acl)] 53)).alloc (.cells #[.int .u64 (uv bvh), .int .u64 (uv bvl), .int .u64 (uv bch), .int .u64 (uv bcl)] 53)).alloc (.cells #[.int .u64 0, .int .u64 0, .int .u64 0, .int .u64 0] 53)).cell? ⟨w.heap.size + 1, 3, none⟩ = some (.int .u64 (uv bcl)) := ⟨below3 w (.cells #[.int .u64 (uv avh), .int .u64 (uv avl), .int .u64 (uv ach), .int .u64 (uv acl)] 53) (.cells #[.int .u64 (uv bvh), .int .u64 (uv bvl), .int .u64 (uv bch), .int .u64 (uv bcl)] 53) (.cells #[.int .u64 0, .int .u64 0, .int .u64 0, .int .u64 0] 53), by go_simp, by go_simp, by go_simp, by go_simp, by go_simp, by go_simp, by go_simp, by go_simp⟩
  have Z0 : Zero4 (((w.alloc (.cells #[.int .u64 (uv avh), .int .u64 (uv avl), .int .u64 (uv ach), .int .u64 (uv acl)] 53)).alloc (.cells #[.int .u64 (uv bvh), .int .u64 (uv bvl), .int .u64 (uv bch), .int .u64 (uv bcl)] 53)).alloc (.cells #[.int .u64 0, .int .u64 0, .int .u64 0, .int .u64 0] 53)) (w.heap.size + 1 + 1) := zero4_at ((w.alloc (.cells #[.int .u64 (uv avh), .int .u64 (uv avl), .int .u64 (uv ach), .int .u64 (uv acl)] 53)).alloc (.cells #[.int .u64 (uv bvh), .int .u64 (uv bvl), .int .u64 (uv bch), .int .u64 (uv bcl)] 53)) (w.heap.size + 1 + 1) (by simp)
  go_enter Tryz.func69, Tryz.ntmps69
  go_wp2_with fail
  (with_reducible refine (sound_c _ _ _ _ _).mono ?_)
  rintro e w1 ⟨rfl, hb1⟩
  have S1 := hold8 hb1 S0
  have Z1 := Zero4.on hb1 Z0
  clear hb1 S0 Z0
  go_wp2_with fail
  (with_reducible refine (sound_c _ _ _ _ _).mono ?_)
  rintro e w2 ⟨rfl, hb2⟩
  have S2 := hold8 hb2 S1
  have Z2 := Zero4.on hb2 Z1
  clear hb2 S1 Z1
  go_wp2_with fail
  (with_reducible refine (agree_c _ _ _ _ _ _ _ _ _).mono ?_)
  rintro e w3 ⟨rfl, hb3⟩
  have S3 := hold8 hb3 S2
  have Z3 := Zero4.on hb3 Z2
  clear hb3 S2 Z2
  have Y3 := Z3.out
  go_wp2
  exact bodyPost_ret (v := .tuple #[.agg #[.int .u64 0, .int .u64 0, .int .u64 0, .int .u64 0], .bool false]) (by simp [results, Tryz.results69, go_sem, Y3]) rfl ⟨rfl, S3.1.trans ((sets4 _ _ _ _ _ _).mono (by omega))⟩

set_option maxHeartbeats 1000000 in
theorem meet_yes (avh avl ach acl bvh bvl bch bcl : BitVec 64) (w : World) (h1 : sndB avh avl ach acl = true) (h2 : sndB bvh bvl bch bcl = true) (h3 : agrB avh avl ach acl bvh bvl bch bcl = true) :
    Calls Tryz.prog 69 #[.agg #[.int .u64 (uv avh), .int .u64 (uv avl), .int .u64 (uv ach), .int .u64 (uv acl)], .agg #[.int .u64 (uv bvh), .int .u64 (uv bvl), .int .u64 (uv bch), .int .u64 (uv bcl)]] w fun e w' => e = .returned (.tuple #[.agg #[.int .u64 (uv (avh ||| bvh)), .int .u64 (uv (avl ||| bvl)), .int .u64 (uv (ach ||| bch)), .int .u64 (uv (acl ||| bcl))], .bool true]) ∧ Below w.heap.size w w' := by
  have S0 : Below w.heap.size w (((w.alloc (.cells #[.int .u64 (uv avh), .int .u64 (uv avl), .int .u64 (uv ach), .int .u64 (uv acl)] 53)).alloc (.cells #[.int .u64 (uv bvh), .int .u64 (uv bvl), .int .u64 (uv bch), .int .u64 (uv bcl)] 53)).alloc (.cells #[.int .u64 0, .int .u64 0, .int .u64 0, .int .u64 0] 53)) ∧ (((w.alloc (.cells #[.int .u64 (uv avh), .int .u64 (uv avl), .int .u64 (uv ach), .int .u64 (uv acl)] 53)).alloc (.cells #[.int .u64 (uv bvh), .int .u64 (uv bvl), .int .u64 (uv bch), .int .u64 (uv bcl)] 53)).alloc (.cells #[.int .u64 0, .int .u64 0, .int .u64 0, .int .u64 0] 53)).cell? ⟨w.heap.size, 0, none⟩ = some (.int .u64 (uv avh)) ∧ (((w.alloc (.cells #[.int .u64 (uv avh), .int .u64 (uv avl), .int .u64 (uv ach), .int .u64 (uv acl)] 53)).alloc (.cells #[.int .u64 (uv bvh), .int .u64 (uv bvl), .int .u64 (uv bch), .int .u64 (uv bcl)] 53)).alloc (.cells #[.int .u64 0, .int .u64 0, .int .u64 0, .int .u64 0] 53)).cell? ⟨w.heap.size, 1, none⟩ = some (.int .u64 (uv avl)) ∧ (((w.alloc (.cells #[.int .u64 (uv avh), .int .u64 (uv avl), .int .u64 (uv ach), .int .u64 (uv acl)] 53)).alloc (.cells #[.int .u64 (uv bvh), .int .u64 (uv bvl), .int .u64 (uv bch), .int .u64 (uv bcl)] 53)).alloc (.cells #[.int .u64 0, .int .u64 0, .int .u64 0, .int .u64 0] 53)).cell? ⟨w.heap.size, 2, none⟩ = some (.int .u64 (uv ach)) ∧ (((w.alloc (.cells #[.int .u64 (uv avh), .int .u64 (uv avl), .int .u64 (uv ach), .int .u64 (uv acl)] 53)).alloc (.cells #[.int .u64 (uv bvh), .int .u64 (uv bvl), .int .u64 (uv bch), .int .u64 (uv bcl)] 53)).alloc (.cells #[.int .u64 0, .int .u64 0, .int .u64 0, .int .u64 0] 53)).cell? ⟨w.heap.size, 3, none⟩ = some (.int .u64 (uv acl)) ∧ (((w.alloc (.cells #[.int .u64 (uv avh), .int .u64 (uv avl), .int .u64 (uv ach), .int .u64 (uv acl)] 53)).alloc (.cells #[.int .u64 (uv bvh), .int .u64 (uv bvl), .int .u64 (uv bch), .int .u64 (uv bcl)] 53)).alloc (.cells #[.int .u64 0, .int .u64 0, .int .u64 0, .int .u64 0] 53)).cell? ⟨w.heap.size + 1, 0, none⟩ = some (.int .u64 (uv bvh)) ∧ (((w.alloc (.cells #[.int .u64 (uv avh), .int .u64 (uv avl), .int .u64 (uv ach), .int .u64 (uv acl)] 53)).alloc (.cells #[.int .u64 (uv bvh), .int .u64 (uv bvl), .int .u64 (uv bch), .int .u64 (uv bcl)] 53)).alloc (.cells #[.int .u64 0, .int .u64 0, .int .u64 0, .int .u64 0] 53)).cell? ⟨w.heap.size + 1, 1, none⟩ = some (.int .u64 (uv bvl)) ∧ (((w.alloc (.cells #[.int .u64 (uv avh), .int .u64 (uv avl), .int .u64 (uv ach), .int .u64 (uv acl)] 53)).alloc (.cells #[.int .u64 (uv bvh), .int .u64 (uv bvl), .int .u64 (uv bch), .int .u64 (uv bcl)] 53)).alloc (.cells #[.int .u64 0, .int .u64 0, .int .u64 0, .int .u64 0] 53)).cell? ⟨w.heap.size + 1, 2, none⟩ = some (.int .u64 (uv bch)) ∧ (((w.alloc (.cells #[.int .u64 (uv avh), .int .u64 (uv avl), .int .u64 (uv ach), .int .u64 (uv acl)] 53)).alloc (.cells #[.int .u64 (uv bvh), .int .u64 (uv bvl), .int .u64 (uv bch), .int .u64 (uv bcl)] 53)).alloc (.cells #[.int .u64 0, .int .u64 0, .int .u64 0, .int .u64 0] 53)).cell? ⟨w.heap.size + 1, 3, none⟩ = some (.int .u64 (uv bcl)) := ⟨below3 w (.cells #[.int .u64 (uv avh), .int .u64 (uv avl), .int .u64 (uv ach), .int .u64 (uv acl)] 53) (.cells #[.int .u64 (uv bvh), .int .u64 (uv bvl), .int .u64 (uv bch), .int .u64 (uv bcl)] 53) (.cells #[.int .u64 0, .int .u64 0, .int .u64 0, .int .u64 0] 53), by go_simp, by go_simp, by go_simp, by go_simp, by go_simp, by go_simp, by go_simp, by go_simp⟩
  have Z0 : Zero4 (((w.alloc (.cells #[.int .u64 (uv avh), .int .u64 (uv avl), .int .u64 (uv ach), .int .u64 (uv acl)] 53)).alloc (.cells #[.int .u64 (uv bvh), .int .u64 (uv bvl), .int .u64 (uv bch), .int .u64 (uv bcl)] 53)).alloc (.cells #[.int .u64 0, .int .u64 0, .int .u64 0, .int .u64 0] 53)) (w.heap.size + 1 + 1) := zero4_at ((w.alloc (.cells #[.int .u64 (uv avh), .int .u64 (uv avl), .int .u64 (uv ach), .int .u64 (uv acl)] 53)).alloc (.cells #[.int .u64 (uv bvh), .int .u64 (uv bvl), .int .u64 (uv bch), .int .u64 (uv bcl)] 53)) (w.heap.size + 1 + 1) (by simp)
  go_enter Tryz.func69, Tryz.ntmps69
  go_wp2_with fail
  (with_reducible refine (sound_c _ _ _ _ _).mono ?_)
  rintro e w1 ⟨rfl, hb1⟩
  have S1 := hold8 hb1 S0
  have Z1 := Zero4.on hb1 Z0
  clear hb1 S0 Z0
  go_wp2_with fail
  (with_reducible refine (sound_c _ _ _ _ _).mono ?_)
  rintro e w2 ⟨rfl, hb2⟩
  have S2 := hold8 hb2 S1
  have Z2 := Zero4.on hb2 Z1
  clear hb2 S1 Z1
  go_wp2_with fail
  (with_reducible refine (agree_c _ _ _ _ _ _ _ _ _).mono ?_)
  rintro e w3 ⟨rfl, hb3⟩
  have S3 := hold8 hb3 S2
  have Z3 := Zero4.on hb3 Z2
  clear hb3 S2 Z2
  have D3 : Zero4 w3.drew (w.heap.size + 1 + 1) := Z3
  go_wp2_with fail
  go_region_held3 (fun w' => Below w.heap.size w w' ∧ w'.cell? ⟨w.heap.size, 0, none⟩ = some (.int .u64 (uv avh)) ∧ w'.cell? ⟨w.heap.size, 1, none⟩ = some (.int .u64 (uv avl)) ∧ w'.cell? ⟨w.heap.size, 2, none⟩ = some (.int .u64 (uv ach)) ∧ w'.cell? ⟨w.heap.size, 3, none⟩ = some (.int .u64 (uv acl)) ∧ w'.cell? ⟨w.heap.size + 1, 0, none⟩ = some (.int .u64 (uv bvh)) ∧ w'.cell? ⟨w.heap.size + 1, 1, none⟩ = some (.int .u64 (uv bvl)) ∧ w'.cell? ⟨w.heap.size + 1, 2, none⟩ = some (.int .u64 (uv bch)) ∧ w'.cell? ⟨w.heap.size + 1, 3, none⟩ = some (.int .u64 (uv bcl)))
    (first
      | exact hold8 (by assumption) (by assumption)
      | exact shold8 (sets4 _ _ _ _ _ _) (by assumption) (by omega) (by first | omega | (simp; done) | (simp; omega)) (by first | omega | (simp; done) | (simp; omega)) (by first | omega | (simp; done) | (simp; omega)) (by first | omega | (simp; done) | (simp; omega)) (by first | omega | (simp; done) | (simp; omega)) (by first | omega | (simp; done) | (simp; omega)) (by first | omega | (simp; done) | (simp; omega)) (by first | omega | (simp; done) | (simp; omega))
      | exact ⟨S3.1.drew, S3.2⟩)
    (first
      | (go_at_call 86; (with_reducible refine (or_c _ _ _ _ _).mono ?_); rintro e w' ⟨rfl, hb⟩; have Z := Zero4.on hb (by assumption); obtain ⟨z0, y0, z1, y1, z2, y2, z3, y3⟩ := Z.out))
  all_goals go_wp2
  all_goals exact bodyPost_ret (v := .tuple #[.agg #[.int .u64 (uv (avh ||| bvh)), .int .u64 (uv (avl ||| bvl)), .int .u64 (uv (ach ||| bch)), .int .u64 (uv (acl ||| bcl))], .bool true]) (by simp [results, Tryz.results69, go_sem, z0, z1, z2, z3]) rfl ⟨rfl, And.left (by assumption)⟩

end Go.Proofs

namespace Go.Proofs
open Go.RowKit Go.Proofs.Hd
attribute [local go_sem] uv_and uv_or uv_xor uv_andNot uv_shr uv_shl uv_add uv_sub uv_nonneg
attribute [local go_sem high] run_eq2 run_eq4

theorem sound_is (b : Bool) (avh avl ach acl : BitVec 64) (w : World) (h : sndB avh avl ach acl = b) : Calls Tryz.prog 27 #[.agg #[.int .u64 (uv avh), .int .u64 (uv avl), .int .u64 (uv ach), .int .u64 (uv acl)]] w fun e w' => e = .returned (.bool b) ∧ Below w.heap.size w w' := by
  subst h; exact sound_c _ _ _ _ _

set_option maxHeartbeats 1000000 in
theorem within_no1 (avh avl ach acl bvh bvl bch bcl : BitVec 64) (w : World) (h1 : sndB avh avl ach acl = false) :
    Calls Tryz.prog 71 #[.agg #[.int .u64 (uv avh), .int .u64 (uv avl), .int .u64 (uv ach), .int .u64 (uv acl)], .agg #[.int .u64 (uv bvh), .int .u64 (uv bvl), .int .u64 (uv bch), .int .u64 (uv bcl)]] w fun e w' => e = .returned (.bool false) ∧ Below w.heap.size w w' := by
  have S0 : Below w.heap.size w ((w.alloc (.cells #[.int .u64 (uv avh), .int .u64 (uv avl), .int .u64 (uv ach), .int .u64 (uv acl)] 53)).alloc (.cells #[.int .u64 (uv bvh), .int .u64 (uv bvl), .int .u64 (uv bch), .int .u64 (uv bcl)] 53)) ∧ ((w.alloc (.cells #[.int .u64 (uv avh), .int .u64 (uv avl), .int .u64 (uv ach), .int .u64 (uv acl)] 53)).alloc (.cells #[.int .u64 (uv bvh), .int .u64 (uv bvl), .int .u64 (uv bch), .int .u64 (uv bcl)] 53)).cell? ⟨w.heap.size, 0, none⟩ = some (.int .u64 (uv avh)) ∧ ((w.alloc (.cells #[.int .u64 (uv avh), .int .u64 (uv avl), .int .u64 (uv ach), .int .u64 (uv acl)] 53)).alloc (.cells #[.int .u64 (uv bvh), .int .u64 (uv bvl), .int .u64 (uv bch), .int .u64 (uv bcl)] 53)).cell? ⟨w.heap.size, 1, none⟩ = some (.int .u64 (uv avl)) ∧ ((w.alloc (.cells #[.int .u64 (uv avh), .int .u64 (uv avl), .int .u64 (uv ach), .int .u64 (uv acl)] 53)).alloc (.cells #[.int .u64 (uv bvh), .int .u64 (uv bvl), .int .u64 (uv bch), .int .u64 (uv bcl)] 53)).cell? ⟨w.heap.size, 2, none⟩ = some (.int .u64 (uv ach)) ∧ ((w.alloc (.cells #[.int .u64 (uv avh), .int .u64 (uv avl), .int .u64 (uv ach), .int .u64 (uv acl)] 53)).alloc (.cells #[.int .u64 (uv bvh), .int .u64 (uv bvl), .int .u64 (uv bch), .int .u64 (uv bcl)] 53)).cell? ⟨w.heap.size, 3, none⟩ = some (.int .u64 (uv acl)) ∧ ((w.alloc (.cells #[.int .u64 (uv avh), .int .u64 (uv avl), .int .u64 (uv ach), .int .u64 (uv acl)] 53)).alloc (.cells #[.int .u64 (uv bvh), .int .u64 (uv bvl), .int .u64 (uv bch), .int .u64 (uv bcl)] 53)).cell? ⟨w.heap.size + 1, 0, none⟩ = some (.int .u64 (uv bvh)) ∧ ((w.alloc (.cells #[.int .u64 (uv avh), .int .u64 (uv avl), .int .u64 (uv ach), .int .u64 (uv acl)] 53)).alloc (.cells #[.int .u64 (uv bvh), .int .u64 (uv bvl), .int .u64 (uv bch), .int .u64 (uv bcl)] 53)).cell? ⟨w.heap.size + 1, 1, none⟩ = some (.int .u64 (uv bvl)) ∧ ((w.alloc (.cells #[.int .u64 (uv avh), .int .u64 (uv avl), .int .u64 (uv ach), .int .u64 (uv acl)] 53)).alloc (.cells #[.int .u64 (uv bvh), .int .u64 (uv bvl), .int .u64 (uv bch), .int .u64 (uv bcl)] 53)).cell? ⟨w.heap.size + 1, 2, none⟩ = some (.int .u64 (uv bch)) ∧ ((w.alloc (.cells #[.int .u64 (uv avh), .int .u64 (uv avl), .int .u64 (uv ach), .int .u64 (uv acl)] 53)).alloc (.cells #[.int .u64 (uv bvh), .int .u64 (uv bvl), .int .u64 (uv bch), .int .u64 (uv bcl)] 53)).cell? ⟨w.heap.size + 1, 3, none⟩ = some (.int .u64 (uv bcl)) := ⟨below2 w (.cells #[.int .u64 (uv avh), .int .u64 (uv avl), .int .u64 (uv ach), .int .u64 (uv acl)] 53) (.cells #[.int .u64 (uv bvh), .int .u64 (uv bvl), .int .u64 (uv bch), .int .u64 (uv bcl)] 53), by go_simp, by go_simp, by go_simp, by go_simp, by go_simp, by go_simp, by go_simp, by go_simp⟩
  go_enter Tryz.func71, Tryz.ntmps71
  go_wp2_with fail
  refine wp_region_held_drew (S := fun w' => Below w.heap.size w w' ∧ w'.cell? ⟨w.heap.size, 0, none⟩ = some (.int .u64 (uv avh)) ∧ w'.cell? ⟨w.heap.size, 1, none⟩ = some (.int .u64 (uv avl)) ∧ w'.cell? ⟨w.heap.size, 2, none⟩ = some (.int .u64 (uv ach)) ∧ w'.cell? ⟨w.heap.size, 3, none⟩ = some (.int .u64 (uv acl)) ∧ w'.cell? ⟨w.heap.size + 1, 0, none⟩ = some (.int .u64 (uv bvh)) ∧ w'.cell? ⟨w.heap.size + 1, 1, none⟩ = some (.int .u64 (uv bvl)) ∧ w'.cell? ⟨w.heap.size + 1, 2, none⟩ = some (.int .u64 (uv bch)) ∧ w'.cell? ⟨w.heap.size + 1, 3, none⟩ = some (.int .u64 (uv bcl))) (by kernel_rfl) ⟨S0.1.drew, S0.2⟩ (fun hHeld => ?_)
  refine wpAnyH_take (i := 0) (oi := ⟨some 5, _, _, _, _, _⟩) (v := ?vu0) rfl (by kernel_rfl) (by kernel_rfl) (by kernel_rfl) (fun _ _ _ h => h) (Or.inl ⟨by rfl, ?yu0⟩) hHeld ?ru0
  case yu0 => (intro w' hSw; (try dsimp only at hSw); go_simp; try (with_reducible rfl))
  simp only [Act.put, List.setIfInBounds_toArray, List.set_cons_zero, List.set_cons_succ]
  refine wpAnyH_ready (rs := [1]) (by kernel_rfl) (by simp) ?_
  refine AllReadyH.cons (o := ⟨some 6, _, _, _, _, _⟩) rfl (fun K hK => ?_) AllReadyH.nil
  go_simp
  (with_reducible refine (sound_is _ _ _ _ _ _ h1).mono ?_)
  rintro e w5 ⟨rfl, hb⟩
  (try dsimp only)
  refine hK.out _ _ (hold8 hb hHeld) (fun hNext => ?_)
  clear hK K hHeld hb
  have hHeld := hNext
  clear hNext
  try simp only [Act.put, List.setIfInBounds_toArray, List.set_cons_zero, List.set_cons_succ]
  refine wpAnyH_take (i := 2) (oi := ⟨some 7, _, _, _, _, _⟩) (v := ?vu2) rfl (by kernel_rfl) (by kernel_rfl) (by kernel_rfl) (fun _ _ _ h => h) (Or.inl ⟨by rfl, ?yu2⟩) hHeld ?ru2
  case yu2 => (intro w' hSw; (try dsimp only at hSw); go_simp; try (with_reducible rfl))
  simp only [Act.put, List.setIfInBounds_toArray, List.set_cons_zero, List.set_cons_succ]
  refine wpAnyH_take (i := 3) (oi := ⟨some 8, _, _, _, _, _⟩) (v := undef) rfl (by kernel_rfl) (by kernel_rfl) (by kernel_rfl) (fun _ _ _ h => h) (Or.inr ⟨by rfl, rfl⟩) hHeld ?_
  simp only [Act.put, List.setIfInBounds_toArray, List.set_cons_zero, List.set_cons_succ]
  refine wpAnyH_ready (rs := [4]) (by kernel_rfl) (by simp) ?_
  refine AllReadyH.cons (o := ⟨some 9, _, _, _, _, _⟩) rfl (fun K hK => ?_) AllReadyH.nil
  go_simp
  refine hK.out _ _ hHeld (fun hNext => ?_)
  clear hK K hHeld
  have hHeld := hNext
  clear hNext
  try simp only [Act.put, List.setIfInBounds_toArray, List.set_cons_zero, List.set_cons_succ]
  refine wpAnyH_take (i := 5) (oi := ⟨some 10, _, _, _, _, _⟩) (v := ?vu5) rfl (by kernel_rfl) (by kernel_rfl) (by kernel_rfl) (fun _ _ _ h => h) (Or.inl ⟨by rfl, ?yu5⟩) hHeld ?ru5
  case yu5 => (intro w' hSw; (try dsimp only at hSw); go_simp; try (with_reducible rfl))
  simp only [Act.put, List.setIfInBounds_toArray, List.set_cons_zero, List.set_cons_succ]
  refine wpAnyH_take (i := 6) (oi := ⟨some 11, _, _, _, _, _⟩) (v := ?vu6) rfl (by kernel_rfl) (by kernel_rfl) (by kernel_rfl) (fun _ _ _ h => h) (Or.inl ⟨by rfl, ?yu6⟩) hHeld ?ru6
  case yu6 => (intro w' hSw; (try dsimp only at hSw); go_simp; try (with_reducible rfl))
  simp only [Act.put, List.setIfInBounds_toArray, List.set_cons_zero, List.set_cons_succ]
  refine wpAnyH_take (i := 7) (oi := ⟨some 12, _, _, _, _, _⟩) (v := undef) rfl (by kernel_rfl) (by kernel_rfl) (by kernel_rfl) (fun _ _ _ h => h) (Or.inr ⟨by rfl, rfl⟩) hHeld ?_
  simp only [Act.put, List.setIfInBounds_toArray, List.set_cons_zero, List.set_cons_succ]
  refine wpAnyH_take (i := 8) (oi := ⟨some 13, _, _, _, _, _⟩) (v := undef) rfl (by kernel_rfl) (by kernel_rfl) (by kernel_rfl) (fun _ _ _ h => h) (Or.inr ⟨by rfl, rfl⟩) hHeld ?_
  simp only [Act.put, List.setIfInBounds_toArray, List.set_cons_zero, List.set_cons_succ]
  refine wpAnyH_take (i := 9) (oi := ⟨some 14, _, _, _, _, _⟩) (v := undef) rfl (by kernel_rfl) (by kernel_rfl) (by kernel_rfl) (fun _ _ _ h => h) (Or.inr ⟨by rfl, rfl⟩) hHeld ?_
  simp only [Act.put, List.setIfInBounds_toArray, List.set_cons_zero, List.set_cons_succ]
  refine wpAnyH_take (i := 10) (oi := ⟨some 15, _, _, _, _, _⟩) (v := undef) rfl (by kernel_rfl) (by kernel_rfl) (by kernel_rfl) (fun _ _ _ h => h) (Or.inr ⟨by rfl, rfl⟩) hHeld ?_
  simp only [Act.put, List.setIfInBounds_toArray, List.set_cons_zero, List.set_cons_succ]
  refine wpAnyH_take (i := 12) (oi := ⟨some 17, _, _, _, _, _⟩) (v := undef) rfl (by kernel_rfl) (by kernel_rfl) (by kernel_rfl) (fun _ _ _ h => h) (Or.inr ⟨by rfl, rfl⟩) hHeld ?_
  simp only [Act.put, List.setIfInBounds_toArray, List.set_cons_zero, List.set_cons_succ]
  refine wpAnyH_take (i := 13) (oi := ⟨some 18, _, _, _, _, _⟩) (v := undef) rfl (by kernel_rfl) (by kernel_rfl) (by kernel_rfl) (fun _ _ _ h => h) (Or.inr ⟨by rfl, rfl⟩) hHeld ?_
  simp only [Act.put, List.setIfInBounds_toArray, List.set_cons_zero, List.set_cons_succ]
  refine wpAnyH_ready (rs := [11]) (by kernel_rfl) (by simp) ?_
  refine AllReadyH.cons (o := ⟨some 16, _, _, _, _, _⟩) rfl (fun K hK => ?_) AllReadyH.nil
  go_simp
  refine hK.out _ _ hHeld (fun hNext => ?_)
  clear hK K hHeld
  have hHeld := hNext
  clear hNext
  try simp only [Act.put, List.setIfInBounds_toArray, List.set_cons_zero, List.set_cons_succ]
  refine wpAnyH_take (i := 14) (oi := ⟨some 19, _, _, _, _, _⟩) (v := undef) rfl (by kernel_rfl) (by kernel_rfl) (by kernel_rfl) (fun _ _ _ h => h) (Or.inr ⟨by rfl, rfl⟩) hHeld ?_
  simp only [Act.put, List.setIfInBounds_toArray, List.set_cons_zero, List.set_cons_succ]
  refine wpAnyH_take (i := 15) (oi := ⟨some 20, _, _, _, _, _⟩) (v := ?vu15) rfl (by kernel_rfl) (by kernel_rfl) (by kernel_rfl) (fun _ _ _ h => h) (Or.inl ⟨by rfl, ?yu15⟩) hHeld ?ru15
  case yu15 => (intro w' hSw; (try dsimp only at hSw); go_simp; try (with_reducible rfl))
  simp only [Act.put, List.setIfInBounds_toArray, List.set_cons_zero, List.set_cons_succ]
  refine wpAnyH_take (i := 16) (oi := ⟨some 21, _, _, _, _, _⟩) (v := ?vu16) rfl (by kernel_rfl) (by kernel_rfl) (by kernel_rfl) (fun _ _ _ h => h) (Or.inl ⟨by rfl, ?yu16⟩) hHeld ?ru16
  case yu16 => (intro w' hSw; (try dsimp only at hSw); go_simp; try (with_reducible rfl))
  simp only [Act.put, List.setIfInBounds_toArray, List.set_cons_zero, List.set_cons_succ]
  refine wpAnyH_take (i := 17) (oi := ⟨some 22, _, _, _, _, _⟩) (v := undef) rfl (by kernel_rfl) (by kernel_rfl) (by kernel_rfl) (fun _ _ _ h => h) (Or.inr ⟨by rfl, rfl⟩) hHeld ?_
  simp only [Act.put, List.setIfInBounds_toArray, List.set_cons_zero, List.set_cons_succ]
  refine wpAnyH_take (i := 18) (oi := ⟨some 23, _, _, _, _, _⟩) (v := undef) rfl (by kernel_rfl) (by kernel_rfl) (by kernel_rfl) (fun _ _ _ h => h) (Or.inr ⟨by rfl, rfl⟩) hHeld ?_
  simp only [Act.put, List.setIfInBounds_toArray, List.set_cons_zero, List.set_cons_succ]
  refine wpAnyH_ready (rs := [19]) (by kernel_rfl) (by simp) ?_
  refine AllReadyH.cons (o := ⟨some 24, _, _, _, _, _⟩) rfl (fun K hK => ?_) AllReadyH.nil
  go_simp
  refine hK.out _ _ hHeld (fun hNext => ?_)
  clear hK K hHeld
  have hHeld := hNext
  clear hNext
  try simp only [Act.put, List.setIfInBounds_toArray, List.set_cons_zero, List.set_cons_succ]
  refine wpAnyH_take (i := 20) (oi := ⟨some 25, _, _, _, _, _⟩) (v := ?vu20) rfl (by kernel_rfl) (by kernel_rfl) (by kernel_rfl) (fun _ _ _ h => h) (Or.inl ⟨by rfl, ?yu20⟩) hHeld ?ru20
  case yu20 => (intro w' hSw; (try dsimp only at hSw); go_simp; try (with_reducible rfl))
  simp only [Act.put, List.setIfInBounds_toArray, List.set_cons_zero, List.set_cons_succ]
  refine wpAnyH_take (i := 21) (oi := ⟨some 4, _, _, _, _, _⟩) (v := ?vu21) rfl (by kernel_rfl) (by kernel_rfl) (by kernel_rfl) (fun _ _ _ h => h) (Or.inl ⟨by rfl, ?yu21⟩) hHeld ?ru21
  case yu21 => (intro w' hSw; (try dsimp only at hSw); go_simp; try (with_reducible rfl))
  simp only [Act.put, List.setIfInBounds_toArray, List.set_cons_zero, List.set_cons_succ]
  refine wpAnyH_done (by kernel_rfl) ?_ _
  go_wp2
  go_ret
  exact ⟨rfl, hHeld.1⟩

set_option maxHeartbeats 1000000 in
theorem within_no2 (avh avl ach acl bvh bvl bch bcl : BitVec 64) (w : World) (h1 : sndB avh avl ach acl = true) (h2 : sndB bvh bvl bch bcl = false) :
    Calls Tryz.prog 71 #[.agg #[.int .u64 (uv avh), .int .u64 (uv avl), .int .u64 (uv ach), .int .u64 (uv acl)], .agg #[.int .u64 (uv bvh), .int .u64 (uv bvl), .int .u64 (uv bch), .int .u64 (uv bcl)]] w fun e w' => e = .returned (.bool false) ∧ Below w.heap.size w w' := by
  have S0 : Below w.heap.size w ((w.alloc (.cells #[.int .u64 (uv avh), .int .u64 (uv avl), .int .u64 (uv ach), .int .u64 (uv acl)] 53)).alloc (.cells #[.int .u64 (uv bvh), .int .u64 (uv bvl), .int .u64 (uv bch), .int .u64 (uv bcl)] 53)) ∧ ((w.alloc (.cells #[.int .u64 (uv avh), .int .u64 (uv avl), .int .u64 (uv ach), .int .u64 (uv acl)] 53)).alloc (.cells #[.int .u64 (uv bvh), .int .u64 (uv bvl), .int .u64 (uv bch), .int .u64 (uv bcl)] 53)).cell? ⟨w.heap.size, 0, none⟩ = some (.int .u64 (uv avh)) ∧ ((w.alloc (.cells #[.int .u64 (uv avh), .int .u64 (uv avl), .int .u64 (uv ach), .int .u64 (uv acl)] 53)).alloc (.cells #[.int .u64 (uv bvh), .int .u64 (uv bvl), .int .u64 (uv bch), .int .u64 (uv bcl)] 53)).cell? ⟨w.heap.size, 1, none⟩ = some (.int .u64 (uv avl)) ∧ ((w.alloc (.cells #[.int .u64 (uv avh), .int .u64 (uv avl), .int .u64 (uv ach), .int .u64 (uv acl)] 53)).alloc (.cells #[.int .u64 (uv bvh), .int .u64 (uv bvl), .int .u64 (uv bch), .int .u64 (uv bcl)] 53)).cell? ⟨w.heap.size, 2, none⟩ = some (.int .u64 (uv ach)) ∧ ((w.alloc (.cells #[.int .u64 (uv avh), .int .u64 (uv avl), .int .u64 (uv ach), .int .u64 (uv acl)] 53)).alloc (.cells #[.int .u64 (uv bvh), .int .u64 (uv bvl), .int .u64 (uv bch), .int .u64 (uv bcl)] 53)).cell? ⟨w.heap.size, 3, none⟩ = some (.int .u64 (uv acl)) ∧ ((w.alloc (.cells #[.int .u64 (uv avh), .int .u64 (uv avl), .int .u64 (uv ach), .int .u64 (uv acl)] 53)).alloc (.cells #[.int .u64 (uv bvh), .int .u64 (uv bvl), .int .u64 (uv bch), .int .u64 (uv bcl)] 53)).cell? ⟨w.heap.size + 1, 0, none⟩ = some (.int .u64 (uv bvh)) ∧ ((w.alloc (.cells #[.int .u64 (uv avh), .int .u64 (uv avl), .int .u64 (uv ach), .int .u64 (uv acl)] 53)).alloc (.cells #[.int .u64 (uv bvh), .int .u64 (uv bvl), .int .u64 (uv bch), .int .u64 (uv bcl)] 53)).cell? ⟨w.heap.size + 1, 1, none⟩ = some (.int .u64 (uv bvl)) ∧ ((w.alloc (.cells #[.int .u64 (uv avh), .int .u64 (uv avl), .int .u64 (uv ach), .int .u64 (uv acl)] 53)).alloc (.cells #[.int .u64 (uv bvh), .int .u64 (uv bvl), .int .u64 (uv bch), .int .u64 (uv bcl)] 53)).cell? ⟨w.heap.size + 1, 2, none⟩ = some (.int .u64 (uv bch)) ∧ ((w.alloc (.cells #[.int .u64 (uv avh), .int .u64 (uv avl), .int .u64 (uv ach), .int .u64 (uv acl)] 53)).alloc (.cells #[.int .u64 (uv bvh), .int .u64 (uv bvl), .int .u64 (uv bch), .int .u64 (uv bcl)] 53)).cell? ⟨w.heap.size + 1, 3, none⟩ = some (.int .u64 (uv bcl)) := ⟨below2 w (.cells #[.int .u64 (uv avh), .int .u64 (uv avl), .int .u64 (uv ach), .int .u64 (uv acl)] 53) (.cells #[.int .u64 (uv bvh), .int .u64 (uv bvl), .int .u64 (uv bch), .int .u64 (uv bcl)] 53), by go_simp, by go_simp, by go_simp, by go_simp, by go_simp, by go_simp, by go_simp, by go_simp⟩
  go_enter Tryz.func71, Tryz.ntmps71
  go_wp2_with fail
  refine wp_region_held_drew (S := fun w' => Below w.heap.size w w' ∧ w'.cell? ⟨w.heap.size, 0, none⟩ = some (.int .u64 (uv avh)) ∧ w'.cell? ⟨w.heap.size, 1, none⟩ = some (.int .u64 (uv avl)) ∧ w'.cell? ⟨w.heap.size, 2, none⟩ = some (.int .u64 (uv ach)) ∧ w'.cell? ⟨w.heap.size, 3, none⟩ = some (.int .u64 (uv acl)) ∧ w'.cell? ⟨w.heap.size + 1, 0, none⟩ = some (.int .u64 (uv bvh)) ∧ w'.cell? ⟨w.heap.size + 1, 1, none⟩ = some (.int .u64 (uv bvl)) ∧ w'.cell? ⟨w.heap.size + 1, 2, none⟩ = some (.int .u64 (uv bch)) ∧ w'.cell? ⟨w.heap.size + 1, 3, none⟩ = some (.int .u64 (uv bcl))) (by kernel_rfl) ⟨S0.1.drew, S0.2⟩ (fun hHeld => ?_)
  refine wpAnyH_take (i := 0) (oi := ⟨some 5, _, _, _, _, _⟩) (v := ?vu0) rfl (by kernel_rfl) (by kernel_rfl) (by kernel_rfl) (fun _ _ _ h => h) (Or.inl ⟨by rfl, ?yu0⟩) hHeld ?ru0
  case yu0 => (intro w' hSw; (try dsimp only at hSw); go_simp; try (with_reducible rfl))
  simp only [Act.put, List.setIfInBounds_toArray, List.set_cons_zero, List.set_cons_succ]
  refine wpAnyH_ready (rs := [1]) (by kernel_rfl) (by simp) ?_
  refine AllReadyH.cons (o := ⟨some 6, _, _, _, _, _⟩) rfl (fun K hK => ?_) AllReadyH.nil
  go_simp
  (with_reducible refine (sound_is _ _ _ _ _ _ h1).mono ?_)
  rintro e w5 ⟨rfl, hb⟩
  (try dsimp only)
  refine hK.out _ _ (hold8 hb hHeld) (fun hNext => ?_)
  clear hK K hHeld hb
  have hHeld := hNext
  clear hNext
  try simp only [Act.put, List.setIfInBounds_toArray, List.set_cons_zero, List.set_cons_succ]
  refine wpAnyH_take (i := 2) (oi := ⟨some 7, _, _, _, _, _⟩) (v := ?vu2) rfl (by kernel_rfl) (by kernel_rfl) (by kernel_rfl) (fun _ _ _ h => h) (Or.inl ⟨by rfl, ?yu2⟩) hHeld ?ru2
  case yu2 => (intro w' hSw; (try dsimp only at hSw); go_simp; try (with_reducible rfl))
  simp only [Act.put, List.setIfInBounds_toArray, List.set_cons_zero, List.set_cons_succ]
  refine wpAnyH_take (i := 3) (oi := ⟨some 8, _, _, _, _, _⟩) (v := ?vu3) rfl (by kernel_rfl) (by kernel_rfl) (by kernel_rfl) (fun _ _ _ h => h) (Or.inl ⟨by rfl, ?yu3⟩) hHeld ?ru3
  case yu3 => (intro w' hSw; (try dsimp only at hSw); go_simp; try (with_reducible rfl))
  simp only [Act.put, List.setIfInBounds_toArray, List.set_cons_zero, List.set_cons_succ]
  refine wpAnyH_ready (rs := [4]) (by kernel_rfl) (by simp) ?_
  refine AllReadyH.cons (o := ⟨some 9, _, _, _, _, _⟩) rfl (fun K hK => ?_) AllReadyH.nil
  go_simp
  (with_reducible refine (sound_is _ _ _ _ _ _ h2).mono ?_)
  rintro e w5 ⟨rfl, hb⟩
  (try dsimp only)
  refine hK.out _ _ (hold8 hb hHeld) (fun hNext => ?_)
  clear hK K hHeld hb
  have hHeld := hNext
  clear hNext
  try simp only [Act.put, List.setIfInBounds_toArray, List.set_cons_zero, List.set_cons_succ]
  refine wpAnyH_take (i := 5) (oi := ⟨some 10, _, _, _, _, _⟩) (v := ?vu5) rfl (by kernel_rfl) (by kernel_rfl) (by kernel_rfl) (fun _ _ _ h => h) (Or.inl ⟨by rfl, ?yu5⟩) hHeld ?ru5
  case yu5 => (intro w' hSw; (try dsimp only at hSw); go_simp; try (with_reducible rfl))
  simp only [Act.put, List.setIfInBounds_toArray, List.set_cons_zero, List.set_cons_succ]
  refine wpAnyH_take (i := 6) (oi := ⟨some 11, _, _, _, _, _⟩) (v := ?vu6) rfl (by kernel_rfl) (by kernel_rfl) (by kernel_rfl) (fun _ _ _ h => h) (Or.inl ⟨by rfl, ?yu6⟩) hHeld ?ru6
  case yu6 => (intro w' hSw; (try dsimp only at hSw); go_simp; try (with_reducible rfl))
  simp only [Act.put, List.setIfInBounds_toArray, List.set_cons_zero, List.set_cons_succ]
  refine wpAnyH_take (i := 7) (oi := ⟨some 12, _, _, _, _, _⟩) (v := undef) rfl (by kernel_rfl) (by kernel_rfl) (by kernel_rfl) (fun _ _ _ h => h) (Or.inr ⟨by rfl, rfl⟩) hHeld ?_
  simp only [Act.put, List.setIfInBounds_toArray, List.set_cons_zero, List.set_cons_succ]
  refine wpAnyH_take (i := 8) (oi := ⟨some 13, _, _, _, _, _⟩) (v := undef) rfl (by kernel_rfl) (by kernel_rfl) (by kernel_rfl) (fun _ _ _ h => h) (Or.inr ⟨by rfl, rfl⟩) hHeld ?_
  simp only [Act.put, List.setIfInBounds_toArray, List.set_cons_zero, List.set_cons_succ]
  refine wpAnyH_take (i := 9) (oi := ⟨some 14, _, _, _, _, _⟩) (v := undef) rfl (by kernel_rfl) (by kernel_rfl) (by kernel_rfl) (fun _ _ _ h => h) (Or.inr ⟨by rfl, rfl⟩) hHeld ?_
  simp only [Act.put, List.setIfInBounds_toArray, List.set_cons_zero, List.set_cons_succ]
  refine wpAnyH_take (i := 10) (oi := ⟨some 15, _, _, _, _, _⟩) (v := undef) rfl (by kernel_rfl) (by kernel_rfl) (by kernel_rfl) (fun _ _ _ h => h) (Or.inr ⟨by rfl, rfl⟩) hHeld ?_
  simp only [Act.put, List.setIfInBounds_toArray, List.set_cons_zero, List.set_cons_succ]
  refine wpAnyH_take (i := 12) (oi := ⟨some 17, _, _, _, _, _⟩) (v := undef) rfl (by kernel_rfl) (by kernel_rfl) (by kernel_rfl) (fun _ _ _ h => h) (Or.inr ⟨by rfl, rfl⟩) hHeld ?_
  simp only [Act.put, List.setIfInBounds_toArray, List.set_cons_zero, List.set_cons_succ]
  refine wpAnyH_take (i := 13) (oi := ⟨some 18, _, _, _, _, _⟩) (v := undef) rfl (by kernel_rfl) (by kernel_rfl) (by kernel_rfl) (fun _ _ _ h => h) (Or.inr ⟨by rfl, rfl⟩) hHeld ?_
  simp only [Act.put, List.setIfInBounds_toArray, List.set_cons_zero, List.set_cons_succ]
  refine wpAnyH_ready (rs := [11]) (by kernel_rfl) (by simp) ?_
  refine AllReadyH.cons (o := ⟨some 16, _, _, _, _, _⟩) rfl (fun K hK => ?_) AllReadyH.nil
  go_simp
  refine hK.out _ _ hHeld (fun hNext => ?_)
  clear hK K hHeld
  have hHeld := hNext
  clear hNext
  try simp only [Act.put, List.setIfInBounds_toArray, List.set_cons_zero, List.set_cons_succ]
  refine wpAnyH_take (i := 14) (oi := ⟨some 19, _, _, _, _, _⟩) (v := undef) rfl (by kernel_rfl) (by kernel_rfl) (by kernel_rfl) (fun _ _ _ h => h) (Or.inr ⟨by rfl, rfl⟩) hHeld ?_
  simp only [Act.put, List.setIfInBounds_toArray, List.set_cons_zero, List.set_cons_succ]
  refine wpAnyH_take (i := 15) (oi := ⟨some 20, _, _, _, _, _⟩) (v := ?vu15) rfl (by kernel_rfl) (by kernel_rfl) (by kernel_rfl) (fun _ _ _ h => h) (Or.inl ⟨by rfl, ?yu15⟩) hHeld ?ru15
  case yu15 => (intro w' hSw; (try dsimp only at hSw); go_simp; try (with_reducible rfl))
  simp only [Act.put, List.setIfInBounds_toArray, List.set_cons_zero, List.set_cons_succ]
  refine wpAnyH_take (i := 16) (oi := ⟨some 21, _, _, _, _, _⟩) (v := ?vu16) rfl (by kernel_rfl) (by kernel_rfl) (by kernel_rfl) (fun _ _ _ h => h) (Or.inl ⟨by rfl, ?yu16⟩) hHeld ?ru16
  case yu16 => (intro w' hSw; (try dsimp only at hSw); go_simp; try (with_reducible rfl))
  simp only [Act.put, List.setIfInBounds_toArray, List.set_cons_zero, List.set_cons_succ]
  refine wpAnyH_take (i := 17) (oi := ⟨some 22, _, _, _, _, _⟩) (v := undef) rfl (by kernel_rfl) (by kernel_rfl) (by kernel_rfl) (fun _ _ _ h => h) (Or.inr ⟨by rfl, rfl⟩) hHeld ?_
  simp only [Act.put, List.setIfInBounds_toArray, List.set_cons_zero, List.set_cons_succ]
  refine wpAnyH_take (i := 18) (oi := ⟨some 23, _, _, _, _, _⟩) (v := undef) rfl (by kernel_rfl) (by kernel_rfl) (by kernel_rfl) (fun _ _ _ h => h) (Or.inr ⟨by rfl, rfl⟩) hHeld ?_
  simp only [Act.put, List.setIfInBounds_toArray, List.set_cons_zero, List.set_cons_succ]
  refine wpAnyH_ready (rs := [19]) (by kernel_rfl) (by simp) ?_
  refine AllReadyH.cons (o := ⟨some 24, _, _, _, _, _⟩) rfl (fun K hK => ?_) AllReadyH.nil
  go_simp
  refine hK.out _ _ hHeld (fun hNext => ?_)
  clear hK K hHeld
  have hHeld := hNext
  clear hNext
  try simp only [Act.put, List.setIfInBounds_toArray, List.set_cons_zero, List.set_cons_succ]
  refine wpAnyH_take (i := 20) (oi := ⟨some 25, _, _, _, _, _⟩) (v := ?vu20) rfl (by kernel_rfl) (by kernel_rfl) (by kernel_rfl) (fun _ _ _ h => h) (Or.inl ⟨by rfl, ?yu20⟩) hHeld ?ru20
  case yu20 => (intro w' hSw; (try dsimp only at hSw); go_simp; try (with_reducible rfl))
  simp only [Act.put, List.setIfInBounds_toArray, List.set_cons_zero, List.set_cons_succ]
  refine wpAnyH_take (i := 21) (oi := ⟨some 4, _, _, _, _, _⟩) (v := ?vu21) rfl (by kernel_rfl) (by kernel_rfl) (by kernel_rfl) (fun _ _ _ h => h) (Or.inl ⟨by rfl, ?yu21⟩) hHeld ?ru21
  case yu21 => (intro w' hSw; (try dsimp only at hSw); go_simp; try (with_reducible rfl))
  simp only [Act.put, List.setIfInBounds_toArray, List.set_cons_zero, List.set_cons_succ]
  refine wpAnyH_done (by kernel_rfl) ?_ _
  go_wp2
  go_ret
  exact ⟨rfl, hHeld.1⟩

set_option maxHeartbeats 1000000 in
theorem within_no3 (avh avl ach acl bvh bvl bch bcl : BitVec 64) (w : World) (h1 : sndB avh avl ach acl = true) (h2 : sndB bvh bvl bch bcl = true) (h3 : eq2 (uv (ach &&& bch)) (uv (acl &&& bcl)) (uv bch) (uv bcl) = false) :
    Calls Tryz.prog 71 #[.agg #[.int .u64 (uv avh), .int .u64 (uv avl), .int .u64 (uv ach), .int .u64 (uv acl)], .agg #[.int .u64 (uv bvh), .int .u64 (uv bvl), .int .u64 (uv bch), .int .u64 (uv bcl)]] w fun e w' => e = .returned (.bool false) ∧ Below w.heap.size w w' := by
  have S0 : Below w.heap.size w ((w.alloc (.cells #[.int .u64 (uv avh), .int .u64 (uv avl), .int .u64 (uv ach), .int .u64 (uv acl)] 53)).alloc (.cells #[.int .u64 (uv bvh), .int .u64 (uv bvl), .int .u64 (uv bch), .int .u64 (uv bcl)] 53)) ∧ ((w.alloc (.cells #[.int .u64 (uv avh), .int .u64 (uv avl), .int .u64 (uv ach), .int .u64 (uv acl)] 53)).alloc (.cells #[.int .u64 (uv bvh), .int .u64 (uv bvl), .int .u64 (uv bch), .int .u64 (uv bcl)] 53)).cell? ⟨w.heap.size, 0, none⟩ = some (.int .u64 (uv avh)) ∧ ((w.alloc (.cells #[.int .u64 (uv avh), .int .u64 (uv avl), .int .u64 (uv ach), .int .u64 (uv acl)] 53)).alloc (.cells #[.int .u64 (uv bvh), .int .u64 (uv bvl), .int .u64 (uv bch), .int .u64 (uv bcl)] 53)).cell? ⟨w.heap.size, 1, none⟩ = some (.int .u64 (uv avl)) ∧ ((w.alloc (.cells #[.int .u64 (uv avh), .int .u64 (uv avl), .int .u64 (uv ach), .int .u64 (uv acl)] 53)).alloc (.cells #[.int .u64 (uv bvh), .int .u64 (uv bvl), .int .u64 (uv bch), .int .u64 (uv bcl)] 53)).cell? ⟨w.heap.size, 2, none⟩ = some (.int .u64 (uv ach)) ∧ ((w.alloc (.cells #[.int .u64 (uv avh), .int .u64 (uv avl), .int .u64 (uv ach), .int .u64 (uv acl)] 53)).alloc (.cells #[.int .u64 (uv bvh), .int .u64 (uv bvl), .int .u64 (uv bch), .int .u64 (uv bcl)] 53)).cell? ⟨w.heap.size, 3, none⟩ = some (.int .u64 (uv acl)) ∧ ((w.alloc (.cells #[.int .u64 (uv avh), .int .u64 (uv avl), .int .u64 (uv ach), .int .u64 (uv acl)] 53)).alloc (.cells #[.int .u64 (uv bvh), .int .u64 (uv bvl), .int .u64 (uv bch), .int .u64 (uv bcl)] 53)).cell? ⟨w.heap.size + 1, 0, none⟩ = some (.int .u64 (uv bvh)) ∧ ((w.alloc (.cells #[.int .u64 (uv avh), .int .u64 (uv avl), .int .u64 (uv ach), .int .u64 (uv acl)] 53)).alloc (.cells #[.int .u64 (uv bvh), .int .u64 (uv bvl), .int .u64 (uv bch), .int .u64 (uv bcl)] 53)).cell? ⟨w.heap.size + 1, 1, none⟩ = some (.int .u64 (uv bvl)) ∧ ((w.alloc (.cells #[.int .u64 (uv avh), .int .u64 (uv avl), .int .u64 (uv ach), .int .u64 (uv acl)] 53)).alloc (.cells #[.int .u64 (uv bvh), .int .u64 (uv bvl), .int .u64 (uv bch), .int .u64 (uv bcl)] 53)).cell? ⟨w.heap.size + 1, 2, none⟩ = some (.int .u64 (uv bch)) ∧ ((w.alloc (.cells #[.int .u64 (uv avh), .int .u64 (uv avl), .int .u64 (uv ach), .int .u64 (uv acl)] 53)).alloc (.cells #[.int .u64 (uv bvh), .int .u64 (uv bvl), .int .u64 (uv bch), .int .u64 (uv bcl)] 53)).cell? ⟨w.heap.size + 1, 3, none⟩ = some (.int .u64 (uv bcl)) := ⟨below2 w (.cells #[.int .u64 (uv avh), .int .u64 (uv avl), .int .u64 (uv ach), .int .u64 (uv acl)] 53) (.cells #[.int .u64 (uv bvh), .int .u64 (uv bvl), .int .u64 (uv bch), .int .u64 (uv bcl)] 53), by go_simp, by go_simp, by go_simp, by go_simp, by go_simp, by go_simp, by go_simp, by go_simp⟩
  go_enter Tryz.func71, Tryz.ntmps71
  go_wp2_with fail
  refine wp_region_held_drew (S := fun w' => Below w.heap.size w w' ∧ w'.cell? ⟨w.heap.size, 0, none⟩ = some (.int .u64 (uv avh)) ∧ w'.cell? ⟨w.heap.size, 1, none⟩ = some (.int .u64 (uv avl)) ∧ w'.cell? ⟨w.heap.size, 2, none⟩ = some (.int .u64 (uv ach)) ∧ w'.cell? ⟨w.heap.size, 3, none⟩ = some (.int .u64 (uv acl)) ∧ w'.cell? ⟨w.heap.size + 1, 0, none⟩ = some (.int .u64 (uv bvh)) ∧ w'.cell? ⟨w.heap.size + 1, 1, none⟩ = some (.int .u64 (uv bvl)) ∧ w'.cell? ⟨w.heap.size + 1, 2, none⟩ = some (.int .u64 (uv bch)) ∧ w'.cell? ⟨w.heap.size + 1, 3, none⟩ = some (.int .u64 (uv bcl))) (by kernel_rfl) ⟨S0.1.drew, S0.2⟩ (fun hHeld => ?_)
  refine wpAnyH_take (i := 0) (oi := ⟨some 5, _, _, _, _, _⟩) (v := ?vu0) rfl (by kernel_rfl) (by kernel_rfl) (by kernel_rfl) (fun _ _ _ h => h) (Or.inl ⟨by rfl, ?yu0⟩) hHeld ?ru0
  case yu0 => (intro w' hSw; (try dsimp only at hSw); go_simp; try (with_reducible rfl))
  simp only [Act.put, List.setIfInBounds_toArray, List.set_cons_zero, List.set_cons_succ]
  refine wpAnyH_ready (rs := [1]) (by kernel_rfl) (by simp) ?_
  refine AllReadyH.cons (o := ⟨some 6, _, _, _, _, _⟩) rfl (fun K hK => ?_) AllReadyH.nil
  go_simp
  (with_reducible refine (sound_is _ _ _ _ _ _ h1).mono ?_)
  rintro e w5 ⟨rfl, hb⟩
  (try dsimp only)
  refine hK.out _ _ (hold8 hb hHeld) (fun hNext => ?_)
  clear hK K hHeld hb
  have hHeld := hNext
  clear hNext
  try simp only [Act.put, List.setIfInBounds_toArray, List.set_cons_zero, List.set_cons_succ]
  refine wpAnyH_take (i := 2) (oi := ⟨some 7, _, _, _, _, _⟩) (v := ?vu2) rfl (by kernel_rfl) (by kernel_rfl) (by kernel_rfl) (fun _ _ _ h => h) (Or.inl ⟨by rfl, ?yu2⟩) hHeld ?ru2
  case yu2 => (intro w' hSw; (try dsimp only at hSw); go_simp; try (with_reducible rfl))
  simp only [Act.put, List.setIfInBounds_toArray, List.set_cons_zero, List.set_cons_succ]
  refine wpAnyH_take (i := 3) (oi := ⟨some 8, _, _, _, _, _⟩) (v := ?vu3) rfl (by kernel_rfl) (by kernel_rfl) (by kernel_rfl) (fun _ _ _ h => h) (Or.inl ⟨by rfl, ?yu3⟩) hHeld ?ru3
  case yu3 => (intro w' hSw; (try dsimp only at hSw); go_simp; try (with_reducible rfl))
  simp only [Act.put, List.setIfInBounds_toArray, List.set_cons_zero, List.set_cons_succ]
  refine wpAnyH_ready (rs := [4]) (by kernel_rfl) (by simp) ?_
  refine AllReadyH.cons (o := ⟨some 9, _, _, _, _, _⟩) rfl (fun K hK => ?_) AllReadyH.nil
  go_simp
  (with_reducible refine (sound_is _ _ _ _ _ _ h2).mono ?_)
  rintro e w5 ⟨rfl, hb⟩
  (try dsimp only)
  refine hK.out _ _ (hold8 hb hHeld) (fun hNext => ?_)
  clear hK K hHeld hb
  have hHeld := hNext
  clear hNext
  try simp only [Act.put, List.setIfInBounds_toArray, List.set_cons_zero, List.set_cons_succ]
  refine wpAnyH_take (i := 5) (oi := ⟨some 10, _, _, _, _, _⟩) (v := ?vu5) rfl (by kernel_rfl) (by kernel_rfl) (by kernel_rfl) (fun _ _ _ h => h) (Or.inl ⟨by rfl, ?yu5⟩) hHeld ?ru5
  case yu5 => (intro w' hSw; (try dsimp only at hSw); go_simp; try (with_reducible rfl))
  simp only [Act.put, List.setIfInBounds_toArray, List.set_cons_zero, List.set_cons_succ]
  refine wpAnyH_take (i := 6) (oi := ⟨some 11, _, _, _, _, _⟩) (v := ?vu6) rfl (by kernel_rfl) (by kernel_rfl) (by kernel_rfl) (fun _ _ _ h => h) (Or.inl ⟨by rfl, ?yu6⟩) hHeld ?ru6
  case yu6 => (intro w' hSw; (try dsimp only at hSw); go_simp; try (with_reducible rfl))
  simp only [Act.put, List.setIfInBounds_toArray, List.set_cons_zero, List.set_cons_succ]
  refine wpAnyH_take (i := 7) (oi := ⟨some 12, _, _, _, _, _⟩) (v := ?vu7) rfl (by kernel_rfl) (by kernel_rfl) (by kernel_rfl) (fun _ _ _ h => h) (Or.inl ⟨by rfl, ?yu7⟩) hHeld ?ru7
  case yu7 => (intro w' hSw; (try dsimp only at hSw); go_simp; try (with_reducible rfl))
  simp only [Act.put, List.setIfInBounds_toArray, List.set_cons_zero, List.set_cons_succ]
  refine wpAnyH_take (i := 8) (oi := ⟨some 13, _, _, _, _, _⟩) (v := ?vu8) rfl (by kernel_rfl) (by kernel_rfl) (by kernel_rfl) (fun _ _ _ h => h) (Or.inl ⟨by rfl, ?yu8⟩) hHeld ?ru8
  case yu8 => (intro w' hSw; (try dsimp only at hSw); go_simp; try (with_reducible rfl))
  simp only [Act.put, List.setIfInBounds_toArray, List.set_cons_zero, List.set_cons_succ]
  refine wpAnyH_take (i := 9) (oi := ⟨some 14, _, _, _, _, _⟩) (v := ?vu9) rfl (by kernel_rfl) (by kernel_rfl) (by kernel_rfl) (fun _ _ _ h => h) (Or.inl ⟨by rfl, ?yu9⟩) hHeld ?ru9
  case yu9 => (intro w' hSw; (try dsimp only at hSw); go_simp; try (with_reducible rfl))
  simp only [Act.put, List.setIfInBounds_toArray, List.set_cons_zero, List.set_cons_succ]
  refine wpAnyH_take (i := 10) (oi := ⟨some 15, _, _, _, _, _⟩) (v := ?vu10) rfl (by kernel_rfl) (by kernel_rfl) (by kernel_rfl) (fun _ _ _ h => h) (Or.inl ⟨by rfl, ?yu10⟩) hHeld ?ru10
  case yu10 => (intro w' hSw; (try dsimp only at hSw); go_simp; try (with_reducible rfl))
  simp only [Act.put, List.setIfInBounds_toArray, List.set_cons_zero, List.set_cons_succ]
  refine wpAnyH_take (i := 12) (oi := ⟨some 17, _, _, _, _, _⟩) (v := ?vu12) rfl (by kernel_rfl) (by kernel_rfl) (by kernel_rfl) (fun _ _ _ h => h) (Or.inl ⟨by rfl, ?yu12⟩) hHeld ?ru12
  case yu12 => (intro w' hSw; (try dsimp only at hSw); go_simp; try (with_reducible rfl))
  simp only [Act.put, List.setIfInBounds_toArray, List.set_cons_zero, List.set_cons_succ]
  refine wpAnyH_take (i := 13) (oi := ⟨some 18, _, _, _, _, _⟩) (v := ?vu13) rfl (by kernel_rfl) (by kernel_rfl) (by kernel_rfl) (fun _ _ _ h => h) (Or.inl ⟨by rfl, ?yu13⟩) hHeld ?ru13
  case yu13 => (intro w' hSw; (try dsimp only at hSw); go_simp; try (with_reducible rfl))
  simp only [Act.put, List.setIfInBounds_toArray, List.set_cons_zero, List.set_cons_succ]
  refine wpAnyH_ready (rs := [11]) (by kernel_rfl) (by simp) ?_
  refine AllReadyH.cons (o := ⟨some 16, _, _, _, _, _⟩) rfl (fun K hK => ?_) AllReadyH.nil
  go_simp
  (with_reducible refine (and_c _ _ _ _ _).mono ?_)
  rintro e w5 ⟨rfl, hb⟩
  (try dsimp only)
  refine hK.out _ _ (hold8 hb hHeld) (fun hNext => ?_)
  clear hK K hHeld hb
  have hHeld := hNext
  clear hNext
  try simp only [Act.put, List.setIfInBounds_toArray, List.set_cons_zero, List.set_cons_succ]
  refine wpAnyH_take (i := 14) (oi := ⟨some 19, _, _, _, _, _⟩) (v := ?vu14) rfl (by kernel_rfl) (by kernel_rfl) (by kernel_rfl) (fun _ _ _ h => h) (Or.inl ⟨by rfl, ?yu14⟩) hHeld ?ru14
  case yu14 => (intro w' hSw; (try dsimp only at hSw); go_simp; try (with_reducible rfl))
  simp only [Act.put, List.setIfInBounds_toArray, List.set_cons_zero, List.set_cons_succ]
  refine wpAnyH_take (i := 15) (oi := ⟨some 20, _, _, _, _, _⟩) (v := ?vu15) rfl (by kernel_rfl) (by kernel_rfl) (by kernel_rfl) (fun _ _ _ h => h) (Or.inl ⟨by rfl, ?yu15⟩) hHeld ?ru15
  case yu15 => (intro w' hSw; (try dsimp only at hSw); go_simp; try (with_reducible rfl))
  simp only [Act.put, List.setIfInBounds_toArray, List.set_cons_zero, List.set_cons_succ]
  refine wpAnyH_take (i := 16) (oi := ⟨some 21, _, _, _, _, _⟩) (v := ?vu16) rfl (by kernel_rfl) (by kernel_rfl) (by kernel_rfl) (fun _ _ _ h => h) (Or.inl ⟨by rfl, ?yu16⟩) hHeld ?ru16
  case yu16 => (intro w' hSw; (try dsimp only at hSw); go_simp; try (with_reducible rfl))
  simp only [Act.put, List.setIfInBounds_toArray, List.set_cons_zero, List.set_cons_succ]
  refine wpAnyH_take (i := 17) (oi := ⟨some 22, _, _, _, _, _⟩) (v := undef) rfl (by kernel_rfl) (by kernel_rfl) (by kernel_rfl) (fun _ _ _ h => h) (Or.inr ⟨by rfl, rfl⟩) hHeld ?_
  simp only [Act.put, List.setIfInBounds_toArray, List.set_cons_zero, List.set_cons_succ]
  refine wpAnyH_take (i := 18) (oi := ⟨some 23, _, _, _, _, _⟩) (v := undef) rfl (by kernel_rfl) (by kernel_rfl) (by kernel_rfl) (fun _ _ _ h => h) (Or.inr ⟨by rfl, rfl⟩) hHeld ?_
  simp only [Act.put, List.setIfInBounds_toArray, List.set_cons_zero, List.set_cons_succ]
  refine wpAnyH_ready (rs := [19]) (by kernel_rfl) (by simp) ?_
  refine AllReadyH.cons (o := ⟨some 24, _, _, _, _, _⟩) rfl (fun K hK => ?_) AllReadyH.nil
  go_simp
  refine hK.out _ _ hHeld (fun hNext => ?_)
  clear hK K hHeld
  have hHeld := hNext
  clear hNext
  try simp only [Act.put, List.setIfInBounds_toArray, List.set_cons_zero, List.set_cons_succ]
  refine wpAnyH_take (i := 20) (oi := ⟨some 25, _, _, _, _, _⟩) (v := ?vu20) rfl (by kernel_rfl) (by kernel_rfl) (by kernel_rfl) (fun _ _ _ h => h) (Or.inl ⟨by rfl, ?yu20⟩) hHeld ?ru20
  case yu20 => (intro w' hSw; (try dsimp only at hSw); go_simp; try (with_reducible rfl))
  simp only [Act.put, List.setIfInBounds_toArray, List.set_cons_zero, List.set_cons_succ]
  refine wpAnyH_take (i := 21) (oi := ⟨some 4, _, _, _, _, _⟩) (v := ?vu21) rfl (by kernel_rfl) (by kernel_rfl) (by kernel_rfl) (fun _ _ _ h => h) (Or.inl ⟨by rfl, ?yu21⟩) hHeld ?ru21
  case yu21 => (intro w' hSw; (try dsimp only at hSw); go_simp; try (with_reducible rfl))
  simp only [Act.put, List.setIfInBounds_toArray, List.set_cons_zero, List.set_cons_succ]
  refine wpAnyH_done (by kernel_rfl) ?_ _
  go_wp2
  go_ret
  exact ⟨rfl, hHeld.1⟩

set_option maxHeartbeats 1000000 in
theorem within_yes (avh avl ach acl bvh bvl bch bcl : BitVec 64) (w : World) (h1 : sndB avh avl ach acl = true) (h2 : sndB bvh bvl bch bcl = true) (h3 : eq2 (uv (ach &&& bch)) (uv (acl &&& bcl)) (uv bch) (uv bcl) = true) :
    Calls Tryz.prog 71 #[.agg #[.int .u64 (uv avh), .int .u64 (uv avl), .int .u64 (uv ach), .int .u64 (uv acl)], .agg #[.int .u64 (uv bvh), .int .u64 (uv bvl), .int .u64 (uv bch), .int .u64 (uv bcl)]] w fun e w' => e = .returned (.bool (agrB avh avl ach acl bvh bvl bch bcl)) ∧ Below w.heap.size w w' := by
  have S0 : Below w.heap.size w ((w.alloc (.cells #[.int .u64 (uv avh), .int .u64 (uv avl), .int .u64 (uv ach), .int .u64 (uv acl)] 53)).alloc (.cells #[.int .u64 (uv bvh), .int .u64 (uv bvl), .int .u64 (uv bch), .int .u64 (uv bcl)] 53)) ∧ ((w.alloc (.cells #[.int .u64 (uv avh), .int .u64 (uv avl), .int .u64 (uv ach), .int .u64 (uv acl)] 53)).alloc (.cells #[.int .u64 (uv bvh), .int .u64 (uv bvl), .int .u64 (uv bch), .int .u64 (uv bcl)] 53)).cell? ⟨w.heap.size, 0, none⟩ = some (.int .u64 (uv avh)) ∧ ((w.alloc (.cells #[.int .u64 (uv avh), .int .u64 (uv avl), .int .u64 (uv ach), .int .u64 (uv acl)] 53)).alloc (.cells #[.int .u64 (uv bvh), .int .u64 (uv bvl), .int .u64 (uv bch), .int .u64 (uv bcl)] 53)).cell? ⟨w.heap.size, 1, none⟩ = some (.int .u64 (uv avl)) ∧ ((w.alloc (.cells #[.int .u64 (uv avh), .int .u64 (uv avl), .int .u64 (uv ach), .int .u64 (uv acl)] 53)).alloc (.cells #[.int .u64 (uv bvh), .int .u64 (uv bvl), .int .u64 (uv bch), .int .u64 (uv bcl)] 53)).cell? ⟨w.heap.size, 2, none⟩ = some (.int .u64 (uv ach)) ∧ ((w.alloc (.cells #[.int .u64 (uv avh), .int .u64 (uv avl), .int .u64 (uv ach), .int .u64 (uv acl)] 53)).alloc (.cells #[.int .u64 (uv bvh), .int .u64 (uv bvl), .int .u64 (uv bch), .int .u64 (uv bcl)] 53)).cell? ⟨w.heap.size, 3, none⟩ = some (.int .u64 (uv acl)) ∧ ((w.alloc (.cells #[.int .u64 (uv avh), .int .u64 (uv avl), .int .u64 (uv ach), .int .u64 (uv acl)] 53)).alloc (.cells #[.int .u64 (uv bvh), .int .u64 (uv bvl), .int .u64 (uv bch), .int .u64 (uv bcl)] 53)).cell? ⟨w.heap.size + 1, 0, none⟩ = some (.int .u64 (uv bvh)) ∧ ((w.alloc (.cells #[.int .u64 (uv avh), .int .u64 (uv avl), .int .u64 (uv ach), .int .u64 (uv acl)] 53)).alloc (.cells #[.int .u64 (uv bvh), .int .u64 (uv bvl), .int .u64 (uv bch), .int .u64 (uv bcl)] 53)).cell? ⟨w.heap.size + 1, 1, none⟩ = some (.int .u64 (uv bvl)) ∧ ((w.alloc (.cells #[.int .u64 (uv avh), .int .u64 (uv avl), .int .u64 (uv ach), .int .u64 (uv acl)] 53)).alloc (.cells #[.int .u64 (uv bvh), .int .u64 (uv bvl), .int .u64 (uv bch), .int .u64 (uv bcl)] 53)).cell? ⟨w.heap.size + 1, 2, none⟩ = some (.int .u64 (uv bch)) ∧ ((w.alloc (.cells #[.int .u64 (uv avh), .int .u64 (uv avl), .int .u64 (uv ach), .int .u64 (uv acl)] 53)).alloc (.cells #[.int .u64 (uv bvh), .int .u64 (uv bvl), .int .u64 (uv bch), .int .u64 (uv bcl)] 53)).cell? ⟨w.heap.size + 1, 3, none⟩ = some (.int .u64 (uv bcl)) := ⟨below2 w (.cells #[.int .u64 (uv avh), .int .u64 (uv avl), .int .u64 (uv ach), .int .u64 (uv acl)] 53) (.cells #[.int .u64 (uv bvh), .int .u64 (uv bvl), .int .u64 (uv bch), .int .u64 (uv bcl)] 53), by go_simp, by go_simp, by go_simp, by go_simp, by go_simp, by go_simp, by go_simp, by go_simp⟩
  go_enter Tryz.func71, Tryz.ntmps71
  go_wp2_with fail
  go_region_held3 (fun w' => Below w.heap.size w w' ∧ w'.cell? ⟨w.heap.size, 0, none⟩ = some (.int .u64 (uv avh)) ∧ w'.cell? ⟨w.heap.size, 1, none⟩ = some (.int .u64 (uv avl)) ∧ w'.cell? ⟨w.heap.size, 2, none⟩ = some (.int .u64 (uv ach)) ∧ w'.cell? ⟨w.heap.size, 3, none⟩ = some (.int .u64 (uv acl)) ∧ w'.cell? ⟨w.heap.size + 1, 0, none⟩ = some (.int .u64 (uv bvh)) ∧ w'.cell? ⟨w.heap.size + 1, 1, none⟩ = some (.int .u64 (uv bvl)) ∧ w'.cell? ⟨w.heap.size + 1, 2, none⟩ = some (.int .u64 (uv bch)) ∧ w'.cell? ⟨w.heap.size + 1, 3, none⟩ = some (.int .u64 (uv bcl)))
    (first
      | exact hold8 (by assumption) (by assumption)
      | exact ⟨S0.1.drew, S0.2⟩)
    (first
      | (go_at_call 27; (with_reducible refine (sound_c _ _ _ _ _).mono ?_); rintro e w' ⟨rfl, hb⟩)
      | (go_at_call 48; (with_reducible refine (and_c _ _ _ _ _).mono ?_); rintro e w' ⟨rfl, hb⟩)
      | (go_at_call 85; (with_reducible refine (agree_c _ _ _ _ _ _ _ _ _).mono ?_); rintro e w' ⟨rfl, hb⟩))
  go_wp2
  go_ret
  exact ⟨rfl, And.left (by assumption)⟩
end Go.Proofs

namespace Go.Proofs
open Go.Shelf Go.RowKit Go.Proofs.Hd
def lzRen : Go.Shelf.Ren := ⟨fun | 134 => 133 | 129 => 100 | n => n, fun | 53 => 23 | 3 => 3 | 4 => 4 | 46 => 87 | 5 => 5 | 9 => 9 | n => n, fun | n => n⟩
theorem lzLays : Go.Proofs.Lays.n134 Tryz.prog lzRen where
  mixed := by kernel_rfl
  f129 := Tryz.func100.trans (congrArg some (by kernel_rfl))
  f134 := Tryz.func133.trans (congrArg some (by kernel_rfl))
  t3 := Tryz.underlying3
  a3 := Tryz.isAgg3
  z3 := Tryz.sizeOf3
  v3 := Tryz.zeroValue3
  t4 := Tryz.underlying4
  a4 := Tryz.isAgg4
  z4 := Tryz.sizeOf4
  v4 := Tryz.zeroValue4
  t5 := Tryz.underlying5
  a5 := Tryz.isAgg5
  z5 := Tryz.sizeOf5
  v5 := Tryz.zeroValue5
  t9 := Tryz.underlying9
  a9 := Tryz.isAgg9
  z9 := Tryz.sizeOf9
  v9 := Tryz.zeroValue9
  t46 := Tryz.underlying87
  a46 := Tryz.isAgg87
  z46 := Tryz.sizeOf87
  v46 := Tryz.zeroValue87
  t53 := Tryz.underlying23
  a53 := Tryz.isAgg23
  z53 := Tryz.sizeOf23
  v53 := Tryz.zeroValue23
theorem lz_c (a : BitVec 64) (w : World) : Calls Tryz.prog 133 #[.int .u64 (uv a)] w fun e w' => e = .returned (.int .i64 ((64 - Lib.bitLen a.toNat : Nat) : Int)) ∧ w = w' := by
  have h := Any.bits_LeadingZeros64 lzLays (uv a) w (uv_nonneg a) (by have := uv_lt a; omega)
  have l := Lib.bitLen_le a.toNat 64 (Nat.le_refl _) a.isLt
  have e1 : (uv a).toNat = a.toNat := by unfold uv; omega
  rw [e1] at h
  have e2 : ((64 - Lib.bitLen a.toNat : Nat) : Int) = 64 - (Lib.bitLen a.toNat : Int) := by omega
  rw [e2]
  exact h.mono fun e w' h => ⟨h.1, h.2.symm⟩
end Go.Proofs

namespace Go.Proofs
open Go.RowKit Go.Proofs.Hd
theorem uv_big_shr (k : Nat) : (9223372036854775808 : Int) / 2 ^ k = uv (9223372036854775808#64 >>> k) := uv_shr 9223372036854775808#64 k
attribute [local go_sem] uv_nonneg uv_big_shr
theorem neq_zero (x : BitVec 64) (h : x ≠ 0#64) : (uv x != 0) = true := by
  rw [uv_zero]; unfold bne; rw [uv_beq]; simpa using h

theorem lz_n (a : BitVec 64) (w : World) (n : Nat) (h : 64 - Lib.bitLen a.toNat = n) : Calls Tryz.prog 133 #[.int .u64 (uv a)] w fun e w' => e = .returned (.int .i64 (n : Int)) ∧ w = w' := by
  subst h; exact lz_c a w

theorem highest_hi (hh hl : BitVec 64) (w : World) (c : hh ≠ 0#64) : Calls Tryz.prog 120 #[.agg #[.int .u64 (uv hh), .int .u64 (uv hl)]] w fun e w' => e = .returned (.agg #[.int .u64 (uv (hiT hh hl)), .int .u64 (uv (loT hh hl))]) ∧ Below w.heap.size w w' := by
  have c1 := neq_zero hh c
  rw [hiT, loT, if_neg c, if_neg c]
  unfold topW
  obtain ⟨n, hn⟩ : ∃ n, 64 - Lib.bitLen hh.toNat = n := ⟨_, rfl⟩
  rw [hn]
  have h64 : n ≤ 64 := by omega
  have HN := Lib.hid hn
  clear hn c
  go_enter Tryz.func120, Tryz.ntmps120
  go_wp2_with (go_at_call 133; refine (lz_n _ _ n HN.out).mono ?_; rintro e w' ⟨rfl, rfl⟩)
  exact bodyPost_ret (v := .agg #[.int .u64 (uv (9223372036854775808#64 >>> n)), .int .u64 (uv 0#64)]) (by simp [results, Tryz.results120, go_sem, ← uv_zero]) rfl ⟨rfl, below2 _ _ _⟩

theorem highest_lo (hh hl : BitVec 64) (w : World) (c : hh = 0#64) : Calls Tryz.prog 120 #[.agg #[.int .u64 (uv hh), .int .u64 (uv hl)]] w fun e w' => e = .returned (.agg #[.int .u64 (uv (hiT hh hl)), .int .u64 (uv (loT hh hl))]) ∧ Below w.heap.size w w' := by
  rw [hiT, loT, if_pos c, if_pos c]
  subst c
  rw [← uv_zero]
  unfold topW
  obtain ⟨n, hn⟩ : ∃ n, 64 - Lib.bitLen hl.toNat = n := ⟨_, rfl⟩
  rw [hn]
  have h64 : n ≤ 64 := by omega
  have HN := Lib.hid hn
  clear hn
  go_enter Tryz.func120, Tryz.ntmps120
  go_wp2_with (go_at_call 133; refine (lz_n _ _ n HN.out).mono ?_; rintro e w' ⟨rfl, rfl⟩)
  exact bodyPost_ret (v := .agg #[.int .u64 0, .int .u64 (uv (9223372036854775808#64 >>> n))]) (by simp [results, Tryz.results120, go_sem]) rfl ⟨rfl, below2 _ _ _⟩

theorem highest_c (hh hl : BitVec 64) (k : Nat) (ks : List Nat) (w : World) (h : bitsDown (hbit hh hl) 128 = k :: ks) : Calls Tryz.prog 120 #[.agg #[.int .u64 (uv hh), .int .u64 (uv hl)]] w fun e w' => e = .returned (.agg #[.int .u64 (uv (oneH k)), .int .u64 (uv (oneL k))]) ∧ Below w.heap.size w w' := by
  obtain ⟨e1, e2⟩ := highest_one h
  rw [← e1, ← e2]
  by_cases c : hh = 0#64
  · exact highest_lo hh hl w c
  · exact highest_hi hh hl w c
end Go.Proofs

namespace Go.Proofs.Hd
open Go.RowKit
def Cb.arr (c : Cb) : Array Value := #[.int .u64 (uv c.vh), .int .u64 (uv c.vl), .int .u64 (uv c.ch), .int .u64 (uv c.cl)]
def hArr (h l : BitVec 64) : Array Value := #[.int .u64 (uv h), .int .u64 (uv l)]
structure Lw (w wr : World) (a b : Cb) (g : Nat) (lh ll : BitVec 64) (v : Value) (L : List Cb) : Prop where
  bel : Below w.heap.size w wr
  ba : Blk wr w.heap.size 53 a.arr
  bb : Blk wr (w.heap.size + 1) 53 b.arr
  bg : Blk wr g 25 (hArr lh ll)
  gb : w.heap.size + 2 ≤ g
  own : wr.ownsRow (w.heap.size + 2) 53 4 v L.length (flat L)
theorem Lw.on {w wr w2 : World} {a b : Cb} {g : Nat} {lh ll : BitVec 64} {v : Value} {L : List Cb} (h : Lw w wr a b g lh ll v L) (hb : Below wr.heap.size wr w2) : Lw w w2 a b g lh ll v L :=
  ⟨h.bel.trans (hb.mono h.bel.size), h.ba.on hb, h.bb.on hb, h.bg.on hb, h.gb, own_on h.own hb⟩
theorem Lw.setL {w wr : World} {a b : Cb} {g : Nat} {lh ll : BitVec 64} {v : Value} {L : List Cb} (h : Lw w wr a b g lh ll v L) (p q : BitVec 64) :
    Lw w ((wr.setCell ⟨g, 0, none⟩ (.int .u64 (uv p))).setCell ⟨g, 1, none⟩ (.int .u64 (uv q))) a b g p q v L := by
  have hg := h.gb
  have n0 : v.ownBlock ≠ some g := fun e => own_apart h.own h.bg (by decide) e.symm
  refine ⟨(h.bel.setCell (by show _ ≤ g; omega) _).setCell (by show _ ≤ g; omega) _, (h.ba.far (by show _ ≠ g; omega) _).far (by show _ ≠ g; omega) _, (h.bb.far (by show _ ≠ g; omega) _).far (by show _ ≠ g; omega) _, ?_, h.gb, ownsRow_setCell_other (ownsRow_setCell_other h.own n0 _) n0 _⟩
  exact ((h.bg.set 0 (.int .u64 (uv p))).set 1 (.int .u64 (uv q)))
theorem Lw.setA {w wr : World} {a b : Cb} {g : Nat} {lh ll : BitVec 64} {v : Value} {L : List Cb} (h : Lw w wr a b g lh ll v L) (c : Cb) :
    Lw w ((((wr.setCell ⟨w.heap.size, 0, none⟩ (.int .u64 (uv c.vh))).setCell ⟨w.heap.size, 1, none⟩ (.int .u64 (uv c.vl))).setCell ⟨w.heap.size, 2, none⟩ (.int .u64 (uv c.ch))).setCell ⟨w.heap.size, 3, none⟩ (.int .u64 (uv c.cl))) c b g lh ll v L := by
  have hg := h.gb
  refine ⟨h.bel.trans ((sets4 _ _ _ _ _ _).mono (Nat.le_refl _)), ?_, ?_, ?_, h.gb, ?_⟩
  · exact (((h.ba.set 0 (.int .u64 (uv c.vh))).set 1 (.int .u64 (uv c.vl))).set 2 (.int .u64 (uv c.ch))).set 3 (.int .u64 (uv c.cl))
  · exact (((h.bb.far (by show _ ≠ w.heap.size; omega) _).far (by show _ ≠ w.heap.size; omega) _).far (by show _ ≠ w.heap.size; omega) _).far (by show _ ≠ w.heap.size; omega) _
  · exact (((h.bg.far (by show _ ≠ w.heap.size; omega) _).far (by show _ ≠ w.heap.size; omega) _).far (by show _ ≠ w.heap.size; omega) _).far (by show _ ≠ w.heap.size; omega) _
  · exact ownsRow_setCell_below (ownsRow_setCell_below (ownsRow_setCell_below (ownsRow_setCell_below h.own (by show w.heap.size < _; omega) _) (by show w.heap.size < _; omega) _) (by show w.heap.size < _; omega) _) (by show w.heap.size < _; omega) _
theorem Lw.newL {w wr : World} {a b : Cb} {g : Nat} {lh ll : BitVec 64} {v : Value} {L : List Cb} (h : Lw w wr a b g lh ll v L) (p q : BitVec 64) (hz : w.heap.size + 2 ≤ wr.heap.size) :
    Lw w (wr.alloc (.cells #[.int .u64 (uv p), .int .u64 (uv q)] 25)) a b wr.heap.size p q v L := by
  have hb : Below wr.heap.size wr (wr.alloc (.cells #[.int .u64 (uv p), .int .u64 (uv q)] 25)) := (Below.refl _ _).alloc (Nat.le_refl _) _
  have h2 := h.on hb
  exact ⟨h2.bel, h2.ba, h2.bb, Blk.new _ _ _, hz, h2.own⟩
theorem Lw.append {w wr w2 : World} {a b : Cb} {g : Nat} {lh ll : BitVec 64} {v v' : Value} {L : List Cb} {c : Cb} (h : Lw w wr a b g lh ll v L) (hg : wr.grownBy w2 v.ownBlock)
    (hown : w2.ownsRow (w.heap.size + 2) 53 4 v' (L.length + 1) (flat L ++ c.cells)) : Lw w w2 a b g lh ll v' (L ++ [c]) := by
  have hz := h.bel.size
  refine ⟨h.bel.grown hg hz (fun k hk => by have := (h.own.lt k hk).1; omega), h.ba.grown hg (own_base h.own (by omega)), h.bb.grown hg (own_base h.own (by omega)), h.bg.grown hg (own_apart h.own h.bg (by decide)), h.gb, ?_⟩
  rw [flat_snoc]
  simpa using hown
/-- Two cubes that were handed in lie in the first two blocks. -/
structure Tw (w wr : World) (a b : Cb) : Prop where
  bel : Below w.heap.size w wr
  ba : Blk wr w.heap.size 53 a.arr
  bb : Blk wr (w.heap.size + 1) 53 b.arr
theorem Tw.start (w : World) (a b : Cb) : Tw w ((w.alloc (.cells #[.int .u64 (uv a.vh), .int .u64 (uv a.vl), .int .u64 (uv a.ch), .int .u64 (uv a.cl)] 53)).alloc (.cells #[.int .u64 (uv b.vh), .int .u64 (uv b.vl), .int .u64 (uv b.ch), .int .u64 (uv b.cl)] 53)) a b := by
  have b1 : Below w.heap.size w (w.alloc (.cells #[.int .u64 (uv a.vh), .int .u64 (uv a.vl), .int .u64 (uv a.ch), .int .u64 (uv a.cl)] 53)) := (Below.refl _ _).alloc (Nat.le_refl _) _
  have k1 : Blk (w.alloc (.cells #[.int .u64 (uv a.vh), .int .u64 (uv a.vl), .int .u64 (uv a.ch), .int .u64 (uv a.cl)] 53)) w.heap.size 53 a.arr := Blk.new w _ _
  have k2 := Blk.new (w.alloc (.cells #[.int .u64 (uv a.vh), .int .u64 (uv a.vl), .int .u64 (uv a.ch), .int .u64 (uv a.cl)] 53)) 53 b.arr
  rw [World.size_alloc] at k2
  exact ⟨b1.alloc (by simp) _, k1.on ((Below.refl _ _).alloc (Nat.le_refl _) _), k2⟩
theorem Tw.on {w wr w2 : World} {a b : Cb} (h : Tw w wr a b) (hb : Below wr.heap.size wr w2) : Tw w w2 a b :=
  ⟨h.bel.trans (hb.mono h.bel.size), h.ba.on hb, h.bb.on hb⟩
theorem Tw.loop {w wr : World} {a b : Cb} (h : Tw w wr a b) (p q : BitVec 64) : Lw w (wr.alloc (.cells #[.int .u64 (uv p), .int .u64 (uv q)] 25)) a b wr.heap.size p q (.slice none 0 0) [] := by
  have h2 := h.on ((Below.refl wr.heap.size wr).alloc (Nat.le_refl _) (.cells #[.int .u64 (uv p), .int .u64 (uv q)] 25))
  exact ⟨h2.bel, h2.ba, h2.bb, Blk.new _ _ _, h.bb.lt, World.ownsRow_nil _ _ _ _⟩
theorem Tw.eqs {w wr : World} {a b : Cb} (h : Tw w wr a b) :
    (wr.cell? ⟨w.heap.size, 0, none⟩ = some (.int .u64 (uv a.vh)) ∧ wr.cell? ⟨w.heap.size, 1, none⟩ = some (.int .u64 (uv a.vl)) ∧ wr.cell? ⟨w.heap.size, 2, none⟩ = some (.int .u64 (uv a.ch)) ∧ wr.cell? ⟨w.heap.size, 3, none⟩ = some (.int .u64 (uv a.cl))) ∧
    (wr.cell? ⟨w.heap.size + 1, 0, none⟩ = some (.int .u64 (uv b.vh)) ∧ wr.cell? ⟨w.heap.size + 1, 1, none⟩ = some (.int .u64 (uv b.vl)) ∧ wr.cell? ⟨w.heap.size + 1, 2, none⟩ = some (.int .u64 (uv b.ch)) ∧ wr.cell? ⟨w.heap.size + 1, 3, none⟩ = some (.int .u64 (uv b.cl))) :=
  ⟨⟨h.ba.cell 0, h.ba.cell 1, h.ba.cell 2, h.ba.cell 3⟩, ⟨h.bb.cell 0, h.bb.cell 1, h.bb.cell 2, h.bb.cell 3⟩⟩
theorem pair_zero {lh ll : BitVec 64} (h : bitsDown (hbit lh ll) 128 = []) : eq2 (uv lh) (uv ll) 0 0 = true := by
  have hb := bitsDown_nil h
  obtain ⟨e1, e2⟩ := head_ext (h := lh) (l := ll) (h' := 0#64) (l' := 0#64) (fun j hj => by rw [hb j hj]; simp [hbit])
  rw [e1, e2]; exact eq2_self 0 0
theorem pair_some {lh ll : BitVec 64} {k : Nat} {ks : List Nat} (h : bitsDown (hbit lh ll) 128 = k :: ks) : eq2 (uv lh) (uv ll) 0 0 = false := by
  obtain ⟨h1, h2, _, _⟩ := bitsDown_cons h
  cases c : eq2 (uv lh) (uv ll) 0 0 with
  | false => rfl
  | true =>
    rw [uv_zero, eq2_uv] at c
    simp only [Bool.and_eq_true, beq_iff_eq] at c
    rw [c.1, c.2] at h2
    simp [hbit] at h2
theorem next_bits {lh ll : BitVec 64} {k : Nat} {ks : List Nat} (h : bitsDown (hbit lh ll) 128 = k :: ks) : bitsDown (hbit (lh &&& ~~~oneH k) (ll &&& ~~~oneL k)) 128 = ks := by
  obtain ⟨h1, h2, _, h4⟩ := bitsDown_cons h
  rw [← h4]
  exact bitsDown_congr 128 fun j hj => by rw [hbit_andNot _ _ _ _ _ hj, hbit_one _ _ h1 hj]
/-- What the walk reads. -/
theorem Lw.eqs {w wr : World} {a b : Cb} {g : Nat} {lh ll : BitVec 64} {v : Value} {L : List Cb} (h : Lw w wr a b g lh ll v L) :
    (wr.cell? ⟨w.heap.size, 0, none⟩ = some (.int .u64 (uv a.vh)) ∧ wr.cell? ⟨w.heap.size, 1, none⟩ = some (.int .u64 (uv a.vl)) ∧ wr.cell? ⟨w.heap.size, 2, none⟩ = some (.int .u64 (uv a.ch)) ∧ wr.cell? ⟨w.heap.size, 3, none⟩ = some (.int .u64 (uv a.cl))) ∧
    (wr.cell? ⟨w.heap.size + 1, 0, none⟩ = some (.int .u64 (uv b.vh)) ∧ wr.cell? ⟨w.heap.size + 1, 1, none⟩ = some (.int .u64 (uv b.vl)) ∧ wr.cell? ⟨w.heap.size + 1, 2, none⟩ = some (.int .u64 (uv b.ch)) ∧ wr.cell? ⟨w.heap.size + 1, 3, none⟩ = some (.int .u64 (uv b.cl))) ∧
    (wr.cell? ⟨g, 0, none⟩ = some (.int .u64 (uv lh)) ∧ wr.cell? ⟨g, 1, none⟩ = some (.int .u64 (uv ll))) ∧
    (wr.frozen? ⟨w.heap.size, 0, none⟩ = false ∧ wr.frozen? ⟨w.heap.size, 1, none⟩ = false ∧ wr.frozen? ⟨w.heap.size, 2, none⟩ = false ∧ wr.frozen? ⟨w.heap.size, 3, none⟩ = false) ∧
    (wr.frozen? ⟨g, 0, none⟩ = false ∧ wr.frozen? ⟨g, 1, none⟩ = false) :=
  ⟨⟨h.ba.cell 0, h.ba.cell 1, h.ba.cell 2, h.ba.cell 3⟩, ⟨h.bb.cell 0, h.bb.cell 1, h.bb.cell 2, h.bb.cell 3⟩, ⟨h.bg.cell 0, h.bg.cell 1⟩, ⟨h.ba.free 0, h.ba.free 1, h.ba.free 2, h.ba.free 3⟩, ⟨h.bg.free 0, h.bg.free 1⟩⟩
theorem Blk.two {w : World} {g : Nat} {t : TypeId} {p q : BitVec 64} (h : Blk w g t (hArr p q)) : w.cell? ⟨g, 0, none⟩ = some (.int .u64 (uv p)) ∧ w.cell? ⟨g, 1, none⟩ = some (.int .u64 (uv q)) := ⟨h.cell 0, h.cell 1⟩
theorem Blk.pair {w : World} {g : Nat} {t : TypeId} {x0 x1 : Value} (h : Blk w g t #[x0, x1]) : w.cell? ⟨g, 0, none⟩ = some x0 ∧ w.cell? ⟨g, 1, none⟩ = some x1 := ⟨h.cell 0, h.cell 1⟩
theorem Blk.four {w : World} {g : Nat} {t : TypeId} {x0 x1 x2 x3 : Value} (h : Blk w g t #[x0, x1, x2, x3]) : w.cell? ⟨g, 0, none⟩ = some x0 ∧ w.cell? ⟨g, 1, none⟩ = some x1 ∧ w.cell? ⟨g, 2, none⟩ = some x2 ∧ w.cell? ⟨g, 3, none⟩ = some x3 := ⟨h.cell 0, h.cell 1, h.cell 2, h.cell 3⟩
theorem Blk.fr2 {w : World} {g : Nat} {t : TypeId} {cs : Array Value} (h : Blk w g t cs) : w.frozen? ⟨g, 0, none⟩ = false ∧ w.frozen? ⟨g, 1, none⟩ = false := ⟨h.free 0, h.free 1⟩
theorem Blk.fr4 {w : World} {g : Nat} {t : TypeId} {cs : Array Value} (h : Blk w g t cs) : w.frozen? ⟨g, 0, none⟩ = false ∧ w.frozen? ⟨g, 1, none⟩ = false ∧ w.frozen? ⟨g, 2, none⟩ = false ∧ w.frozen? ⟨g, 3, none⟩ = false := ⟨h.free 0, h.free 1, h.free 2, h.free 3⟩
theorem Blk.set4 {w : World} {g : Nat} {t : TypeId} {x0 x1 x2 x3 : Value} (h : Blk w g t #[x0, x1, x2, x3]) (y0 y1 y2 y3 : Value) : Blk ((((w.setCell ⟨g, 0, none⟩ y0).setCell ⟨g, 1, none⟩ y1).setCell ⟨g, 2, none⟩ y2).setCell ⟨g, 3, none⟩ y3) g t #[y0, y1, y2, y3] := (((h.set 0 y0).set 1 y1).set 2 y2).set 3 y3
theorem Blk.far4 {w : World} {g r : Nat} {t : TypeId} {cs : Array Value} (h : Blk w g t cs) (hp : g ≠ r) (y0 y1 y2 y3 : Value) : Blk ((((w.setCell ⟨r, 0, none⟩ y0).setCell ⟨r, 1, none⟩ y1).setCell ⟨r, 2, none⟩ y2).setCell ⟨r, 3, none⟩ y3) g t cs := (((h.far hp y0).far hp y1).far hp y2).far hp y3
/-- A list of cubes was returned, in memory of the call's own; nothing that was there has changed. -/
def Got (w : World) (L : List Cb) (e : Ending) (w' : World) : Prop := ∃ v, e = .returned v ∧ w'.ownsRow w.heap.size 53 4 v L.length (flat L) ∧ Below w.heap.size w w'
end Go.Proofs.Hd
