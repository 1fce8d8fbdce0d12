/-
  The statement 'l, v, care := Bits(..), Bits(..), Bits(..)' of the reference's Set, in whatever order its arrays are made. Conditions as each theorem lists them.
-/
import Derived.Test.YtanliiopdhjhjaaJ5
import Derived.Deep.MidRow
import Derived.Deep.Light
namespace Go.Proofs
open Go.RowKit Go.Proofs.Hd
/-- The operations of that statement, as the translation has them. -/
def setOps : Array Oper := #[{ dst := some 9, op := Op.load 41 (Operand.tmp 2), type := 41, pos := "ref.go:98", after := #[], guard := none }, { dst := some 10, op := Op.call { callee := Callee.value (Operand.func 34), args := #[Operand.tmp 9], argTypes := #[41] }, type := 92, pos := "ref.go:98", after := #[{ on := 0, ground := Ground.data }], guard := none }, { dst := some 11, op := Op.fieldAddr 43 (Operand.tmp 3) 0, type := 0, pos := "ref.go:98", after := #[], guard := none }, { dst := some 12, op := Op.load 41 (Operand.tmp 11), type := 41, pos := "ref.go:98", after := #[{ on := 2, ground := Ground.data }], guard := none }, { dst := some 13, op := Op.call { callee := Callee.value (Operand.func 34), args := #[Operand.tmp 12], argTypes := #[41] }, type := 92, pos := "ref.go:98", after := #[{ on := 3, ground := Ground.data }, { on := 1, ground := Ground.chain }], guard := none }, { dst := some 14, op := Op.fieldAddr 43 (Operand.tmp 3) 1, type := 0, pos := "ref.go:98", after := #[], guard := none }, { dst := some 15, op := Op.load 41 (Operand.tmp 14), type := 41, pos := "ref.go:98", after := #[{ on := 5, ground := Ground.data }], guard := none }, { dst := some 16, op := Op.call { callee := Callee.value (Operand.func 34), args := #[Operand.tmp 15], argTypes := #[41] }, type := 92, pos := "ref.go:98", after := #[{ on := 6, ground := Ground.data }, { on := 4, ground := Ground.chain }], guard := none }, { dst := some 5, op := Op.alloc 92, type := 0, pos := "ref.go:98", after := #[], guard := none }, { dst := some 6, op := Op.alloc 92, type := 0, pos := "ref.go:98", after := #[], guard := none }, { dst := some 7, op := Op.alloc 92, type := 0, pos := "ref.go:98", after := #[], guard := none }, { dst := none, op := Op.store 92 (Operand.tmp 5) (Operand.tmp 10), type := 0, pos := "ref.go:98", after := #[{ on := 8, ground := Ground.data }, { on := 1, ground := Ground.data }, { on := 7, ground := Ground.chain }, { on := 0, ground := Ground.phase }, { on := 1, ground := Ground.phase }, { on := 2, ground := Ground.textOnly Departure.lateStores }, { on := 3, ground := Ground.textOnly Departure.lateStores }, { on := 4, ground := Ground.textOnly Departure.lateStoresUnsure }, { on := 5, ground := Ground.textOnly Departure.lateStores }, { on := 6, ground := Ground.textOnly Departure.lateStores }, { on := 7, ground := Ground.textOnly Departure.lateStoresUnsure }, { on := 8, ground := Ground.phase }, { on := 9, ground := Ground.phase }, { on := 10, ground := Ground.phase }], guard := none }, { dst := none, op := Op.store 92 (Operand.tmp 6) (Operand.tmp 13), type := 0, pos := "ref.go:98", after := #[{ on := 9, ground := Ground.data }, { on := 4, ground := Ground.data }, { on := 11, ground := Ground.chain }, { on := 0, ground := Ground.phase }, { on := 1, ground := Ground.phase }, { on := 2, ground := Ground.phase }, { on := 3, ground := Ground.phase }, { on := 4, ground := Ground.phase }, { on := 5, ground := Ground.textOnly Departure.lateStores }, { on := 6, ground := Ground.textOnly Departure.lateStores }, { on := 7, ground := Ground.textOnly Departure.lateStoresUnsure }, { on := 8, ground := Ground.phase }, { on := 9, ground := Ground.phase }, { on := 10, ground := Ground.phase }, { on := 11, ground := Ground.phase }], guard := none }, { dst := none, op := Op.store 92 (Operand.tmp 7) (Operand.tmp 16), type := 0, pos := "ref.go:98", after := #[{ on := 10, ground := Ground.data }, { on := 7, ground := Ground.data }, { on := 12, ground := Ground.chain }, { on := 0, ground := Ground.phase }, { on := 1, ground := Ground.phase }, { on := 2, ground := Ground.phase }, { on := 3, ground := Ground.phase }, { on := 4, ground := Ground.phase }, { on := 5, ground := Ground.phase }, { on := 6, ground := Ground.phase }, { on := 7, ground := Ground.phase }, { on := 8, ground := Ground.phase }, { on := 9, ground := Ground.phase }, { on := 10, ground := Ground.phase }, { on := 11, ground := Ground.phase }, { on := 12, ground := Ground.phase }], guard := none }]
theorem three_Rows {V : World} {b c d : Nat} (f g h : Nat → Bool) (h1 : V.there b 0 128) (h2 : V.there c 0 128) (h3 : V.there d 0 128) (n1 : b ≠ c) (n2 : b ≠ d) (n3 : c ≠ d) :
    Row (((V.setCells b 0 (bl f)).setCells c 0 (bl g)).setCells d 0 (bl h)) b f ∧ Row (((V.setCells b 0 (bl f)).setCells c 0 (bl g)).setCells d 0 (bl h)) c g ∧ Row (((V.setCells b 0 (bl f)).setCells c 0 (bl g)).setCells d 0 (bl h)) d h :=
  ⟨((Row.of_set f h1).apart n1).apart n2, (Row.of_set g (World.there_setCells h2 _ _ _)).apart n3, Row.of_set h (World.there_setCells (World.there_setCells h3 _ _ _) _ _ _)⟩
theorem z2cells {w : World} {r b : Nat} {vs : List Value} (h : Zero2 w r) (hp : r < b) : Zero2 (w.setCells b 0 vs) r := by
  have hb : Below b w (w.setCells b 0 vs) := Below.setCells vs 0 w (Below.refl _ _) (Nat.le_refl _)
  exact fun i hi => ⟨(hb.cell (p := ⟨r, i, none⟩) hp).trans (h i hi).1, (hb.frozen (p := ⟨r, i, none⟩) hp).trans (h i hi).2⟩

set_option maxRecDepth 100000 in
set_option maxHeartbeats 2000000 in
theorem set3_012 (hh hl svh svl sch scl : BitVec 64) (w : World) (Q : Exit → Act → World → Prop)
    (hfin : ∀ (b8 b9 b10 : Nat) (u : World), Below w.heap.size w u → Zero2 u (w.heap.size + 1 + 1) → Row u b8 (hbit hh hl) → Row u b9 (hbit svh svl) → Row u b10 (hbit sch scl) → w.heap.size + 1 + 1 + 1 ≤ b8 → b8 ≠ b9 → b8 ≠ b10 → b9 ≠ b10 → Q .normal ⟨#[.agg #[.int .u64 (uv hh), .int .u64 (uv hl)], .agg #[.int .u64 (uv svh), .int .u64 (uv svl), .int .u64 (uv sch), .int .u64 (uv scl)], .pointer (some ⟨w.heap.size, 0, none⟩), .pointer (some ⟨w.heap.size + 1, 0, none⟩), .pointer (some ⟨w.heap.size + 1 + 1, 0, none⟩), .pointer (some ⟨b8, 0, none⟩), .pointer (some ⟨b9, 0, none⟩), .pointer (some ⟨b10, 0, none⟩), undef, .agg #[.int .u64 (uv hh), .int .u64 (uv hl)], .agg (bl (hbit hh hl)).toArray, .pointer (some ⟨w.heap.size + 1, 0, none⟩), .agg #[.int .u64 (uv svh), .int .u64 (uv svl)], .agg (bl (hbit svh svl)).toArray, .pointer (some ⟨w.heap.size + 1, 2, none⟩), .agg #[.int .u64 (uv sch), .int .u64 (uv scl)], .agg (bl (hbit sch scl)).toArray, undef, undef, undef, undef, undef, undef, undef, undef, undef, undef, undef, undef, undef, undef], []⟩ u)
    (b8 : Nat) (b9 : Nat) (b10 : Nat) (u : World) (hHeld : Below w.heap.size w u ∧ u.cell? ⟨w.heap.size, 0, none⟩ = some (.int .u64 (uv hh)) ∧ u.cell? ⟨w.heap.size, 1, none⟩ = some (.int .u64 (uv hl)) ∧ u.cell? ⟨w.heap.size + 1, 0, none⟩ = some (.int .u64 (uv svh)) ∧ u.cell? ⟨w.heap.size + 1, 1, none⟩ = some (.int .u64 (uv svl)) ∧ u.cell? ⟨w.heap.size + 1, 2, none⟩ = some (.int .u64 (uv sch)) ∧ u.cell? ⟨w.heap.size + 1, 3, none⟩ = some (.int .u64 (uv scl))) (Z : Zero2 u (w.heap.size + 1 + 1)) (t8 : Th (w.heap.size + 1 + 1 + 1) u b8) (t9 : Th (w.heap.size + 1 + 1 + 1) u b9) (t10 : Th (w.heap.size + 1 + 1 + 1) u b10) (n8_9 : b8 ≠ b9) (n8_10 : b8 ≠ b10) (n9_10 : b9 ≠ b10) (l : Array Bool) (hlst : l = #[true, true, true, true, true, true, true, true, true, true, true, false, false, false]) :
    wpAnyH Try.prog .any setOps Q (fun w' => Below w.heap.size w w' ∧ w'.cell? ⟨w.heap.size, 0, none⟩ = some (.int .u64 (uv hh)) ∧ w'.cell? ⟨w.heap.size, 1, none⟩ = some (.int .u64 (uv hl)) ∧ w'.cell? ⟨w.heap.size + 1, 0, none⟩ = some (.int .u64 (uv svh)) ∧ w'.cell? ⟨w.heap.size + 1, 1, none⟩ = some (.int .u64 (uv svl)) ∧ w'.cell? ⟨w.heap.size + 1, 2, none⟩ = some (.int .u64 (uv sch)) ∧ w'.cell? ⟨w.heap.size + 1, 3, none⟩ = some (.int .u64 (uv scl))) 3 l ⟨#[.agg #[.int .u64 (uv hh), .int .u64 (uv hl)], .agg #[.int .u64 (uv svh), .int .u64 (uv svl), .int .u64 (uv sch), .int .u64 (uv scl)], .pointer (some ⟨w.heap.size, 0, none⟩), .pointer (some ⟨w.heap.size + 1, 0, none⟩), .pointer (some ⟨w.heap.size + 1 + 1, 0, none⟩), .pointer (some ⟨b8, 0, none⟩), .pointer (some ⟨b9, 0, none⟩), .pointer (some ⟨b10, 0, none⟩), undef, .agg #[.int .u64 (uv hh), .int .u64 (uv hl)], .agg (bl (hbit hh hl)).toArray, .pointer (some ⟨w.heap.size + 1, 0, none⟩), .agg #[.int .u64 (uv svh), .int .u64 (uv svl)], .agg (bl (hbit svh svl)).toArray, .pointer (some ⟨w.heap.size + 1, 2, none⟩), .agg #[.int .u64 (uv sch), .int .u64 (uv scl)], .agg (bl (hbit sch scl)).toArray, undef, undef, undef, undef, undef, undef, undef, undef, undef, undef, undef, undef, undef, undef], []⟩ u := by
  subst hlst
  have s8 := t8.1
  have s9 := t9.1
  have s10 := t10.1
  refine wpAnyH_ready (rs := [11]) (by kernel_rfl) (by simp) ?_
  refine AllReadyH.cons (o := ⟨none, _, _, _, _, _⟩) rfl (fun K hK => ?_) AllReadyH.nil
  rw [if_pos (by rfl)]
  refine wp_store_mid 92 _ _ rfl b8 0 (bl (hbit hh hl)).toArray rfl rfl (by rw [bl_size]; exact t8.1) (size25 _) (bl_all _) ?_
  (try dsimp only)
  refine hK.out _ _ (shold6 (Below.setCells (b := b8) _ _ _ (Below.refl _ _) (Nat.le_refl _)) hHeld (by have := t8.2; omega) (by have := t8.2; dsimp only; omega) (by have := t8.2; dsimp only; omega) (by have := t8.2; dsimp only; omega) (by have := t8.2; dsimp only; omega) (by have := t8.2; dsimp only; omega) (by have := t8.2; dsimp only; omega)) (fun hNext => ?_)
  clear hK K hHeld
  have hHeld := hNext
  clear hNext
  replace t8 := t8.set b8 (bl (hbit hh hl))
  replace t9 := t9.set b8 (bl (hbit hh hl))
  replace t10 := t10.set b8 (bl (hbit hh hl))
  replace Z := z2cells (b := b8) (vs := bl (hbit hh hl)) Z (by have := t8.2; omega)
  try simp only [Act.put]
  refine wpAnyH_ready (rs := [12]) (by kernel_rfl) (by simp) ?_
  refine AllReadyH.cons (o := ⟨none, _, _, _, _, _⟩) rfl (fun K hK => ?_) AllReadyH.nil
  rw [if_pos (by rfl)]
  refine wp_store_mid 92 _ _ rfl b9 0 (bl (hbit svh svl)).toArray rfl rfl (by rw [bl_size]; exact t9.1) (size25 _) (bl_all _) ?_
  (try dsimp only)
  refine hK.out _ _ (shold6 (Below.setCells (b := b9) _ _ _ (Below.refl _ _) (Nat.le_refl _)) hHeld (by have := t9.2; omega) (by have := t9.2; dsimp only; omega) (by have := t9.2; dsimp only; omega) (by have := t9.2; dsimp only; omega) (by have := t9.2; dsimp only; omega) (by have := t9.2; dsimp only; omega) (by have := t9.2; dsimp only; omega)) (fun hNext => ?_)
  clear hK K hHeld
  have hHeld := hNext
  clear hNext
  replace t8 := t8.set b9 (bl (hbit svh svl))
  replace t9 := t9.set b9 (bl (hbit svh svl))
  replace t10 := t10.set b9 (bl (hbit svh svl))
  replace Z := z2cells (b := b9) (vs := bl (hbit svh svl)) Z (by have := t9.2; omega)
  try simp only [Act.put]
  refine wpAnyH_ready (rs := [13]) (by kernel_rfl) (by simp) ?_
  refine AllReadyH.cons (o := ⟨none, _, _, _, _, _⟩) rfl (fun K hK => ?_) AllReadyH.nil
  rw [if_pos (by rfl)]
  refine wp_store_mid 92 _ _ rfl b10 0 (bl (hbit sch scl)).toArray rfl rfl (by rw [bl_size]; exact t10.1) (size25 _) (bl_all _) ?_
  (try dsimp only)
  refine hK.out _ _ (shold6 (Below.setCells (b := b10) _ _ _ (Below.refl _ _) (Nat.le_refl _)) hHeld (by have := t10.2; omega) (by have := t10.2; dsimp only; omega) (by have := t10.2; dsimp only; omega) (by have := t10.2; dsimp only; omega) (by have := t10.2; dsimp only; omega) (by have := t10.2; dsimp only; omega) (by have := t10.2; dsimp only; omega)) (fun hNext => ?_)
  clear hK K hHeld
  have hHeld := hNext
  clear hNext
  replace t8 := t8.set b10 (bl (hbit sch scl))
  replace t9 := t9.set b10 (bl (hbit sch scl))
  replace t10 := t10.set b10 (bl (hbit sch scl))
  replace Z := z2cells (b := b10) (vs := bl (hbit sch scl)) Z (by have := t10.2; omega)
  try simp only [Act.put]
  refine wpAnyH_done (by kernel_rfl) ?_ _
  have RR := three_Rows (hbit hh hl) (hbit svh svl) (hbit sch scl) s8 s9 s10 n8_9 n8_10 n9_10
  exact hfin b8 b9 b10 _ hHeld.1 Z RR.1 RR.2.1 RR.2.2 t8.2 n8_9 n8_10 n9_10

set_option maxRecDepth 100000 in
set_option maxHeartbeats 2000000 in
theorem set3_01 (hh hl svh svl sch scl : BitVec 64) (w : World) (Q : Exit → Act → World → Prop)
    (hfin : ∀ (b8 b9 b10 : Nat) (u : World), Below w.heap.size w u → Zero2 u (w.heap.size + 1 + 1) → Row u b8 (hbit hh hl) → Row u b9 (hbit svh svl) → Row u b10 (hbit sch scl) → w.heap.size + 1 + 1 + 1 ≤ b8 → b8 ≠ b9 → b8 ≠ b10 → b9 ≠ b10 → Q .normal ⟨#[.agg #[.int .u64 (uv hh), .int .u64 (uv hl)], .agg #[.int .u64 (uv svh), .int .u64 (uv svl), .int .u64 (uv sch), .int .u64 (uv scl)], .pointer (some ⟨w.heap.size, 0, none⟩), .pointer (some ⟨w.heap.size + 1, 0, none⟩), .pointer (some ⟨w.heap.size + 1 + 1, 0, none⟩), .pointer (some ⟨b8, 0, none⟩), .pointer (some ⟨b9, 0, none⟩), .pointer (some ⟨b10, 0, none⟩), undef, .agg #[.int .u64 (uv hh), .int .u64 (uv hl)], .agg (bl (hbit hh hl)).toArray, .pointer (some ⟨w.heap.size + 1, 0, none⟩), .agg #[.int .u64 (uv svh), .int .u64 (uv svl)], .agg (bl (hbit svh svl)).toArray, .pointer (some ⟨w.heap.size + 1, 2, none⟩), .agg #[.int .u64 (uv sch), .int .u64 (uv scl)], .agg (bl (hbit sch scl)).toArray, undef, undef, undef, undef, undef, undef, undef, undef, undef, undef, undef, undef, undef, undef], []⟩ u)
    (b8 : Nat) (b9 : Nat) (u : World) (hHeld : Below w.heap.size w u ∧ u.cell? ⟨w.heap.size, 0, none⟩ = some (.int .u64 (uv hh)) ∧ u.cell? ⟨w.heap.size, 1, none⟩ = some (.int .u64 (uv hl)) ∧ u.cell? ⟨w.heap.size + 1, 0, none⟩ = some (.int .u64 (uv svh)) ∧ u.cell? ⟨w.heap.size + 1, 1, none⟩ = some (.int .u64 (uv svl)) ∧ u.cell? ⟨w.heap.size + 1, 2, none⟩ = some (.int .u64 (uv sch)) ∧ u.cell? ⟨w.heap.size + 1, 3, none⟩ = some (.int .u64 (uv scl))) (Z : Zero2 u (w.heap.size + 1 + 1)) (t8 : Th (w.heap.size + 1 + 1 + 1) u b8) (t9 : Th (w.heap.size + 1 + 1 + 1) u b9) (n8_9 : b8 ≠ b9) (l : Array Bool) (hlst : l = #[true, true, true, true, true, true, true, true, true, true, false, false, false, false]) :
    wpAnyH Try.prog .any setOps Q (fun w' => Below w.heap.size w w' ∧ w'.cell? ⟨w.heap.size, 0, none⟩ = some (.int .u64 (uv hh)) ∧ w'.cell? ⟨w.heap.size, 1, none⟩ = some (.int .u64 (uv hl)) ∧ w'.cell? ⟨w.heap.size + 1, 0, none⟩ = some (.int .u64 (uv svh)) ∧ w'.cell? ⟨w.heap.size + 1, 1, none⟩ = some (.int .u64 (uv svl)) ∧ w'.cell? ⟨w.heap.size + 1, 2, none⟩ = some (.int .u64 (uv sch)) ∧ w'.cell? ⟨w.heap.size + 1, 3, none⟩ = some (.int .u64 (uv scl))) 4 l ⟨#[.agg #[.int .u64 (uv hh), .int .u64 (uv hl)], .agg #[.int .u64 (uv svh), .int .u64 (uv svl), .int .u64 (uv sch), .int .u64 (uv scl)], .pointer (some ⟨w.heap.size, 0, none⟩), .pointer (some ⟨w.heap.size + 1, 0, none⟩), .pointer (some ⟨w.heap.size + 1 + 1, 0, none⟩), .pointer (some ⟨b8, 0, none⟩), .pointer (some ⟨b9, 0, none⟩), undef, undef, .agg #[.int .u64 (uv hh), .int .u64 (uv hl)], .agg (bl (hbit hh hl)).toArray, .pointer (some ⟨w.heap.size + 1, 0, none⟩), .agg #[.int .u64 (uv svh), .int .u64 (uv svl)], .agg (bl (hbit svh svl)).toArray, .pointer (some ⟨w.heap.size + 1, 2, none⟩), .agg #[.int .u64 (uv sch), .int .u64 (uv scl)], .agg (bl (hbit sch scl)).toArray, undef, undef, undef, undef, undef, undef, undef, undef, undef, undef, undef, undef, undef, undef], []⟩ u := by
  subst hlst
  have hz := zero25
  refine wpAnyH_ready (rs := [10]) (by kernel_rfl) (by simp) ?_
  refine AllReadyH.cons (o := ⟨some 7, _, _, _, _, _⟩) rfl (fun K hK => ?_) AllReadyH.nil
  go_simp
  have hb := below1 u (.cells (bl (fun _ => false)).toArray 92)
  refine hK.out _ _ (hold6 hb hHeld) (fun hNext => ?_)
  exact set3_012 hh hl svh svl sch scl w Q hfin b8 b9 u.heap.size _ hNext (Zero2.on hb Z) (t8.on hb) (t9.on hb) (Th.top u _ rfl (World.block_lt_of_cell? u ⟨w.heap.size + 1 + 1, 0, none⟩ (Z 0 (by omega)).1)) n8_9 t8.ne t9.ne _ (by kernel_rfl)

set_option maxRecDepth 100000 in
set_option maxHeartbeats 2000000 in
theorem set3_02 (hh hl svh svl sch scl : BitVec 64) (w : World) (Q : Exit → Act → World → Prop)
    (hfin : ∀ (b8 b9 b10 : Nat) (u : World), Below w.heap.size w u → Zero2 u (w.heap.size + 1 + 1) → Row u b8 (hbit hh hl) → Row u b9 (hbit svh svl) → Row u b10 (hbit sch scl) → w.heap.size + 1 + 1 + 1 ≤ b8 → b8 ≠ b9 → b8 ≠ b10 → b9 ≠ b10 → Q .normal ⟨#[.agg #[.int .u64 (uv hh), .int .u64 (uv hl)], .agg #[.int .u64 (uv svh), .int .u64 (uv svl), .int .u64 (uv sch), .int .u64 (uv scl)], .pointer (some ⟨w.heap.size, 0, none⟩), .pointer (some ⟨w.heap.size + 1, 0, none⟩), .pointer (some ⟨w.heap.size + 1 + 1, 0, none⟩), .pointer (some ⟨b8, 0, none⟩), .pointer (some ⟨b9, 0, none⟩), .pointer (some ⟨b10, 0, none⟩), undef, .agg #[.int .u64 (uv hh), .int .u64 (uv hl)], .agg (bl (hbit hh hl)).toArray, .pointer (some ⟨w.heap.size + 1, 0, none⟩), .agg #[.int .u64 (uv svh), .int .u64 (uv svl)], .agg (bl (hbit svh svl)).toArray, .pointer (some ⟨w.heap.size + 1, 2, none⟩), .agg #[.int .u64 (uv sch), .int .u64 (uv scl)], .agg (bl (hbit sch scl)).toArray, undef, undef, undef, undef, undef, undef, undef, undef, undef, undef, undef, undef, undef, undef], []⟩ u)
    (b8 : Nat) (b10 : Nat) (u : World) (hHeld : Below w.heap.size w u ∧ u.cell? ⟨w.heap.size, 0, none⟩ = some (.int .u64 (uv hh)) ∧ u.cell? ⟨w.heap.size, 1, none⟩ = some (.int .u64 (uv hl)) ∧ u.cell? ⟨w.heap.size + 1, 0, none⟩ = some (.int .u64 (uv svh)) ∧ u.cell? ⟨w.heap.size + 1, 1, none⟩ = some (.int .u64 (uv svl)) ∧ u.cell? ⟨w.heap.size + 1, 2, none⟩ = some (.int .u64 (uv sch)) ∧ u.cell? ⟨w.heap.size + 1, 3, none⟩ = some (.int .u64 (uv scl))) (Z : Zero2 u (w.heap.size + 1 + 1)) (t8 : Th (w.heap.size + 1 + 1 + 1) u b8) (t10 : Th (w.heap.size + 1 + 1 + 1) u b10) (n8_10 : b8 ≠ b10) (l : Array Bool) (hlst : l = #[true, true, true, true, true, true, true, true, true, false, true, false, false, false]) :
    wpAnyH Try.prog .any setOps Q (fun w' => Below w.heap.size w w' ∧ w'.cell? ⟨w.heap.size, 0, none⟩ = some (.int .u64 (uv hh)) ∧ w'.cell? ⟨w.heap.size, 1, none⟩ = some (.int .u64 (uv hl)) ∧ w'.cell? ⟨w.heap.size + 1, 0, none⟩ = some (.int .u64 (uv svh)) ∧ w'.cell? ⟨w.heap.size + 1, 1, none⟩ = some (.int .u64 (uv svl)) ∧ w'.cell? ⟨w.heap.size + 1, 2, none⟩ = some (.int .u64 (uv sch)) ∧ w'.cell? ⟨w.heap.size + 1, 3, none⟩ = some (.int .u64 (uv scl))) 4 l ⟨#[.agg #[.int .u64 (uv hh), .int .u64 (uv hl)], .agg #[.int .u64 (uv svh), .int .u64 (uv svl), .int .u64 (uv sch), .int .u64 (uv scl)], .pointer (some ⟨w.heap.size, 0, none⟩), .pointer (some ⟨w.heap.size + 1, 0, none⟩), .pointer (some ⟨w.heap.size + 1 + 1, 0, none⟩), .pointer (some ⟨b8, 0, none⟩), undef, .pointer (some ⟨b10, 0, none⟩), undef, .agg #[.int .u64 (uv hh), .int .u64 (uv hl)], .agg (bl (hbit hh hl)).toArray, .pointer (some ⟨w.heap.size + 1, 0, none⟩), .agg #[.int .u64 (uv svh), .int .u64 (uv svl)], .agg (bl (hbit svh svl)).toArray, .pointer (some ⟨w.heap.size + 1, 2, none⟩), .agg #[.int .u64 (uv sch), .int .u64 (uv scl)], .agg (bl (hbit sch scl)).toArray, undef, undef, undef, undef, undef, undef, undef, undef, undef, undef, undef, undef, undef, undef], []⟩ u := by
  subst hlst
  have hz := zero25
  refine wpAnyH_ready (rs := [9]) (by kernel_rfl) (by simp) ?_
  refine AllReadyH.cons (o := ⟨some 6, _, _, _, _, _⟩) rfl (fun K hK => ?_) AllReadyH.nil
  go_simp
  have hb := below1 u (.cells (bl (fun _ => false)).toArray 92)
  refine hK.out _ _ (hold6 hb hHeld) (fun hNext => ?_)
  exact set3_012 hh hl svh svl sch scl w Q hfin b8 u.heap.size b10 _ hNext (Zero2.on hb Z) (t8.on hb) (Th.top u _ rfl (World.block_lt_of_cell? u ⟨w.heap.size + 1 + 1, 0, none⟩ (Z 0 (by omega)).1)) (t10.on hb) t8.ne n8_10 t10.ne.symm _ (by kernel_rfl)

set_option maxRecDepth 100000 in
set_option maxHeartbeats 2000000 in
theorem set3_12 (hh hl svh svl sch scl : BitVec 64) (w : World) (Q : Exit → Act → World → Prop)
    (hfin : ∀ (b8 b9 b10 : Nat) (u : World), Below w.heap.size w u → Zero2 u (w.heap.size + 1 + 1) → Row u b8 (hbit hh hl) → Row u b9 (hbit svh svl) → Row u b10 (hbit sch scl) → w.heap.size + 1 + 1 + 1 ≤ b8 → b8 ≠ b9 → b8 ≠ b10 → b9 ≠ b10 → Q .normal ⟨#[.agg #[.int .u64 (uv hh), .int .u64 (uv hl)], .agg #[.int .u64 (uv svh), .int .u64 (uv svl), .int .u64 (uv sch), .int .u64 (uv scl)], .pointer (some ⟨w.heap.size, 0, none⟩), .pointer (some ⟨w.heap.size + 1, 0, none⟩), .pointer (some ⟨w.heap.size + 1 + 1, 0, none⟩), .pointer (some ⟨b8, 0, none⟩), .pointer (some ⟨b9, 0, none⟩), .pointer (some ⟨b10, 0, none⟩), undef, .agg #[.int .u64 (uv hh), .int .u64 (uv hl)], .agg (bl (hbit hh hl)).toArray, .pointer (some ⟨w.heap.size + 1, 0, none⟩), .agg #[.int .u64 (uv svh), .int .u64 (uv svl)], .agg (bl (hbit svh svl)).toArray, .pointer (some ⟨w.heap.size + 1, 2, none⟩), .agg #[.int .u64 (uv sch), .int .u64 (uv scl)], .agg (bl (hbit sch scl)).toArray, undef, undef, undef, undef, undef, undef, undef, undef, undef, undef, undef, undef, undef, undef], []⟩ u)
    (b9 : Nat) (b10 : Nat) (u : World) (hHeld : Below w.heap.size w u ∧ u.cell? ⟨w.heap.size, 0, none⟩ = some (.int .u64 (uv hh)) ∧ u.cell? ⟨w.heap.size, 1, none⟩ = some (.int .u64 (uv hl)) ∧ u.cell? ⟨w.heap.size + 1, 0, none⟩ = some (.int .u64 (uv svh)) ∧ u.cell? ⟨w.heap.size + 1, 1, none⟩ = some (.int .u64 (uv svl)) ∧ u.cell? ⟨w.heap.size + 1, 2, none⟩ = some (.int .u64 (uv sch)) ∧ u.cell? ⟨w.heap.size + 1, 3, none⟩ = some (.int .u64 (uv scl))) (Z : Zero2 u (w.heap.size + 1 + 1)) (t9 : Th (w.heap.size + 1 + 1 + 1) u b9) (t10 : Th (w.heap.size + 1 + 1 + 1) u b10) (n9_10 : b9 ≠ b10) (l : Array Bool) (hlst : l = #[true, true, true, true, true, true, true, true, false, true, true, false, false, false]) :
    wpAnyH Try.prog .any setOps Q (fun w' => Below w.heap.size w w' ∧ w'.cell? ⟨w.heap.size, 0, none⟩ = some (.int .u64 (uv hh)) ∧ w'.cell? ⟨w.heap.size, 1, none⟩ = some (.int .u64 (uv hl)) ∧ w'.cell? ⟨w.heap.size + 1, 0, none⟩ = some (.int .u64 (uv svh)) ∧ w'.cell? ⟨w.heap.size + 1, 1, none⟩ = some (.int .u64 (uv svl)) ∧ w'.cell? ⟨w.heap.size + 1, 2, none⟩ = some (.int .u64 (uv sch)) ∧ w'.cell? ⟨w.heap.size + 1, 3, none⟩ = some (.int .u64 (uv scl))) 4 l ⟨#[.agg #[.int .u64 (uv hh), .int .u64 (uv hl)], .agg #[.int .u64 (uv svh), .int .u64 (uv svl), .int .u64 (uv sch), .int .u64 (uv scl)], .pointer (some ⟨w.heap.size, 0, none⟩), .pointer (some ⟨w.heap.size + 1, 0, none⟩), .pointer (some ⟨w.heap.size + 1 + 1, 0, none⟩), undef, .pointer (some ⟨b9, 0, none⟩), .pointer (some ⟨b10, 0, none⟩), undef, .agg #[.int .u64 (uv hh), .int .u64 (uv hl)], .agg (bl (hbit hh hl)).toArray, .pointer (some ⟨w.heap.size + 1, 0, none⟩), .agg #[.int .u64 (uv svh), .int .u64 (uv svl)], .agg (bl (hbit svh svl)).toArray, .pointer (some ⟨w.heap.size + 1, 2, none⟩), .agg #[.int .u64 (uv sch), .int .u64 (uv scl)], .agg (bl (hbit sch scl)).toArray, undef, undef, undef, undef, undef, undef, undef, undef, undef, undef, undef, undef, undef, undef], []⟩ u := by
  subst hlst
  have hz := zero25
  refine wpAnyH_ready (rs := [8]) (by kernel_rfl) (by simp) ?_
  refine AllReadyH.cons (o := ⟨some 5, _, _, _, _, _⟩) rfl (fun K hK => ?_) AllReadyH.nil
  go_simp
  have hb := below1 u (.cells (bl (fun _ => false)).toArray 92)
  refine hK.out _ _ (hold6 hb hHeld) (fun hNext => ?_)
  exact set3_012 hh hl svh svl sch scl w Q hfin u.heap.size b9 b10 _ hNext (Zero2.on hb Z) (Th.top u _ rfl (World.block_lt_of_cell? u ⟨w.heap.size + 1 + 1, 0, none⟩ (Z 0 (by omega)).1)) (t9.on hb) (t10.on hb) t9.ne.symm t10.ne.symm n9_10 _ (by kernel_rfl)

set_option maxRecDepth 100000 in
set_option maxHeartbeats 2000000 in
theorem set3_0 (hh hl svh svl sch scl : BitVec 64) (w : World) (Q : Exit → Act → World → Prop)
    (hfin : ∀ (b8 b9 b10 : Nat) (u : World), Below w.heap.size w u → Zero2 u (w.heap.size + 1 + 1) → Row u b8 (hbit hh hl) → Row u b9 (hbit svh svl) → Row u b10 (hbit sch scl) → w.heap.size + 1 + 1 + 1 ≤ b8 → b8 ≠ b9 → b8 ≠ b10 → b9 ≠ b10 → Q .normal ⟨#[.agg #[.int .u64 (uv hh), .int .u64 (uv hl)], .agg #[.int .u64 (uv svh), .int .u64 (uv svl), .int .u64 (uv sch), .int .u64 (uv scl)], .pointer (some ⟨w.heap.size, 0, none⟩), .pointer (some ⟨w.heap.size + 1, 0, none⟩), .pointer (some ⟨w.heap.size + 1 + 1, 0, none⟩), .pointer (some ⟨b8, 0, none⟩), .pointer (some ⟨b9, 0, none⟩), .pointer (some ⟨b10, 0, none⟩), undef, .agg #[.int .u64 (uv hh), .int .u64 (uv hl)], .agg (bl (hbit hh hl)).toArray, .pointer (some ⟨w.heap.size + 1, 0, none⟩), .agg #[.int .u64 (uv svh), .int .u64 (uv svl)], .agg (bl (hbit svh svl)).toArray, .pointer (some ⟨w.heap.size + 1, 2, none⟩), .agg #[.int .u64 (uv sch), .int .u64 (uv scl)], .agg (bl (hbit sch scl)).toArray, undef, undef, undef, undef, undef, undef, undef, undef, undef, undef, undef, undef, undef, undef], []⟩ u)
    (b8 : Nat) (u : World) (hHeld : Below w.heap.size w u ∧ u.cell? ⟨w.heap.size, 0, none⟩ = some (.int .u64 (uv hh)) ∧ u.cell? ⟨w.heap.size, 1, none⟩ = some (.int .u64 (uv hl)) ∧ u.cell? ⟨w.heap.size + 1, 0, none⟩ = some (.int .u64 (uv svh)) ∧ u.cell? ⟨w.heap.size + 1, 1, none⟩ = some (.int .u64 (uv svl)) ∧ u.cell? ⟨w.heap.size + 1, 2, none⟩ = some (.int .u64 (uv sch)) ∧ u.cell? ⟨w.heap.size + 1, 3, none⟩ = some (.int .u64 (uv scl))) (Z : Zero2 u (w.heap.size + 1 + 1)) (t8 : Th (w.heap.size + 1 + 1 + 1) u b8) (l : Array Bool) (hlst : l = #[true, true, true, true, true, true, true, true, true, false, false, false, false, false]) :
    wpAnyH Try.prog .any setOps Q (fun w' => Below w.heap.size w w' ∧ w'.cell? ⟨w.heap.size, 0, none⟩ = some (.int .u64 (uv hh)) ∧ w'.cell? ⟨w.heap.size, 1, none⟩ = some (.int .u64 (uv hl)) ∧ w'.cell? ⟨w.heap.size + 1, 0, none⟩ = some (.int .u64 (uv svh)) ∧ w'.cell? ⟨w.heap.size + 1, 1, none⟩ = some (.int .u64 (uv svl)) ∧ w'.cell? ⟨w.heap.size + 1, 2, none⟩ = some (.int .u64 (uv sch)) ∧ w'.cell? ⟨w.heap.size + 1, 3, none⟩ = some (.int .u64 (uv scl))) 5 l ⟨#[.agg #[.int .u64 (uv hh), .int .u64 (uv hl)], .agg #[.int .u64 (uv svh), .int .u64 (uv svl), .int .u64 (uv sch), .int .u64 (uv scl)], .pointer (some ⟨w.heap.size, 0, none⟩), .pointer (some ⟨w.heap.size + 1, 0, none⟩), .pointer (some ⟨w.heap.size + 1 + 1, 0, none⟩), .pointer (some ⟨b8, 0, none⟩), undef, undef, undef, .agg #[.int .u64 (uv hh), .int .u64 (uv hl)], .agg (bl (hbit hh hl)).toArray, .pointer (some ⟨w.heap.size + 1, 0, none⟩), .agg #[.int .u64 (uv svh), .int .u64 (uv svl)], .agg (bl (hbit svh svl)).toArray, .pointer (some ⟨w.heap.size + 1, 2, none⟩), .agg #[.int .u64 (uv sch), .int .u64 (uv scl)], .agg (bl (hbit sch scl)).toArray, undef, undef, undef, undef, undef, undef, undef, undef, undef, undef, undef, undef, undef, undef], []⟩ u := by
  subst hlst
  have hz := zero25
  refine wpAnyH_ready (rs := [9, 10]) (by kernel_rfl) (by simp) ?_
  refine AllReadyH.cons (o := ⟨some 6, _, _, _, _, _⟩) rfl (fun K hK => ?_) ?_
  · go_simp
    have hb := below1 u (.cells (bl (fun _ => false)).toArray 92)
    refine hK.out _ _ (hold6 hb hHeld) (fun hNext => ?_)
    exact set3_01 hh hl svh svl sch scl w Q hfin b8 u.heap.size _ hNext (Zero2.on hb Z) (t8.on hb) (Th.top u _ rfl (World.block_lt_of_cell? u ⟨w.heap.size + 1 + 1, 0, none⟩ (Z 0 (by omega)).1)) t8.ne _ (by kernel_rfl)
  refine AllReadyH.cons (o := ⟨some 7, _, _, _, _, _⟩) rfl (fun K hK => ?_) AllReadyH.nil
  go_simp
  have hb := below1 u (.cells (bl (fun _ => false)).toArray 92)
  refine hK.out _ _ (hold6 hb hHeld) (fun hNext => ?_)
  exact set3_02 hh hl svh svl sch scl w Q hfin b8 u.heap.size _ hNext (Zero2.on hb Z) (t8.on hb) (Th.top u _ rfl (World.block_lt_of_cell? u ⟨w.heap.size + 1 + 1, 0, none⟩ (Z 0 (by omega)).1)) t8.ne _ (by kernel_rfl)

set_option maxRecDepth 100000 in
set_option maxHeartbeats 2000000 in
theorem set3_1 (hh hl svh svl sch scl : BitVec 64) (w : World) (Q : Exit → Act → World → Prop)
    (hfin : ∀ (b8 b9 b10 : Nat) (u : World), Below w.heap.size w u → Zero2 u (w.heap.size + 1 + 1) → Row u b8 (hbit hh hl) → Row u b9 (hbit svh svl) → Row u b10 (hbit sch scl) → w.heap.size + 1 + 1 + 1 ≤ b8 → b8 ≠ b9 → b8 ≠ b10 → b9 ≠ b10 → Q .normal ⟨#[.agg #[.int .u64 (uv hh), .int .u64 (uv hl)], .agg #[.int .u64 (uv svh), .int .u64 (uv svl), .int .u64 (uv sch), .int .u64 (uv scl)], .pointer (some ⟨w.heap.size, 0, none⟩), .pointer (some ⟨w.heap.size + 1, 0, none⟩), .pointer (some ⟨w.heap.size + 1 + 1, 0, none⟩), .pointer (some ⟨b8, 0, none⟩), .pointer (some ⟨b9, 0, none⟩), .pointer (some ⟨b10, 0, none⟩), undef, .agg #[.int .u64 (uv hh), .int .u64 (uv hl)], .agg (bl (hbit hh hl)).toArray, .pointer (some ⟨w.heap.size + 1, 0, none⟩), .agg #[.int .u64 (uv svh), .int .u64 (uv svl)], .agg (bl (hbit svh svl)).toArray, .pointer (some ⟨w.heap.size + 1, 2, none⟩), .agg #[.int .u64 (uv sch), .int .u64 (uv scl)], .agg (bl (hbit sch scl)).toArray, undef, undef, undef, undef, undef, undef, undef, undef, undef, undef, undef, undef, undef, undef], []⟩ u)
    (b9 : Nat) (u : World) (hHeld : Below w.heap.size w u ∧ u.cell? ⟨w.heap.size, 0, none⟩ = some (.int .u64 (uv hh)) ∧ u.cell? ⟨w.heap.size, 1, none⟩ = some (.int .u64 (uv hl)) ∧ u.cell? ⟨w.heap.size + 1, 0, none⟩ = some (.int .u64 (uv svh)) ∧ u.cell? ⟨w.heap.size + 1, 1, none⟩ = some (.int .u64 (uv svl)) ∧ u.cell? ⟨w.heap.size + 1, 2, none⟩ = some (.int .u64 (uv sch)) ∧ u.cell? ⟨w.heap.size + 1, 3, none⟩ = some (.int .u64 (uv scl))) (Z : Zero2 u (w.heap.size + 1 + 1)) (t9 : Th (w.heap.size + 1 + 1 + 1) u b9) (l : Array Bool) (hlst : l = #[true, true, true, true, true, true, true, true, false, true, false, false, false, false]) :
    wpAnyH Try.prog .any setOps Q (fun w' => Below w.heap.size w w' ∧ w'.cell? ⟨w.heap.size, 0, none⟩ = some (.int .u64 (uv hh)) ∧ w'.cell? ⟨w.heap.size, 1, none⟩ = some (.int .u64 (uv hl)) ∧ w'.cell? ⟨w.heap.size + 1, 0, none⟩ = some (.int .u64 (uv svh)) ∧ w'.cell? ⟨w.heap.size + 1, 1, none⟩ = some (.int .u64 (uv svl)) ∧ w'.cell? ⟨w.heap.size + 1, 2, none⟩ = some (.int .u64 (uv sch)) ∧ w'.cell? ⟨w.heap.size + 1, 3, none⟩ = some (.int .u64 (uv scl))) 5 l ⟨#[.agg #[.int .u64 (uv hh), .int .u64 (uv hl)], .agg #[.int .u64 (uv svh), .int .u64 (uv svl), .int .u64 (uv sch), .int .u64 (uv scl)], .pointer (some ⟨w.heap.size, 0, none⟩), .pointer (some ⟨w.heap.size + 1, 0, none⟩), .pointer (some ⟨w.heap.size + 1 + 1, 0, none⟩), undef, .pointer (some ⟨b9, 0, none⟩), undef, undef, .agg #[.int .u64 (uv hh), .int .u64 (uv hl)], .agg (bl (hbit hh hl)).toArray, .pointer (some ⟨w.heap.size + 1, 0, none⟩), .agg #[.int .u64 (uv svh), .int .u64 (uv svl)], .agg (bl (hbit svh svl)).toArray, .pointer (some ⟨w.heap.size + 1, 2, none⟩), .agg #[.int .u64 (uv sch), .int .u64 (uv scl)], .agg (bl (hbit sch scl)).toArray, undef, undef, undef, undef, undef, undef, undef, undef, undef, undef, undef, undef, undef, undef], []⟩ u := by
  subst hlst
  have hz := zero25
  refine wpAnyH_ready (rs := [8, 10]) (by kernel_rfl) (by simp) ?_
  refine AllReadyH.cons (o := ⟨some 5, _, _, _, _, _⟩) rfl (fun K hK => ?_) ?_
  · go_simp
    have hb := below1 u (.cells (bl (fun _ => false)).toArray 92)
    refine hK.out _ _ (hold6 hb hHeld) (fun hNext => ?_)
    exact set3_01 hh hl svh svl sch scl w Q hfin u.heap.size b9 _ hNext (Zero2.on hb Z) (Th.top u _ rfl (World.block_lt_of_cell? u ⟨w.heap.size + 1 + 1, 0, none⟩ (Z 0 (by omega)).1)) (t9.on hb) t9.ne.symm _ (by kernel_rfl)
  refine AllReadyH.cons (o := ⟨some 7, _, _, _, _, _⟩) rfl (fun K hK => ?_) AllReadyH.nil
  go_simp
  have hb := below1 u (.cells (bl (fun _ => false)).toArray 92)
  refine hK.out _ _ (hold6 hb hHeld) (fun hNext => ?_)
  exact set3_12 hh hl svh svl sch scl w Q hfin b9 u.heap.size _ hNext (Zero2.on hb Z) (t9.on hb) (Th.top u _ rfl (World.block_lt_of_cell? u ⟨w.heap.size + 1 + 1, 0, none⟩ (Z 0 (by omega)).1)) t9.ne _ (by kernel_rfl)

set_option maxRecDepth 100000 in
set_option maxHeartbeats 2000000 in
theorem set3_2 (hh hl svh svl sch scl : BitVec 64) (w : World) (Q : Exit → Act → World → Prop)
    (hfin : ∀ (b8 b9 b10 : Nat) (u : World), Below w.heap.size w u → Zero2 u (w.heap.size + 1 + 1) → Row u b8 (hbit hh hl) → Row u b9 (hbit svh svl) → Row u b10 (hbit sch scl) → w.heap.size + 1 + 1 + 1 ≤ b8 → b8 ≠ b9 → b8 ≠ b10 → b9 ≠ b10 → Q .normal ⟨#[.agg #[.int .u64 (uv hh), .int .u64 (uv hl)], .agg #[.int .u64 (uv svh), .int .u64 (uv svl), .int .u64 (uv sch), .int .u64 (uv scl)], .pointer (some ⟨w.heap.size, 0, none⟩), .pointer (some ⟨w.heap.size + 1, 0, none⟩), .pointer (some ⟨w.heap.size + 1 + 1, 0, none⟩), .pointer (some ⟨b8, 0, none⟩), .pointer (some ⟨b9, 0, none⟩), .pointer (some ⟨b10, 0, none⟩), undef, .agg #[.int .u64 (uv hh), .int .u64 (uv hl)], .agg (bl (hbit hh hl)).toArray, .pointer (some ⟨w.heap.size + 1, 0, none⟩), .agg #[.int .u64 (uv svh), .int .u64 (uv svl)], .agg (bl (hbit svh svl)).toArray, .pointer (some ⟨w.heap.size + 1, 2, none⟩), .agg #[.int .u64 (uv sch), .int .u64 (uv scl)], .agg (bl (hbit sch scl)).toArray, undef, undef, undef, undef, undef, undef, undef, undef, undef, undef, undef, undef, undef, undef], []⟩ u)
    (b10 : Nat) (u : World) (hHeld : Below w.heap.size w u ∧ u.cell? ⟨w.heap.size, 0, none⟩ = some (.int .u64 (uv hh)) ∧ u.cell? ⟨w.heap.size, 1, none⟩ = some (.int .u64 (uv hl)) ∧ u.cell? ⟨w.heap.size + 1, 0, none⟩ = some (.int .u64 (uv svh)) ∧ u.cell? ⟨w.heap.size + 1, 1, none⟩ = some (.int .u64 (uv svl)) ∧ u.cell? ⟨w.heap.size + 1, 2, none⟩ = some (.int .u64 (uv sch)) ∧ u.cell? ⟨w.heap.size + 1, 3, none⟩ = some (.int .u64 (uv scl))) (Z : Zero2 u (w.heap.size + 1 + 1)) (t10 : Th (w.heap.size + 1 + 1 + 1) u b10) (l : Array Bool) (hlst : l = #[true, true, true, true, true, true, true, true, false, false, true, false, false, false]) :
    wpAnyH Try.prog .any setOps Q (fun w' => Below w.heap.size w w' ∧ w'.cell? ⟨w.heap.size, 0, none⟩ = some (.int .u64 (uv hh)) ∧ w'.cell? ⟨w.heap.size, 1, none⟩ = some (.int .u64 (uv hl)) ∧ w'.cell? ⟨w.heap.size + 1, 0, none⟩ = some (.int .u64 (uv svh)) ∧ w'.cell? ⟨w.heap.size + 1, 1, none⟩ = some (.int .u64 (uv svl)) ∧ w'.cell? ⟨w.heap.size + 1, 2, none⟩ = some (.int .u64 (uv sch)) ∧ w'.cell? ⟨w.heap.size + 1, 3, none⟩ = some (.int .u64 (uv scl))) 5 l ⟨#[.agg #[.int .u64 (uv hh), .int .u64 (uv hl)], .agg #[.int .u64 (uv svh), .int .u64 (uv svl), .int .u64 (uv sch), .int .u64 (uv scl)], .pointer (some ⟨w.heap.size, 0, none⟩), .pointer (some ⟨w.heap.size + 1, 0, none⟩), .pointer (some ⟨w.heap.size + 1 + 1, 0, none⟩), undef, undef, .pointer (some ⟨b10, 0, none⟩), undef, .agg #[.int .u64 (uv hh), .int .u64 (uv hl)], .agg (bl (hbit hh hl)).toArray, .pointer (some ⟨w.heap.size + 1, 0, none⟩), .agg #[.int .u64 (uv svh), .int .u64 (uv svl)], .agg (bl (hbit svh svl)).toArray, .pointer (some ⟨w.heap.size + 1, 2, none⟩), .agg #[.int .u64 (uv sch), .int .u64 (uv scl)], .agg (bl (hbit sch scl)).toArray, undef, undef, undef, undef, undef, undef, undef, undef, undef, undef, undef, undef, undef, undef], []⟩ u := by
  subst hlst
  have hz := zero25
  refine wpAnyH_ready (rs := [8, 9]) (by kernel_rfl) (by simp) ?_
  refine AllReadyH.cons (o := ⟨some 5, _, _, _, _, _⟩) rfl (fun K hK => ?_) ?_
  · go_simp
    have hb := below1 u (.cells (bl (fun _ => false)).toArray 92)
    refine hK.out _ _ (hold6 hb hHeld) (fun hNext => ?_)
    exact set3_02 hh hl svh svl sch scl w Q hfin u.heap.size b10 _ hNext (Zero2.on hb Z) (Th.top u _ rfl (World.block_lt_of_cell? u ⟨w.heap.size + 1 + 1, 0, none⟩ (Z 0 (by omega)).1)) (t10.on hb) t10.ne.symm _ (by kernel_rfl)
  refine AllReadyH.cons (o := ⟨some 6, _, _, _, _, _⟩) rfl (fun K hK => ?_) AllReadyH.nil
  go_simp
  have hb := below1 u (.cells (bl (fun _ => false)).toArray 92)
  refine hK.out _ _ (hold6 hb hHeld) (fun hNext => ?_)
  exact set3_12 hh hl svh svl sch scl w Q hfin u.heap.size b10 _ hNext (Zero2.on hb Z) (Th.top u _ rfl (World.block_lt_of_cell? u ⟨w.heap.size + 1 + 1, 0, none⟩ (Z 0 (by omega)).1)) (t10.on hb) t10.ne.symm _ (by kernel_rfl)

set_option maxRecDepth 100000 in
set_option maxHeartbeats 2000000 in
theorem set3_ (hh hl svh svl sch scl : BitVec 64) (w : World) (Q : Exit → Act → World → Prop)
    (hfin : ∀ (b8 b9 b10 : Nat) (u : World), Below w.heap.size w u → Zero2 u (w.heap.size + 1 + 1) → Row u b8 (hbit hh hl) → Row u b9 (hbit svh svl) → Row u b10 (hbit sch scl) → w.heap.size + 1 + 1 + 1 ≤ b8 → b8 ≠ b9 → b8 ≠ b10 → b9 ≠ b10 → Q .normal ⟨#[.agg #[.int .u64 (uv hh), .int .u64 (uv hl)], .agg #[.int .u64 (uv svh), .int .u64 (uv svl), .int .u64 (uv sch), .int .u64 (uv scl)], .pointer (some ⟨w.heap.size, 0, none⟩), .pointer (some ⟨w.heap.size + 1, 0, none⟩), .pointer (some ⟨w.heap.size + 1 + 1, 0, none⟩), .pointer (some ⟨b8, 0, none⟩), .pointer (some ⟨b9, 0, none⟩), .pointer (some ⟨b10, 0, none⟩), undef, .agg #[.int .u64 (uv hh), .int .u64 (uv hl)], .agg (bl (hbit hh hl)).toArray, .pointer (some ⟨w.heap.size + 1, 0, none⟩), .agg #[.int .u64 (uv svh), .int .u64 (uv svl)], .agg (bl (hbit svh svl)).toArray, .pointer (some ⟨w.heap.size + 1, 2, none⟩), .agg #[.int .u64 (uv sch), .int .u64 (uv scl)], .agg (bl (hbit sch scl)).toArray, undef, undef, undef, undef, undef, undef, undef, undef, undef, undef, undef, undef, undef, undef], []⟩ u)
    (u : World) (hHeld : Below w.heap.size w u ∧ u.cell? ⟨w.heap.size, 0, none⟩ = some (.int .u64 (uv hh)) ∧ u.cell? ⟨w.heap.size, 1, none⟩ = some (.int .u64 (uv hl)) ∧ u.cell? ⟨w.heap.size + 1, 0, none⟩ = some (.int .u64 (uv svh)) ∧ u.cell? ⟨w.heap.size + 1, 1, none⟩ = some (.int .u64 (uv svl)) ∧ u.cell? ⟨w.heap.size + 1, 2, none⟩ = some (.int .u64 (uv sch)) ∧ u.cell? ⟨w.heap.size + 1, 3, none⟩ = some (.int .u64 (uv scl))) (Z : Zero2 u (w.heap.size + 1 + 1)) (l : Array Bool) (hlst : l = #[true, true, true, true, true, true, true, true, false, false, false, false, false, false]) :
    wpAnyH Try.prog .any setOps Q (fun w' => Below w.heap.size w w' ∧ w'.cell? ⟨w.heap.size, 0, none⟩ = some (.int .u64 (uv hh)) ∧ w'.cell? ⟨w.heap.size, 1, none⟩ = some (.int .u64 (uv hl)) ∧ w'.cell? ⟨w.heap.size + 1, 0, none⟩ = some (.int .u64 (uv svh)) ∧ w'.cell? ⟨w.heap.size + 1, 1, none⟩ = some (.int .u64 (uv svl)) ∧ w'.cell? ⟨w.heap.size + 1, 2, none⟩ = some (.int .u64 (uv sch)) ∧ w'.cell? ⟨w.heap.size + 1, 3, none⟩ = some (.int .u64 (uv scl))) 6 l ⟨#[.agg #[.int .u64 (uv hh), .int .u64 (uv hl)], .agg #[.int .u64 (uv svh), .int .u64 (uv svl), .int .u64 (uv sch), .int .u64 (uv scl)], .pointer (some ⟨w.heap.size, 0, none⟩), .pointer (some ⟨w.heap.size + 1, 0, none⟩), .pointer (some ⟨w.heap.size + 1 + 1, 0, none⟩), undef, undef, undef, undef, .agg #[.int .u64 (uv hh), .int .u64 (uv hl)], .agg (bl (hbit hh hl)).toArray, .pointer (some ⟨w.heap.size + 1, 0, none⟩), .agg #[.int .u64 (uv svh), .int .u64 (uv svl)], .agg (bl (hbit svh svl)).toArray, .pointer (some ⟨w.heap.size + 1, 2, none⟩), .agg #[.int .u64 (uv sch), .int .u64 (uv scl)], .agg (bl (hbit sch scl)).toArray, undef, undef, undef, undef, undef, undef, undef, undef, undef, undef, undef, undef, undef, undef], []⟩ u := by
  subst hlst
  have hz := zero25
  refine wpAnyH_ready (rs := [8, 9, 10]) (by kernel_rfl) (by simp) ?_
  refine AllReadyH.cons (o := ⟨some 5, _, _, _, _, _⟩) rfl (fun K hK => ?_) ?_
  · go_simp
    have hb := below1 u (.cells (bl (fun _ => false)).toArray 92)
    refine hK.out _ _ (hold6 hb hHeld) (fun hNext => ?_)
    exact set3_0 hh hl svh svl sch scl w Q hfin u.heap.size _ hNext (Zero2.on hb Z) (Th.top u _ rfl (World.block_lt_of_cell? u ⟨w.heap.size + 1 + 1, 0, none⟩ (Z 0 (by omega)).1))  _ (by kernel_rfl)
  refine AllReadyH.cons (o := ⟨some 6, _, _, _, _, _⟩) rfl (fun K hK => ?_) ?_
  · go_simp
    have hb := below1 u (.cells (bl (fun _ => false)).toArray 92)
    refine hK.out _ _ (hold6 hb hHeld) (fun hNext => ?_)
    exact set3_1 hh hl svh svl sch scl w Q hfin u.heap.size _ hNext (Zero2.on hb Z) (Th.top u _ rfl (World.block_lt_of_cell? u ⟨w.heap.size + 1 + 1, 0, none⟩ (Z 0 (by omega)).1))  _ (by kernel_rfl)
  refine AllReadyH.cons (o := ⟨some 7, _, _, _, _, _⟩) rfl (fun K hK => ?_) AllReadyH.nil
  go_simp
  have hb := below1 u (.cells (bl (fun _ => false)).toArray 92)
  refine hK.out _ _ (hold6 hb hHeld) (fun hNext => ?_)
  exact set3_2 hh hl svh svl sch scl w Q hfin u.heap.size _ hNext (Zero2.on hb Z) (Th.top u _ rfl (World.block_lt_of_cell? u ⟨w.heap.size + 1 + 1, 0, none⟩ (Z 0 (by omega)).1))  _ (by kernel_rfl)

set_option maxRecDepth 100000 in
set_option maxHeartbeats 2000000 in
theorem set2_012 (hh hl svh svl sch scl : BitVec 64) (w : World) (Q : Exit → Act → World → Prop)
    (hfin : ∀ (b8 b9 b10 : Nat) (u : World), Below w.heap.size w u → Zero2 u (w.heap.size + 1 + 1) → Row u b8 (hbit hh hl) → Row u b9 (hbit svh svl) → Row u b10 (hbit sch scl) → w.heap.size + 1 + 1 + 1 ≤ b8 → b8 ≠ b9 → b8 ≠ b10 → b9 ≠ b10 → Q .normal ⟨#[.agg #[.int .u64 (uv hh), .int .u64 (uv hl)], .agg #[.int .u64 (uv svh), .int .u64 (uv svl), .int .u64 (uv sch), .int .u64 (uv scl)], .pointer (some ⟨w.heap.size, 0, none⟩), .pointer (some ⟨w.heap.size + 1, 0, none⟩), .pointer (some ⟨w.heap.size + 1 + 1, 0, none⟩), .pointer (some ⟨b8, 0, none⟩), .pointer (some ⟨b9, 0, none⟩), .pointer (some ⟨b10, 0, none⟩), undef, .agg #[.int .u64 (uv hh), .int .u64 (uv hl)], .agg (bl (hbit hh hl)).toArray, .pointer (some ⟨w.heap.size + 1, 0, none⟩), .agg #[.int .u64 (uv svh), .int .u64 (uv svl)], .agg (bl (hbit svh svl)).toArray, .pointer (some ⟨w.heap.size + 1, 2, none⟩), .agg #[.int .u64 (uv sch), .int .u64 (uv scl)], .agg (bl (hbit sch scl)).toArray, undef, undef, undef, undef, undef, undef, undef, undef, undef, undef, undef, undef, undef, undef], []⟩ u)
    (b8 : Nat) (b9 : Nat) (b10 : Nat) (u : World) (hHeld : Below w.heap.size w u ∧ u.cell? ⟨w.heap.size, 0, none⟩ = some (.int .u64 (uv hh)) ∧ u.cell? ⟨w.heap.size, 1, none⟩ = some (.int .u64 (uv hl)) ∧ u.cell? ⟨w.heap.size + 1, 0, none⟩ = some (.int .u64 (uv svh)) ∧ u.cell? ⟨w.heap.size + 1, 1, none⟩ = some (.int .u64 (uv svl)) ∧ u.cell? ⟨w.heap.size + 1, 2, none⟩ = some (.int .u64 (uv sch)) ∧ u.cell? ⟨w.heap.size + 1, 3, none⟩ = some (.int .u64 (uv scl))) (Z : Zero2 u (w.heap.size + 1 + 1)) (t8 : Th (w.heap.size + 1 + 1 + 1) u b8) (t9 : Th (w.heap.size + 1 + 1 + 1) u b9) (t10 : Th (w.heap.size + 1 + 1 + 1) u b10) (n8_9 : b8 ≠ b9) (n8_10 : b8 ≠ b10) (n9_10 : b9 ≠ b10) (l : Array Bool) (hlst : l = #[true, true, true, true, true, true, true, false, true, true, true, false, false, false]) :
    wpAnyH Try.prog .any setOps Q (fun w' => Below w.heap.size w w' ∧ w'.cell? ⟨w.heap.size, 0, none⟩ = some (.int .u64 (uv hh)) ∧ w'.cell? ⟨w.heap.size, 1, none⟩ = some (.int .u64 (uv hl)) ∧ w'.cell? ⟨w.heap.size + 1, 0, none⟩ = some (.int .u64 (uv svh)) ∧ w'.cell? ⟨w.heap.size + 1, 1, none⟩ = some (.int .u64 (uv svl)) ∧ w'.cell? ⟨w.heap.size + 1, 2, none⟩ = some (.int .u64 (uv sch)) ∧ w'.cell? ⟨w.heap.size + 1, 3, none⟩ = some (.int .u64 (uv scl))) 4 l ⟨#[.agg #[.int .u64 (uv hh), .int .u64 (uv hl)], .agg #[.int .u64 (uv svh), .int .u64 (uv svl), .int .u64 (uv sch), .int .u64 (uv scl)], .pointer (some ⟨w.heap.size, 0, none⟩), .pointer (some ⟨w.heap.size + 1, 0, none⟩), .pointer (some ⟨w.heap.size + 1 + 1, 0, none⟩), .pointer (some ⟨b8, 0, none⟩), .pointer (some ⟨b9, 0, none⟩), .pointer (some ⟨b10, 0, none⟩), undef, .agg #[.int .u64 (uv hh), .int .u64 (uv hl)], .agg (bl (hbit hh hl)).toArray, .pointer (some ⟨w.heap.size + 1, 0, none⟩), .agg #[.int .u64 (uv svh), .int .u64 (uv svl)], .agg (bl (hbit svh svl)).toArray, .pointer (some ⟨w.heap.size + 1, 2, none⟩), .agg #[.int .u64 (uv sch), .int .u64 (uv scl)], undef, undef, undef, undef, undef, undef, undef, undef, undef, undef, undef, undef, undef, undef, undef], []⟩ u := by
  subst hlst
  have hz := zero25
  refine wpAnyH_ready (rs := [7]) (by kernel_rfl) (by simp) ?_
  refine AllReadyH.cons (o := ⟨some 16, _, _, _, _, _⟩) rfl (fun K hK => ?_) AllReadyH.nil
  go_simp
  (with_reducible refine (bits_c _ _ _).mono ?_)
  rintro e u1 ⟨rfl, hb⟩
  (try dsimp only)
  refine hK.out _ _ (hold6 hb hHeld) (fun hNext => ?_)
  exact set3_012 hh hl svh svl sch scl w Q hfin b8 b9 b10 u1 hNext (Zero2.on hb Z) (t8.on hb) (t9.on hb) (t10.on hb) n8_9 n8_10 n9_10 _ (by kernel_rfl)

set_option maxRecDepth 100000 in
set_option maxHeartbeats 2000000 in
theorem set2_01 (hh hl svh svl sch scl : BitVec 64) (w : World) (Q : Exit → Act → World → Prop)
    (hfin : ∀ (b8 b9 b10 : Nat) (u : World), Below w.heap.size w u → Zero2 u (w.heap.size + 1 + 1) → Row u b8 (hbit hh hl) → Row u b9 (hbit svh svl) → Row u b10 (hbit sch scl) → w.heap.size + 1 + 1 + 1 ≤ b8 → b8 ≠ b9 → b8 ≠ b10 → b9 ≠ b10 → Q .normal ⟨#[.agg #[.int .u64 (uv hh), .int .u64 (uv hl)], .agg #[.int .u64 (uv svh), .int .u64 (uv svl), .int .u64 (uv sch), .int .u64 (uv scl)], .pointer (some ⟨w.heap.size, 0, none⟩), .pointer (some ⟨w.heap.size + 1, 0, none⟩), .pointer (some ⟨w.heap.size + 1 + 1, 0, none⟩), .pointer (some ⟨b8, 0, none⟩), .pointer (some ⟨b9, 0, none⟩), .pointer (some ⟨b10, 0, none⟩), undef, .agg #[.int .u64 (uv hh), .int .u64 (uv hl)], .agg (bl (hbit hh hl)).toArray, .pointer (some ⟨w.heap.size + 1, 0, none⟩), .agg #[.int .u64 (uv svh), .int .u64 (uv svl)], .agg (bl (hbit svh svl)).toArray, .pointer (some ⟨w.heap.size + 1, 2, none⟩), .agg #[.int .u64 (uv sch), .int .u64 (uv scl)], .agg (bl (hbit sch scl)).toArray, undef, undef, undef, undef, undef, undef, undef, undef, undef, undef, undef, undef, undef, undef], []⟩ u)
    (b8 : Nat) (b9 : Nat) (u : World) (hHeld : Below w.heap.size w u ∧ u.cell? ⟨w.heap.size, 0, none⟩ = some (.int .u64 (uv hh)) ∧ u.cell? ⟨w.heap.size, 1, none⟩ = some (.int .u64 (uv hl)) ∧ u.cell? ⟨w.heap.size + 1, 0, none⟩ = some (.int .u64 (uv svh)) ∧ u.cell? ⟨w.heap.size + 1, 1, none⟩ = some (.int .u64 (uv svl)) ∧ u.cell? ⟨w.heap.size + 1, 2, none⟩ = some (.int .u64 (uv sch)) ∧ u.cell? ⟨w.heap.size + 1, 3, none⟩ = some (.int .u64 (uv scl))) (Z : Zero2 u (w.heap.size + 1 + 1)) (t8 : Th (w.heap.size + 1 + 1 + 1) u b8) (t9 : Th (w.heap.size + 1 + 1 + 1) u b9) (n8_9 : b8 ≠ b9) (l : Array Bool) (hlst : l = #[true, true, true, true, true, true, true, false, true, true, false, false, false, false]) :
    wpAnyH Try.prog .any setOps Q (fun w' => Below w.heap.size w w' ∧ w'.cell? ⟨w.heap.size, 0, none⟩ = some (.int .u64 (uv hh)) ∧ w'.cell? ⟨w.heap.size, 1, none⟩ = some (.int .u64 (uv hl)) ∧ w'.cell? ⟨w.heap.size + 1, 0, none⟩ = some (.int .u64 (uv svh)) ∧ w'.cell? ⟨w.heap.size + 1, 1, none⟩ = some (.int .u64 (uv svl)) ∧ w'.cell? ⟨w.heap.size + 1, 2, none⟩ = some (.int .u64 (uv sch)) ∧ w'.cell? ⟨w.heap.size + 1, 3, none⟩ = some (.int .u64 (uv scl))) 5 l ⟨#[.agg #[.int .u64 (uv hh), .int .u64 (uv hl)], .agg #[.int .u64 (uv svh), .int .u64 (uv svl), .int .u64 (uv sch), .int .u64 (uv scl)], .pointer (some ⟨w.heap.size, 0, none⟩), .pointer (some ⟨w.heap.size + 1, 0, none⟩), .pointer (some ⟨w.heap.size + 1 + 1, 0, none⟩), .pointer (some ⟨b8, 0, none⟩), .pointer (some ⟨b9, 0, none⟩), undef, undef, .agg #[.int .u64 (uv hh), .int .u64 (uv hl)], .agg (bl (hbit hh hl)).toArray, .pointer (some ⟨w.heap.size + 1, 0, none⟩), .agg #[.int .u64 (uv svh), .int .u64 (uv svl)], .agg (bl (hbit svh svl)).toArray, .pointer (some ⟨w.heap.size + 1, 2, none⟩), .agg #[.int .u64 (uv sch), .int .u64 (uv scl)], undef, undef, undef, undef, undef, undef, undef, undef, undef, undef, undef, undef, undef, undef, undef], []⟩ u := by
  subst hlst
  have hz := zero25
  refine wpAnyH_ready (rs := [7, 10]) (by kernel_rfl) (by simp) ?_
  refine AllReadyH.cons (o := ⟨some 16, _, _, _, _, _⟩) rfl (fun K hK => ?_) ?_
  · go_simp
    (with_reducible refine (bits_c _ _ _).mono ?_)
    rintro e u1 ⟨rfl, hb⟩
    (try dsimp only)
    refine hK.out _ _ (hold6 hb hHeld) (fun hNext => ?_)
    exact set3_01 hh hl svh svl sch scl w Q hfin b8 b9 u1 hNext (Zero2.on hb Z) (t8.on hb) (t9.on hb) n8_9 _ (by kernel_rfl)
  refine AllReadyH.cons (o := ⟨some 7, _, _, _, _, _⟩) rfl (fun K hK => ?_) AllReadyH.nil
  go_simp
  have hb := below1 u (.cells (bl (fun _ => false)).toArray 92)
  refine hK.out _ _ (hold6 hb hHeld) (fun hNext => ?_)
  exact set2_012 hh hl svh svl sch scl w Q hfin b8 b9 u.heap.size _ hNext (Zero2.on hb Z) (t8.on hb) (t9.on hb) (Th.top u _ rfl (World.block_lt_of_cell? u ⟨w.heap.size + 1 + 1, 0, none⟩ (Z 0 (by omega)).1)) n8_9 t8.ne t9.ne _ (by kernel_rfl)

set_option maxRecDepth 100000 in
set_option maxHeartbeats 2000000 in
theorem set2_02 (hh hl svh svl sch scl : BitVec 64) (w : World) (Q : Exit → Act → World → Prop)
    (hfin : ∀ (b8 b9 b10 : Nat) (u : World), Below w.heap.size w u → Zero2 u (w.heap.size + 1 + 1) → Row u b8 (hbit hh hl) → Row u b9 (hbit svh svl) → Row u b10 (hbit sch scl) → w.heap.size + 1 + 1 + 1 ≤ b8 → b8 ≠ b9 → b8 ≠ b10 → b9 ≠ b10 → Q .normal ⟨#[.agg #[.int .u64 (uv hh), .int .u64 (uv hl)], .agg #[.int .u64 (uv svh), .int .u64 (uv svl), .int .u64 (uv sch), .int .u64 (uv scl)], .pointer (some ⟨w.heap.size, 0, none⟩), .pointer (some ⟨w.heap.size + 1, 0, none⟩), .pointer (some ⟨w.heap.size + 1 + 1, 0, none⟩), .pointer (some ⟨b8, 0, none⟩), .pointer (some ⟨b9, 0, none⟩), .pointer (some ⟨b10, 0, none⟩), undef, .agg #[.int .u64 (uv hh), .int .u64 (uv hl)], .agg (bl (hbit hh hl)).toArray, .pointer (some ⟨w.heap.size + 1, 0, none⟩), .agg #[.int .u64 (uv svh), .int .u64 (uv svl)], .agg (bl (hbit svh svl)).toArray, .pointer (some ⟨w.heap.size + 1, 2, none⟩), .agg #[.int .u64 (uv sch), .int .u64 (uv scl)], .agg (bl (hbit sch scl)).toArray, undef, undef, undef, undef, undef, undef, undef, undef, undef, undef, undef, undef, undef, undef], []⟩ u)
    (b8 : Nat) (b10 : Nat) (u : World) (hHeld : Below w.heap.size w u ∧ u.cell? ⟨w.heap.size, 0, none⟩ = some (.int .u64 (uv hh)) ∧ u.cell? ⟨w.heap.size, 1, none⟩ = some (.int .u64 (uv hl)) ∧ u.cell? ⟨w.heap.size + 1, 0, none⟩ = some (.int .u64 (uv svh)) ∧ u.cell? ⟨w.heap.size + 1, 1, none⟩ = some (.int .u64 (uv svl)) ∧ u.cell? ⟨w.heap.size + 1, 2, none⟩ = some (.int .u64 (uv sch)) ∧ u.cell? ⟨w.heap.size + 1, 3, none⟩ = some (.int .u64 (uv scl))) (Z : Zero2 u (w.heap.size + 1 + 1)) (t8 : Th (w.heap.size + 1 + 1 + 1) u b8) (t10 : Th (w.heap.size + 1 + 1 + 1) u b10) (n8_10 : b8 ≠ b10) (l : Array Bool) (hlst : l = #[true, true, true, true, true, true, true, false, true, false, true, false, false, false]) :
    wpAnyH Try.prog .any setOps Q (fun w' => Below w.heap.size w w' ∧ w'.cell? ⟨w.heap.size, 0, none⟩ = some (.int .u64 (uv hh)) ∧ w'.cell? ⟨w.heap.size, 1, none⟩ = some (.int .u64 (uv hl)) ∧ w'.cell? ⟨w.heap.size + 1, 0, none⟩ = some (.int .u64 (uv svh)) ∧ w'.cell? ⟨w.heap.size + 1, 1, none⟩ = some (.int .u64 (uv svl)) ∧ w'.cell? ⟨w.heap.size + 1, 2, none⟩ = some (.int .u64 (uv sch)) ∧ w'.cell? ⟨w.heap.size + 1, 3, none⟩ = some (.int .u64 (uv scl))) 5 l ⟨#[.agg #[.int .u64 (uv hh), .int .u64 (uv hl)], .agg #[.int .u64 (uv svh), .int .u64 (uv svl), .int .u64 (uv sch), .int .u64 (uv scl)], .pointer (some ⟨w.heap.size, 0, none⟩), .pointer (some ⟨w.heap.size + 1, 0, none⟩), .pointer (some ⟨w.heap.size + 1 + 1, 0, none⟩), .pointer (some ⟨b8, 0, none⟩), undef, .pointer (some ⟨b10, 0, none⟩), undef, .agg #[.int .u64 (uv hh), .int .u64 (uv hl)], .agg (bl (hbit hh hl)).toArray, .pointer (some ⟨w.heap.size + 1, 0, none⟩), .agg #[.int .u64 (uv svh), .int .u64 (uv svl)], .agg (bl (hbit svh svl)).toArray, .pointer (some ⟨w.heap.size + 1, 2, none⟩), .agg #[.int .u64 (uv sch), .int .u64 (uv scl)], undef, undef, undef, undef, undef, undef, undef, undef, undef, undef, undef, undef, undef, undef, undef], []⟩ u := by
  subst hlst
  have hz := zero25
  refine wpAnyH_ready (rs := [7, 9]) (by kernel_rfl) (by simp) ?_
  refine AllReadyH.cons (o := ⟨some 16, _, _, _, _, _⟩) rfl (fun K hK => ?_) ?_
  · go_simp
    (with_reducible refine (bits_c _ _ _).mono ?_)
    rintro e u1 ⟨rfl, hb⟩
    (try dsimp only)
    refine hK.out _ _ (hold6 hb hHeld) (fun hNext => ?_)
    exact set3_02 hh hl svh svl sch scl w Q hfin b8 b10 u1 hNext (Zero2.on hb Z) (t8.on hb) (t10.on hb) n8_10 _ (by kernel_rfl)
  refine AllReadyH.cons (o := ⟨some 6, _, _, _, _, _⟩) rfl (fun K hK => ?_) AllReadyH.nil
  go_simp
  have hb := below1 u (.cells (bl (fun _ => false)).toArray 92)
  refine hK.out _ _ (hold6 hb hHeld) (fun hNext => ?_)
  exact set2_012 hh hl svh svl sch scl w Q hfin b8 u.heap.size b10 _ hNext (Zero2.on hb Z) (t8.on hb) (Th.top u _ rfl (World.block_lt_of_cell? u ⟨w.heap.size + 1 + 1, 0, none⟩ (Z 0 (by omega)).1)) (t10.on hb) t8.ne n8_10 t10.ne.symm _ (by kernel_rfl)

set_option maxRecDepth 100000 in
set_option maxHeartbeats 2000000 in
theorem set2_12 (hh hl svh svl sch scl : BitVec 64) (w : World) (Q : Exit → Act → World → Prop)
    (hfin : ∀ (b8 b9 b10 : Nat) (u : World), Below w.heap.size w u → Zero2 u (w.heap.size + 1 + 1) → Row u b8 (hbit hh hl) → Row u b9 (hbit svh svl) → Row u b10 (hbit sch scl) → w.heap.size + 1 + 1 + 1 ≤ b8 → b8 ≠ b9 → b8 ≠ b10 → b9 ≠ b10 → Q .normal ⟨#[.agg #[.int .u64 (uv hh), .int .u64 (uv hl)], .agg #[.int .u64 (uv svh), .int .u64 (uv svl), .int .u64 (uv sch), .int .u64 (uv scl)], .pointer (some ⟨w.heap.size, 0, none⟩), .pointer (some ⟨w.heap.size + 1, 0, none⟩), .pointer (some ⟨w.heap.size + 1 + 1, 0, none⟩), .pointer (some ⟨b8, 0, none⟩), .pointer (some ⟨b9, 0, none⟩), .pointer (some ⟨b10, 0, none⟩), undef, .agg #[.int .u64 (uv hh), .int .u64 (uv hl)], .agg (bl (hbit hh hl)).toArray, .pointer (some ⟨w.heap.size + 1, 0, none⟩), .agg #[.int .u64 (uv svh), .int .u64 (uv svl)], .agg (bl (hbit svh svl)).toArray, .pointer (some ⟨w.heap.size + 1, 2, none⟩), .agg #[.int .u64 (uv sch), .int .u64 (uv scl)], .agg (bl (hbit sch scl)).toArray, undef, undef, undef, undef, undef, undef, undef, undef, undef, undef, undef, undef, undef, undef], []⟩ u)
    (b9 : Nat) (b10 : Nat) (u : World) (hHeld : Below w.heap.size w u ∧ u.cell? ⟨w.heap.size, 0, none⟩ = some (.int .u64 (uv hh)) ∧ u.cell? ⟨w.heap.size, 1, none⟩ = some (.int .u64 (uv hl)) ∧ u.cell? ⟨w.heap.size + 1, 0, none⟩ = some (.int .u64 (uv svh)) ∧ u.cell? ⟨w.heap.size + 1, 1, none⟩ = some (.int .u64 (uv svl)) ∧ u.cell? ⟨w.heap.size + 1, 2, none⟩ = some (.int .u64 (uv sch)) ∧ u.cell? ⟨w.heap.size + 1, 3, none⟩ = some (.int .u64 (uv scl))) (Z : Zero2 u (w.heap.size + 1 + 1)) (t9 : Th (w.heap.size + 1 + 1 + 1) u b9) (t10 : Th (w.heap.size + 1 + 1 + 1) u b10) (n9_10 : b9 ≠ b10) (l : Array Bool) (hlst : l = #[true, true, true, true, true, true, true, false, false, true, true, false, false, false]) :
    wpAnyH Try.prog .any setOps Q (fun w' => Below w.heap.size w w' ∧ w'.cell? ⟨w.heap.size, 0, none⟩ = some (.int .u64 (uv hh)) ∧ w'.cell? ⟨w.heap.size, 1, none⟩ = some (.int .u64 (uv hl)) ∧ w'.cell? ⟨w.heap.size + 1, 0, none⟩ = some (.int .u64 (uv svh)) ∧ w'.cell? ⟨w.heap.size + 1, 1, none⟩ = some (.int .u64 (uv svl)) ∧ w'.cell? ⟨w.heap.size + 1, 2, none⟩ = some (.int .u64 (uv sch)) ∧ w'.cell? ⟨w.heap.size + 1, 3, none⟩ = some (.int .u64 (uv scl))) 5 l ⟨#[.agg #[.int .u64 (uv hh), .int .u64 (uv hl)], .agg #[.int .u64 (uv svh), .int .u64 (uv svl), .int .u64 (uv sch), .int .u64 (uv scl)], .pointer (some ⟨w.heap.size, 0, none⟩), .pointer (some ⟨w.heap.size + 1, 0, none⟩), .pointer (some ⟨w.heap.size + 1 + 1, 0, none⟩), undef, .pointer (some ⟨b9, 0, none⟩), .pointer (some ⟨b10, 0, none⟩), undef, .agg #[.int .u64 (uv hh), .int .u64 (uv hl)], .agg (bl (hbit hh hl)).toArray, .pointer (some ⟨w.heap.size + 1, 0, none⟩), .agg #[.int .u64 (uv svh), .int .u64 (uv svl)], .agg (bl (hbit svh svl)).toArray, .pointer (some ⟨w.heap.size + 1, 2, none⟩), .agg #[.int .u64 (uv sch), .int .u64 (uv scl)], undef, undef, undef, undef, undef, undef, undef, undef, undef, undef, undef, undef, undef, undef, undef], []⟩ u := by
  subst hlst
  have hz := zero25
  refine wpAnyH_ready (rs := [7, 8]) (by kernel_rfl) (by simp) ?_
  refine AllReadyH.cons (o := ⟨some 16, _, _, _, _, _⟩) rfl (fun K hK => ?_) ?_
  · go_simp
    (with_reducible refine (bits_c _ _ _).mono ?_)
    rintro e u1 ⟨rfl, hb⟩
    (try dsimp only)
    refine hK.out _ _ (hold6 hb hHeld) (fun hNext => ?_)
    exact set3_12 hh hl svh svl sch scl w Q hfin b9 b10 u1 hNext (Zero2.on hb Z) (t9.on hb) (t10.on hb) n9_10 _ (by kernel_rfl)
  refine AllReadyH.cons (o := ⟨some 5, _, _, _, _, _⟩) rfl (fun K hK => ?_) AllReadyH.nil
  go_simp
  have hb := below1 u (.cells (bl (fun _ => false)).toArray 92)
  refine hK.out _ _ (hold6 hb hHeld) (fun hNext => ?_)
  exact set2_012 hh hl svh svl sch scl w Q hfin u.heap.size b9 b10 _ hNext (Zero2.on hb Z) (Th.top u _ rfl (World.block_lt_of_cell? u ⟨w.heap.size + 1 + 1, 0, none⟩ (Z 0 (by omega)).1)) (t9.on hb) (t10.on hb) t9.ne.symm t10.ne.symm n9_10 _ (by kernel_rfl)

set_option maxRecDepth 100000 in
set_option maxHeartbeats 2000000 in
theorem set2_0 (hh hl svh svl sch scl : BitVec 64) (w : World) (Q : Exit → Act → World → Prop)
    (hfin : ∀ (b8 b9 b10 : Nat) (u : World), Below w.heap.size w u → Zero2 u (w.heap.size + 1 + 1) → Row u b8 (hbit hh hl) → Row u b9 (hbit svh svl) → Row u b10 (hbit sch scl) → w.heap.size + 1 + 1 + 1 ≤ b8 → b8 ≠ b9 → b8 ≠ b10 → b9 ≠ b10 → Q .normal ⟨#[.agg #[.int .u64 (uv hh), .int .u64 (uv hl)], .agg #[.int .u64 (uv svh), .int .u64 (uv svl), .int .u64 (uv sch), .int .u64 (uv scl)], .pointer (some ⟨w.heap.size, 0, none⟩), .pointer (some ⟨w.heap.size + 1, 0, none⟩), .pointer (some ⟨w.heap.size + 1 + 1, 0, none⟩), .pointer (some ⟨b8, 0, none⟩), .pointer (some ⟨b9, 0, none⟩), .pointer (some ⟨b10, 0, none⟩), undef, .agg #[.int .u64 (uv hh), .int .u64 (uv hl)], .agg (bl (hbit hh hl)).toArray, .pointer (some ⟨w.heap.size + 1, 0, none⟩), .agg #[.int .u64 (uv svh), .int .u64 (uv svl)], .agg (bl (hbit svh svl)).toArray, .pointer (some ⟨w.heap.size + 1, 2, none⟩), .agg #[.int .u64 (uv sch), .int .u64 (uv scl)], .agg (bl (hbit sch scl)).toArray, undef, undef, undef, undef, undef, undef, undef, undef, undef, undef, undef, undef, undef, undef], []⟩ u)
    (b8 : Nat) (u : World) (hHeld : Below w.heap.size w u ∧ u.cell? ⟨w.heap.size, 0, none⟩ = some (.int .u64 (uv hh)) ∧ u.cell? ⟨w.heap.size, 1, none⟩ = some (.int .u64 (uv hl)) ∧ u.cell? ⟨w.heap.size + 1, 0, none⟩ = some (.int .u64 (uv svh)) ∧ u.cell? ⟨w.heap.size + 1, 1, none⟩ = some (.int .u64 (uv svl)) ∧ u.cell? ⟨w.heap.size + 1, 2, none⟩ = some (.int .u64 (uv sch)) ∧ u.cell? ⟨w.heap.size + 1, 3, none⟩ = some (.int .u64 (uv scl))) (Z : Zero2 u (w.heap.size + 1 + 1)) (t8 : Th (w.heap.size + 1 + 1 + 1) u b8) (l : Array Bool) (hlst : l = #[true, true, true, true, true, true, true, false, true, false, false, false, false, false]) :
    wpAnyH Try.prog .any setOps Q (fun w' => Below w.heap.size w w' ∧ w'.cell? ⟨w.heap.size, 0, none⟩ = some (.int .u64 (uv hh)) ∧ w'.cell? ⟨w.heap.size, 1, none⟩ = some (.int .u64 (uv hl)) ∧ w'.cell? ⟨w.heap.size + 1, 0, none⟩ = some (.int .u64 (uv svh)) ∧ w'.cell? ⟨w.heap.size + 1, 1, none⟩ = some (.int .u64 (uv svl)) ∧ w'.cell? ⟨w.heap.size + 1, 2, none⟩ = some (.int .u64 (uv sch)) ∧ w'.cell? ⟨w.heap.size + 1, 3, none⟩ = some (.int .u64 (uv scl))) 6 l ⟨#[.agg #[.int .u64 (uv hh), .int .u64 (uv hl)], .agg #[.int .u64 (uv svh), .int .u64 (uv svl), .int .u64 (uv sch), .int .u64 (uv scl)], .pointer (some ⟨w.heap.size, 0, none⟩), .pointer (some ⟨w.heap.size + 1, 0, none⟩), .pointer (some ⟨w.heap.size + 1 + 1, 0, none⟩), .pointer (some ⟨b8, 0, none⟩), undef, undef, undef, .agg #[.int .u64 (uv hh), .int .u64 (uv hl)], .agg (bl (hbit hh hl)).toArray, .pointer (some ⟨w.heap.size + 1, 0, none⟩), .agg #[.int .u64 (uv svh), .int .u64 (uv svl)], .agg (bl (hbit svh svl)).toArray, .pointer (some ⟨w.heap.size + 1, 2, none⟩), .agg #[.int .u64 (uv sch), .int .u64 (uv scl)], undef, undef, undef, undef, undef, undef, undef, undef, undef, undef, undef, undef, undef, undef, undef], []⟩ u := by
  subst hlst
  have hz := zero25
  refine wpAnyH_ready (rs := [7, 9, 10]) (by kernel_rfl) (by simp) ?_
  refine AllReadyH.cons (o := ⟨some 16, _, _, _, _, _⟩) rfl (fun K hK => ?_) ?_
  · go_simp
    (with_reducible refine (bits_c _ _ _).mono ?_)
    rintro e u1 ⟨rfl, hb⟩
    (try dsimp only)
    refine hK.out _ _ (hold6 hb hHeld) (fun hNext => ?_)
    exact set3_0 hh hl svh svl sch scl w Q hfin b8 u1 hNext (Zero2.on hb Z) (t8.on hb)  _ (by kernel_rfl)
  refine AllReadyH.cons (o := ⟨some 6, _, _, _, _, _⟩) rfl (fun K hK => ?_) ?_
  · go_simp
    have hb := below1 u (.cells (bl (fun _ => false)).toArray 92)
    refine hK.out _ _ (hold6 hb hHeld) (fun hNext => ?_)
    exact set2_01 hh hl svh svl sch scl w Q hfin b8 u.heap.size _ hNext (Zero2.on hb Z) (t8.on hb) (Th.top u _ rfl (World.block_lt_of_cell? u ⟨w.heap.size + 1 + 1, 0, none⟩ (Z 0 (by omega)).1)) t8.ne _ (by kernel_rfl)
  refine AllReadyH.cons (o := ⟨some 7, _, _, _, _, _⟩) rfl (fun K hK => ?_) AllReadyH.nil
  go_simp
  have hb := below1 u (.cells (bl (fun _ => false)).toArray 92)
  refine hK.out _ _ (hold6 hb hHeld) (fun hNext => ?_)
  exact set2_02 hh hl svh svl sch scl w Q hfin b8 u.heap.size _ hNext (Zero2.on hb Z) (t8.on hb) (Th.top u _ rfl (World.block_lt_of_cell? u ⟨w.heap.size + 1 + 1, 0, none⟩ (Z 0 (by omega)).1)) t8.ne _ (by kernel_rfl)

set_option maxRecDepth 100000 in
set_option maxHeartbeats 2000000 in
theorem set2_1 (hh hl svh svl sch scl : BitVec 64) (w : World) (Q : Exit → Act → World → Prop)
    (hfin : ∀ (b8 b9 b10 : Nat) (u : World), Below w.heap.size w u → Zero2 u (w.heap.size + 1 + 1) → Row u b8 (hbit hh hl) → Row u b9 (hbit svh svl) → Row u b10 (hbit sch scl) → w.heap.size + 1 + 1 + 1 ≤ b8 → b8 ≠ b9 → b8 ≠ b10 → b9 ≠ b10 → Q .normal ⟨#[.agg #[.int .u64 (uv hh), .int .u64 (uv hl)], .agg #[.int .u64 (uv svh), .int .u64 (uv svl), .int .u64 (uv sch), .int .u64 (uv scl)], .pointer (some ⟨w.heap.size, 0, none⟩), .pointer (some ⟨w.heap.size + 1, 0, none⟩), .pointer (some ⟨w.heap.size + 1 + 1, 0, none⟩), .pointer (some ⟨b8, 0, none⟩), .pointer (some ⟨b9, 0, none⟩), .pointer (some ⟨b10, 0, none⟩), undef, .agg #[.int .u64 (uv hh), .int .u64 (uv hl)], .agg (bl (hbit hh hl)).toArray, .pointer (some ⟨w.heap.size + 1, 0, none⟩), .agg #[.int .u64 (uv svh), .int .u64 (uv svl)], .agg (bl (hbit svh svl)).toArray, .pointer (some ⟨w.heap.size + 1, 2, none⟩), .agg #[.int .u64 (uv sch), .int .u64 (uv scl)], .agg (bl (hbit sch scl)).toArray, undef, undef, undef, undef, undef, undef, undef, undef, undef, undef, undef, undef, undef, undef], []⟩ u)
    (b9 : Nat) (u : World) (hHeld : Below w.heap.size w u ∧ u.cell? ⟨w.heap.size, 0, none⟩ = some (.int .u64 (uv hh)) ∧ u.cell? ⟨w.heap.size, 1, none⟩ = some (.int .u64 (uv hl)) ∧ u.cell? ⟨w.heap.size + 1, 0, none⟩ = some (.int .u64 (uv svh)) ∧ u.cell? ⟨w.heap.size + 1, 1, none⟩ = some (.int .u64 (uv svl)) ∧ u.cell? ⟨w.heap.size + 1, 2, none⟩ = some (.int .u64 (uv sch)) ∧ u.cell? ⟨w.heap.size + 1, 3, none⟩ = some (.int .u64 (uv scl))) (Z : Zero2 u (w.heap.size + 1 + 1)) (t9 : Th (w.heap.size + 1 + 1 + 1) u b9) (l : Array Bool) (hlst : l = #[true, true, true, true, true, true, true, false, false, true, false, false, false, false]) :
    wpAnyH Try.prog .any setOps Q (fun w' => Below w.heap.size w w' ∧ w'.cell? ⟨w.heap.size, 0, none⟩ = some (.int .u64 (uv hh)) ∧ w'.cell? ⟨w.heap.size, 1, none⟩ = some (.int .u64 (uv hl)) ∧ w'.cell? ⟨w.heap.size + 1, 0, none⟩ = some (.int .u64 (uv svh)) ∧ w'.cell? ⟨w.heap.size + 1, 1, none⟩ = some (.int .u64 (uv svl)) ∧ w'.cell? ⟨w.heap.size + 1, 2, none⟩ = some (.int .u64 (uv sch)) ∧ w'.cell? ⟨w.heap.size + 1, 3, none⟩ = some (.int .u64 (uv scl))) 6 l ⟨#[.agg #[.int .u64 (uv hh), .int .u64 (uv hl)], .agg #[.int .u64 (uv svh), .int .u64 (uv svl), .int .u64 (uv sch), .int .u64 (uv scl)], .pointer (some ⟨w.heap.size, 0, none⟩), .pointer (some ⟨w.heap.size + 1, 0, none⟩), .pointer (some ⟨w.heap.size + 1 + 1, 0, none⟩), undef, .pointer (some ⟨b9, 0, none⟩), undef, undef, .agg #[.int .u64 (uv hh), .int .u64 (uv hl)], .agg (bl (hbit hh hl)).toArray, .pointer (some ⟨w.heap.size + 1, 0, none⟩), .agg #[.int .u64 (uv svh), .int .u64 (uv svl)], .agg (bl (hbit svh svl)).toArray, .pointer (some ⟨w.heap.size + 1, 2, none⟩), .agg #[.int .u64 (uv sch), .int .u64 (uv scl)], undef, undef, undef, undef, undef, undef, undef, undef, undef, undef, undef, undef, undef, undef, undef], []⟩ u := by
  subst hlst
  have hz := zero25
  refine wpAnyH_ready (rs := [7, 8, 10]) (by kernel_rfl) (by simp) ?_
  refine AllReadyH.cons (o := ⟨some 16, _, _, _, _, _⟩) rfl (fun K hK => ?_) ?_
  · go_simp
    (with_reducible refine (bits_c _ _ _).mono ?_)
    rintro e u1 ⟨rfl, hb⟩
    (try dsimp only)
    refine hK.out _ _ (hold6 hb hHeld) (fun hNext => ?_)
    exact set3_1 hh hl svh svl sch scl w Q hfin b9 u1 hNext (Zero2.on hb Z) (t9.on hb)  _ (by kernel_rfl)
  refine AllReadyH.cons (o := ⟨some 5, _, _, _, _, _⟩) rfl (fun K hK => ?_) ?_
  · go_simp
    have hb := below1 u (.cells (bl (fun _ => false)).toArray 92)
    refine hK.out _ _ (hold6 hb hHeld) (fun hNext => ?_)
    exact set2_01 hh hl svh svl sch scl w Q hfin u.heap.size b9 _ hNext (Zero2.on hb Z) (Th.top u _ rfl (World.block_lt_of_cell? u ⟨w.heap.size + 1 + 1, 0, none⟩ (Z 0 (by omega)).1)) (t9.on hb) t9.ne.symm _ (by kernel_rfl)
  refine AllReadyH.cons (o := ⟨some 7, _, _, _, _, _⟩) rfl (fun K hK => ?_) AllReadyH.nil
  go_simp
  have hb := below1 u (.cells (bl (fun _ => false)).toArray 92)
  refine hK.out _ _ (hold6 hb hHeld) (fun hNext => ?_)
  exact set2_12 hh hl svh svl sch scl w Q hfin b9 u.heap.size _ hNext (Zero2.on hb Z) (t9.on hb) (Th.top u _ rfl (World.block_lt_of_cell? u ⟨w.heap.size + 1 + 1, 0, none⟩ (Z 0 (by omega)).1)) t9.ne _ (by kernel_rfl)

set_option maxRecDepth 100000 in
set_option maxHeartbeats 2000000 in
theorem set2_2 (hh hl svh svl sch scl : BitVec 64) (w : World) (Q : Exit → Act → World → Prop)
    (hfin : ∀ (b8 b9 b10 : Nat) (u : World), Below w.heap.size w u → Zero2 u (w.heap.size + 1 + 1) → Row u b8 (hbit hh hl) → Row u b9 (hbit svh svl) → Row u b10 (hbit sch scl) → w.heap.size + 1 + 1 + 1 ≤ b8 → b8 ≠ b9 → b8 ≠ b10 → b9 ≠ b10 → Q .normal ⟨#[.agg #[.int .u64 (uv hh), .int .u64 (uv hl)], .agg #[.int .u64 (uv svh), .int .u64 (uv svl), .int .u64 (uv sch), .int .u64 (uv scl)], .pointer (some ⟨w.heap.size, 0, none⟩), .pointer (some ⟨w.heap.size + 1, 0, none⟩), .pointer (some ⟨w.heap.size + 1 + 1, 0, none⟩), .pointer (some ⟨b8, 0, none⟩), .pointer (some ⟨b9, 0, none⟩), .pointer (some ⟨b10, 0, none⟩), undef, .agg #[.int .u64 (uv hh), .int .u64 (uv hl)], .agg (bl (hbit hh hl)).toArray, .pointer (some ⟨w.heap.size + 1, 0, none⟩), .agg #[.int .u64 (uv svh), .int .u64 (uv svl)], .agg (bl (hbit svh svl)).toArray, .pointer (some ⟨w.heap.size + 1, 2, none⟩), .agg #[.int .u64 (uv sch), .int .u64 (uv scl)], .agg (bl (hbit sch scl)).toArray, undef, undef, undef, undef, undef, undef, undef, undef, undef, undef, undef, undef, undef, undef], []⟩ u)
    (b10 : Nat) (u : World) (hHeld : Below w.heap.size w u ∧ u.cell? ⟨w.heap.size, 0, none⟩ = some (.int .u64 (uv hh)) ∧ u.cell? ⟨w.heap.size, 1, none⟩ = some (.int .u64 (uv hl)) ∧ u.cell? ⟨w.heap.size + 1, 0, none⟩ = some (.int .u64 (uv svh)) ∧ u.cell? ⟨w.heap.size + 1, 1, none⟩ = some (.int .u64 (uv svl)) ∧ u.cell? ⟨w.heap.size + 1, 2, none⟩ = some (.int .u64 (uv sch)) ∧ u.cell? ⟨w.heap.size + 1, 3, none⟩ = some (.int .u64 (uv scl))) (Z : Zero2 u (w.heap.size + 1 + 1)) (t10 : Th (w.heap.size + 1 + 1 + 1) u b10) (l : Array Bool) (hlst : l = #[true, true, true, true, true, true, true, false, false, false, true, false, false, false]) :
    wpAnyH Try.prog .any setOps Q (fun w' => Below w.heap.size w w' ∧ w'.cell? ⟨w.heap.size, 0, none⟩ = some (.int .u64 (uv hh)) ∧ w'.cell? ⟨w.heap.size, 1, none⟩ = some (.int .u64 (uv hl)) ∧ w'.cell? ⟨w.heap.size + 1, 0, none⟩ = some (.int .u64 (uv svh)) ∧ w'.cell? ⟨w.heap.size + 1, 1, none⟩ = some (.int .u64 (uv svl)) ∧ w'.cell? ⟨w.heap.size + 1, 2, none⟩ = some (.int .u64 (uv sch)) ∧ w'.cell? ⟨w.heap.size + 1, 3, none⟩ = some (.int .u64 (uv scl))) 6 l ⟨#[.agg #[.int .u64 (uv hh), .int .u64 (uv hl)], .agg #[.int .u64 (uv svh), .int .u64 (uv svl), .int .u64 (uv sch), .int .u64 (uv scl)], .pointer (some ⟨w.heap.size, 0, none⟩), .pointer (some ⟨w.heap.size + 1, 0, none⟩), .pointer (some ⟨w.heap.size + 1 + 1, 0, none⟩), undef, undef, .pointer (some ⟨b10, 0, none⟩), undef, .agg #[.int .u64 (uv hh), .int .u64 (uv hl)], .agg (bl (hbit hh hl)).toArray, .pointer (some ⟨w.heap.size + 1, 0, none⟩), .agg #[.int .u64 (uv svh), .int .u64 (uv svl)], .agg (bl (hbit svh svl)).toArray, .pointer (some ⟨w.heap.size + 1, 2, none⟩), .agg #[.int .u64 (uv sch), .int .u64 (uv scl)], undef, undef, undef, undef, undef, undef, undef, undef, undef, undef, undef, undef, undef, undef, undef], []⟩ u := by
  subst hlst
  have hz := zero25
  refine wpAnyH_ready (rs := [7, 8, 9]) (by kernel_rfl) (by simp) ?_
  refine AllReadyH.cons (o := ⟨some 16, _, _, _, _, _⟩) rfl (fun K hK => ?_) ?_
  · go_simp
    (with_reducible refine (bits_c _ _ _).mono ?_)
    rintro e u1 ⟨rfl, hb⟩
    (try dsimp only)
    refine hK.out _ _ (hold6 hb hHeld) (fun hNext => ?_)
    exact set3_2 hh hl svh svl sch scl w Q hfin b10 u1 hNext (Zero2.on hb Z) (t10.on hb)  _ (by kernel_rfl)
  refine AllReadyH.cons (o := ⟨some 5, _, _, _, _, _⟩) rfl (fun K hK => ?_) ?_
  · go_simp
    have hb := below1 u (.cells (bl (fun _ => false)).toArray 92)
    refine hK.out _ _ (hold6 hb hHeld) (fun hNext => ?_)
    exact set2_02 hh hl svh svl sch scl w Q hfin u.heap.size b10 _ hNext (Zero2.on hb Z) (Th.top u _ rfl (World.block_lt_of_cell? u ⟨w.heap.size + 1 + 1, 0, none⟩ (Z 0 (by omega)).1)) (t10.on hb) t10.ne.symm _ (by kernel_rfl)
  refine AllReadyH.cons (o := ⟨some 6, _, _, _, _, _⟩) rfl (fun K hK => ?_) AllReadyH.nil
  go_simp
  have hb := below1 u (.cells (bl (fun _ => false)).toArray 92)
  refine hK.out _ _ (hold6 hb hHeld) (fun hNext => ?_)
  exact set2_12 hh hl svh svl sch scl w Q hfin u.heap.size b10 _ hNext (Zero2.on hb Z) (Th.top u _ rfl (World.block_lt_of_cell? u ⟨w.heap.size + 1 + 1, 0, none⟩ (Z 0 (by omega)).1)) (t10.on hb) t10.ne.symm _ (by kernel_rfl)

set_option maxRecDepth 100000 in
set_option maxHeartbeats 2000000 in
theorem set2_ (hh hl svh svl sch scl : BitVec 64) (w : World) (Q : Exit → Act → World → Prop)
    (hfin : ∀ (b8 b9 b10 : Nat) (u : World), Below w.heap.size w u → Zero2 u (w.heap.size + 1 + 1) → Row u b8 (hbit hh hl) → Row u b9 (hbit svh svl) → Row u b10 (hbit sch scl) → w.heap.size + 1 + 1 + 1 ≤ b8 → b8 ≠ b9 → b8 ≠ b10 → b9 ≠ b10 → Q .normal ⟨#[.agg #[.int .u64 (uv hh), .int .u64 (uv hl)], .agg #[.int .u64 (uv svh), .int .u64 (uv svl), .int .u64 (uv sch), .int .u64 (uv scl)], .pointer (some ⟨w.heap.size, 0, none⟩), .pointer (some ⟨w.heap.size + 1, 0, none⟩), .pointer (some ⟨w.heap.size + 1 + 1, 0, none⟩), .pointer (some ⟨b8, 0, none⟩), .pointer (some ⟨b9, 0, none⟩), .pointer (some ⟨b10, 0, none⟩), undef, .agg #[.int .u64 (uv hh), .int .u64 (uv hl)], .agg (bl (hbit hh hl)).toArray, .pointer (some ⟨w.heap.size + 1, 0, none⟩), .agg #[.int .u64 (uv svh), .int .u64 (uv svl)], .agg (bl (hbit svh svl)).toArray, .pointer (some ⟨w.heap.size + 1, 2, none⟩), .agg #[.int .u64 (uv sch), .int .u64 (uv scl)], .agg (bl (hbit sch scl)).toArray, undef, undef, undef, undef, undef, undef, undef, undef, undef, undef, undef, undef, undef, undef], []⟩ u)
    (u : World) (hHeld : Below w.heap.size w u ∧ u.cell? ⟨w.heap.size, 0, none⟩ = some (.int .u64 (uv hh)) ∧ u.cell? ⟨w.heap.size, 1, none⟩ = some (.int .u64 (uv hl)) ∧ u.cell? ⟨w.heap.size + 1, 0, none⟩ = some (.int .u64 (uv svh)) ∧ u.cell? ⟨w.heap.size + 1, 1, none⟩ = some (.int .u64 (uv svl)) ∧ u.cell? ⟨w.heap.size + 1, 2, none⟩ = some (.int .u64 (uv sch)) ∧ u.cell? ⟨w.heap.size + 1, 3, none⟩ = some (.int .u64 (uv scl))) (Z : Zero2 u (w.heap.size + 1 + 1)) (l : Array Bool) (hlst : l = #[true, true, true, true, true, true, true, false, false, false, false, false, false, false]) :
    wpAnyH Try.prog .any setOps Q (fun w' => Below w.heap.size w w' ∧ w'.cell? ⟨w.heap.size, 0, none⟩ = some (.int .u64 (uv hh)) ∧ w'.cell? ⟨w.heap.size, 1, none⟩ = some (.int .u64 (uv hl)) ∧ w'.cell? ⟨w.heap.size + 1, 0, none⟩ = some (.int .u64 (uv svh)) ∧ w'.cell? ⟨w.heap.size + 1, 1, none⟩ = some (.int .u64 (uv svl)) ∧ w'.cell? ⟨w.heap.size + 1, 2, none⟩ = some (.int .u64 (uv sch)) ∧ w'.cell? ⟨w.heap.size + 1, 3, none⟩ = some (.int .u64 (uv scl))) 7 l ⟨#[.agg #[.int .u64 (uv hh), .int .u64 (uv hl)], .agg #[.int .u64 (uv svh), .int .u64 (uv svl), .int .u64 (uv sch), .int .u64 (uv scl)], .pointer (some ⟨w.heap.size, 0, none⟩), .pointer (some ⟨w.heap.size + 1, 0, none⟩), .pointer (some ⟨w.heap.size + 1 + 1, 0, none⟩), undef, undef, undef, undef, .agg #[.int .u64 (uv hh), .int .u64 (uv hl)], .agg (bl (hbit hh hl)).toArray, .pointer (some ⟨w.heap.size + 1, 0, none⟩), .agg #[.int .u64 (uv svh), .int .u64 (uv svl)], .agg (bl (hbit svh svl)).toArray, .pointer (some ⟨w.heap.size + 1, 2, none⟩), .agg #[.int .u64 (uv sch), .int .u64 (uv scl)], undef, undef, undef, undef, undef, undef, undef, undef, undef, undef, undef, undef, undef, undef, undef], []⟩ u := by
  subst hlst
  have hz := zero25
  refine wpAnyH_ready (rs := [7, 8, 9, 10]) (by kernel_rfl) (by simp) ?_
  refine AllReadyH.cons (o := ⟨some 16, _, _, _, _, _⟩) rfl (fun K hK => ?_) ?_
  · go_simp
    (with_reducible refine (bits_c _ _ _).mono ?_)
    rintro e u1 ⟨rfl, hb⟩
    (try dsimp only)
    refine hK.out _ _ (hold6 hb hHeld) (fun hNext => ?_)
    exact set3_ hh hl svh svl sch scl w Q hfin u1 hNext (Zero2.on hb Z)  _ (by kernel_rfl)
  refine AllReadyH.cons (o := ⟨some 5, _, _, _, _, _⟩) rfl (fun K hK => ?_) ?_
  · go_simp
    have hb := below1 u (.cells (bl (fun _ => false)).toArray 92)
    refine hK.out _ _ (hold6 hb hHeld) (fun hNext => ?_)
    exact set2_0 hh hl svh svl sch scl w Q hfin u.heap.size _ hNext (Zero2.on hb Z) (Th.top u _ rfl (World.block_lt_of_cell? u ⟨w.heap.size + 1 + 1, 0, none⟩ (Z 0 (by omega)).1))  _ (by kernel_rfl)
  refine AllReadyH.cons (o := ⟨some 6, _, _, _, _, _⟩) rfl (fun K hK => ?_) ?_
  · go_simp
    have hb := below1 u (.cells (bl (fun _ => false)).toArray 92)
    refine hK.out _ _ (hold6 hb hHeld) (fun hNext => ?_)
    exact set2_1 hh hl svh svl sch scl w Q hfin u.heap.size _ hNext (Zero2.on hb Z) (Th.top u _ rfl (World.block_lt_of_cell? u ⟨w.heap.size + 1 + 1, 0, none⟩ (Z 0 (by omega)).1))  _ (by kernel_rfl)
  refine AllReadyH.cons (o := ⟨some 7, _, _, _, _, _⟩) rfl (fun K hK => ?_) AllReadyH.nil
  go_simp
  have hb := below1 u (.cells (bl (fun _ => false)).toArray 92)
  refine hK.out _ _ (hold6 hb hHeld) (fun hNext => ?_)
  exact set2_2 hh hl svh svl sch scl w Q hfin u.heap.size _ hNext (Zero2.on hb Z) (Th.top u _ rfl (World.block_lt_of_cell? u ⟨w.heap.size + 1 + 1, 0, none⟩ (Z 0 (by omega)).1))  _ (by kernel_rfl)

set_option maxRecDepth 100000 in
set_option maxHeartbeats 2000000 in
theorem set1_012 (hh hl svh svl sch scl : BitVec 64) (w : World) (Q : Exit → Act → World → Prop)
    (hfin : ∀ (b8 b9 b10 : Nat) (u : World), Below w.heap.size w u → Zero2 u (w.heap.size + 1 + 1) → Row u b8 (hbit hh hl) → Row u b9 (hbit svh svl) → Row u b10 (hbit sch scl) → w.heap.size + 1 + 1 + 1 ≤ b8 → b8 ≠ b9 → b8 ≠ b10 → b9 ≠ b10 → Q .normal ⟨#[.agg #[.int .u64 (uv hh), .int .u64 (uv hl)], .agg #[.int .u64 (uv svh), .int .u64 (uv svl), .int .u64 (uv sch), .int .u64 (uv scl)], .pointer (some ⟨w.heap.size, 0, none⟩), .pointer (some ⟨w.heap.size + 1, 0, none⟩), .pointer (some ⟨w.heap.size + 1 + 1, 0, none⟩), .pointer (some ⟨b8, 0, none⟩), .pointer (some ⟨b9, 0, none⟩), .pointer (some ⟨b10, 0, none⟩), undef, .agg #[.int .u64 (uv hh), .int .u64 (uv hl)], .agg (bl (hbit hh hl)).toArray, .pointer (some ⟨w.heap.size + 1, 0, none⟩), .agg #[.int .u64 (uv svh), .int .u64 (uv svl)], .agg (bl (hbit svh svl)).toArray, .pointer (some ⟨w.heap.size + 1, 2, none⟩), .agg #[.int .u64 (uv sch), .int .u64 (uv scl)], .agg (bl (hbit sch scl)).toArray, undef, undef, undef, undef, undef, undef, undef, undef, undef, undef, undef, undef, undef, undef], []⟩ u)
    (b8 : Nat) (b9 : Nat) (b10 : Nat) (u : World) (hHeld : Below w.heap.size w u ∧ u.cell? ⟨w.heap.size, 0, none⟩ = some (.int .u64 (uv hh)) ∧ u.cell? ⟨w.heap.size, 1, none⟩ = some (.int .u64 (uv hl)) ∧ u.cell? ⟨w.heap.size + 1, 0, none⟩ = some (.int .u64 (uv svh)) ∧ u.cell? ⟨w.heap.size + 1, 1, none⟩ = some (.int .u64 (uv svl)) ∧ u.cell? ⟨w.heap.size + 1, 2, none⟩ = some (.int .u64 (uv sch)) ∧ u.cell? ⟨w.heap.size + 1, 3, none⟩ = some (.int .u64 (uv scl))) (Z : Zero2 u (w.heap.size + 1 + 1)) (t8 : Th (w.heap.size + 1 + 1 + 1) u b8) (t9 : Th (w.heap.size + 1 + 1 + 1) u b9) (t10 : Th (w.heap.size + 1 + 1 + 1) u b10) (n8_9 : b8 ≠ b9) (n8_10 : b8 ≠ b10) (n9_10 : b9 ≠ b10) (l : Array Bool) (hlst : l = #[true, true, true, true, false, true, true, false, true, true, true, false, false, false]) :
    wpAnyH Try.prog .any setOps Q (fun w' => Below w.heap.size w w' ∧ w'.cell? ⟨w.heap.size, 0, none⟩ = some (.int .u64 (uv hh)) ∧ w'.cell? ⟨w.heap.size, 1, none⟩ = some (.int .u64 (uv hl)) ∧ w'.cell? ⟨w.heap.size + 1, 0, none⟩ = some (.int .u64 (uv svh)) ∧ w'.cell? ⟨w.heap.size + 1, 1, none⟩ = some (.int .u64 (uv svl)) ∧ w'.cell? ⟨w.heap.size + 1, 2, none⟩ = some (.int .u64 (uv sch)) ∧ w'.cell? ⟨w.heap.size + 1, 3, none⟩ = some (.int .u64 (uv scl))) 5 l ⟨#[.agg #[.int .u64 (uv hh), .int .u64 (uv hl)], .agg #[.int .u64 (uv svh), .int .u64 (uv svl), .int .u64 (uv sch), .int .u64 (uv scl)], .pointer (some ⟨w.heap.size, 0, none⟩), .pointer (some ⟨w.heap.size + 1, 0, none⟩), .pointer (some ⟨w.heap.size + 1 + 1, 0, none⟩), .pointer (some ⟨b8, 0, none⟩), .pointer (some ⟨b9, 0, none⟩), .pointer (some ⟨b10, 0, none⟩), undef, .agg #[.int .u64 (uv hh), .int .u64 (uv hl)], .agg (bl (hbit hh hl)).toArray, .pointer (some ⟨w.heap.size + 1, 0, none⟩), .agg #[.int .u64 (uv svh), .int .u64 (uv svl)], undef, .pointer (some ⟨w.heap.size + 1, 2, none⟩), .agg #[.int .u64 (uv sch), .int .u64 (uv scl)], undef, undef, undef, undef, undef, undef, undef, undef, undef, undef, undef, undef, undef, undef, undef], []⟩ u := by
  subst hlst
  have hz := zero25
  refine wpAnyH_ready (rs := [4]) (by kernel_rfl) (by simp) ?_
  refine AllReadyH.cons (o := ⟨some 13, _, _, _, _, _⟩) rfl (fun K hK => ?_) AllReadyH.nil
  go_simp
  (with_reducible refine (bits_c _ _ _).mono ?_)
  rintro e u1 ⟨rfl, hb⟩
  (try dsimp only)
  refine hK.out _ _ (hold6 hb hHeld) (fun hNext => ?_)
  exact set2_012 hh hl svh svl sch scl w Q hfin b8 b9 b10 u1 hNext (Zero2.on hb Z) (t8.on hb) (t9.on hb) (t10.on hb) n8_9 n8_10 n9_10 _ (by kernel_rfl)

set_option maxRecDepth 100000 in
set_option maxHeartbeats 2000000 in
theorem set1_01 (hh hl svh svl sch scl : BitVec 64) (w : World) (Q : Exit → Act → World → Prop)
    (hfin : ∀ (b8 b9 b10 : Nat) (u : World), Below w.heap.size w u → Zero2 u (w.heap.size + 1 + 1) → Row u b8 (hbit hh hl) → Row u b9 (hbit svh svl) → Row u b10 (hbit sch scl) → w.heap.size + 1 + 1 + 1 ≤ b8 → b8 ≠ b9 → b8 ≠ b10 → b9 ≠ b10 → Q .normal ⟨#[.agg #[.int .u64 (uv hh), .int .u64 (uv hl)], .agg #[.int .u64 (uv svh), .int .u64 (uv svl), .int .u64 (uv sch), .int .u64 (uv scl)], .pointer (some ⟨w.heap.size, 0, none⟩), .pointer (some ⟨w.heap.size + 1, 0, none⟩), .pointer (some ⟨w.heap.size + 1 + 1, 0, none⟩), .pointer (some ⟨b8, 0, none⟩), .pointer (some ⟨b9, 0, none⟩), .pointer (some ⟨b10, 0, none⟩), undef, .agg #[.int .u64 (uv hh), .int .u64 (uv hl)], .agg (bl (hbit hh hl)).toArray, .pointer (some ⟨w.heap.size + 1, 0, none⟩), .agg #[.int .u64 (uv svh), .int .u64 (uv svl)], .agg (bl (hbit svh svl)).toArray, .pointer (some ⟨w.heap.size + 1, 2, none⟩), .agg #[.int .u64 (uv sch), .int .u64 (uv scl)], .agg (bl (hbit sch scl)).toArray, undef, undef, undef, undef, undef, undef, undef, undef, undef, undef, undef, undef, undef, undef], []⟩ u)
    (b8 : Nat) (b9 : Nat) (u : World) (hHeld : Below w.heap.size w u ∧ u.cell? ⟨w.heap.size, 0, none⟩ = some (.int .u64 (uv hh)) ∧ u.cell? ⟨w.heap.size, 1, none⟩ = some (.int .u64 (uv hl)) ∧ u.cell? ⟨w.heap.size + 1, 0, none⟩ = some (.int .u64 (uv svh)) ∧ u.cell? ⟨w.heap.size + 1, 1, none⟩ = some (.int .u64 (uv svl)) ∧ u.cell? ⟨w.heap.size + 1, 2, none⟩ = some (.int .u64 (uv sch)) ∧ u.cell? ⟨w.heap.size + 1, 3, none⟩ = some (.int .u64 (uv scl))) (Z : Zero2 u (w.heap.size + 1 + 1)) (t8 : Th (w.heap.size + 1 + 1 + 1) u b8) (t9 : Th (w.heap.size + 1 + 1 + 1) u b9) (n8_9 : b8 ≠ b9) (l : Array Bool) (hlst : l = #[true, true, true, true, false, true, true, false, true, true, false, false, false, false]) :
    wpAnyH Try.prog .any setOps Q (fun w' => Below w.heap.size w w' ∧ w'.cell? ⟨w.heap.size, 0, none⟩ = some (.int .u64 (uv hh)) ∧ w'.cell? ⟨w.heap.size, 1, none⟩ = some (.int .u64 (uv hl)) ∧ w'.cell? ⟨w.heap.size + 1, 0, none⟩ = some (.int .u64 (uv svh)) ∧ w'.cell? ⟨w.heap.size + 1, 1, none⟩ = some (.int .u64 (uv svl)) ∧ w'.cell? ⟨w.heap.size + 1, 2, none⟩ = some (.int .u64 (uv sch)) ∧ w'.cell? ⟨w.heap.size + 1, 3, none⟩ = some (.int .u64 (uv scl))) 6 l ⟨#[.agg #[.int .u64 (uv hh), .int .u64 (uv hl)], .agg #[.int .u64 (uv svh), .int .u64 (uv svl), .int .u64 (uv sch), .int .u64 (uv scl)], .pointer (some ⟨w.heap.size, 0, none⟩), .pointer (some ⟨w.heap.size + 1, 0, none⟩), .pointer (some ⟨w.heap.size + 1 + 1, 0, none⟩), .pointer (some ⟨b8, 0, none⟩), .pointer (some ⟨b9, 0, none⟩), undef, undef, .agg #[.int .u64 (uv hh), .int .u64 (uv hl)], .agg (bl (hbit hh hl)).toArray, .pointer (some ⟨w.heap.size + 1, 0, none⟩), .agg #[.int .u64 (uv svh), .int .u64 (uv svl)], undef, .pointer (some ⟨w.heap.size + 1, 2, none⟩), .agg #[.int .u64 (uv sch), .int .u64 (uv scl)], undef, undef, undef, undef, undef, undef, undef, undef, undef, undef, undef, undef, undef, undef, undef], []⟩ u := by
  subst hlst
  have hz := zero25
  refine wpAnyH_ready (rs := [4, 10]) (by kernel_rfl) (by simp) ?_
  refine AllReadyH.cons (o := ⟨some 13, _, _, _, _, _⟩) rfl (fun K hK => ?_) ?_
  · go_simp
    (with_reducible refine (bits_c _ _ _).mono ?_)
    rintro e u1 ⟨rfl, hb⟩
    (try dsimp only)
    refine hK.out _ _ (hold6 hb hHeld) (fun hNext => ?_)
    exact set2_01 hh hl svh svl sch scl w Q hfin b8 b9 u1 hNext (Zero2.on hb Z) (t8.on hb) (t9.on hb) n8_9 _ (by kernel_rfl)
  refine AllReadyH.cons (o := ⟨some 7, _, _, _, _, _⟩) rfl (fun K hK => ?_) AllReadyH.nil
  go_simp
  have hb := below1 u (.cells (bl (fun _ => false)).toArray 92)
  refine hK.out _ _ (hold6 hb hHeld) (fun hNext => ?_)
  exact set1_012 hh hl svh svl sch scl w Q hfin b8 b9 u.heap.size _ hNext (Zero2.on hb Z) (t8.on hb) (t9.on hb) (Th.top u _ rfl (World.block_lt_of_cell? u ⟨w.heap.size + 1 + 1, 0, none⟩ (Z 0 (by omega)).1)) n8_9 t8.ne t9.ne _ (by kernel_rfl)

set_option maxRecDepth 100000 in
set_option maxHeartbeats 2000000 in
theorem set1_02 (hh hl svh svl sch scl : BitVec 64) (w : World) (Q : Exit → Act → World → Prop)
    (hfin : ∀ (b8 b9 b10 : Nat) (u : World), Below w.heap.size w u → Zero2 u (w.heap.size + 1 + 1) → Row u b8 (hbit hh hl) → Row u b9 (hbit svh svl) → Row u b10 (hbit sch scl) → w.heap.size + 1 + 1 + 1 ≤ b8 → b8 ≠ b9 → b8 ≠ b10 → b9 ≠ b10 → Q .normal ⟨#[.agg #[.int .u64 (uv hh), .int .u64 (uv hl)], .agg #[.int .u64 (uv svh), .int .u64 (uv svl), .int .u64 (uv sch), .int .u64 (uv scl)], .pointer (some ⟨w.heap.size, 0, none⟩), .pointer (some ⟨w.heap.size + 1, 0, none⟩), .pointer (some ⟨w.heap.size + 1 + 1, 0, none⟩), .pointer (some ⟨b8, 0, none⟩), .pointer (some ⟨b9, 0, none⟩), .pointer (some ⟨b10, 0, none⟩), undef, .agg #[.int .u64 (uv hh), .int .u64 (uv hl)], .agg (bl (hbit hh hl)).toArray, .pointer (some ⟨w.heap.size + 1, 0, none⟩), .agg #[.int .u64 (uv svh), .int .u64 (uv svl)], .agg (bl (hbit svh svl)).toArray, .pointer (some ⟨w.heap.size + 1, 2, none⟩), .agg #[.int .u64 (uv sch), .int .u64 (uv scl)], .agg (bl (hbit sch scl)).toArray, undef, undef, undef, undef, undef, undef, undef, undef, undef, undef, undef, undef, undef, undef], []⟩ u)
    (b8 : Nat) (b10 : Nat) (u : World) (hHeld : Below w.heap.size w u ∧ u.cell? ⟨w.heap.size, 0, none⟩ = some (.int .u64 (uv hh)) ∧ u.cell? ⟨w.heap.size, 1, none⟩ = some (.int .u64 (uv hl)) ∧ u.cell? ⟨w.heap.size + 1, 0, none⟩ = some (.int .u64 (uv svh)) ∧ u.cell? ⟨w.heap.size + 1, 1, none⟩ = some (.int .u64 (uv svl)) ∧ u.cell? ⟨w.heap.size + 1, 2, none⟩ = some (.int .u64 (uv sch)) ∧ u.cell? ⟨w.heap.size + 1, 3, none⟩ = some (.int .u64 (uv scl))) (Z : Zero2 u (w.heap.size + 1 + 1)) (t8 : Th (w.heap.size + 1 + 1 + 1) u b8) (t10 : Th (w.heap.size + 1 + 1 + 1) u b10) (n8_10 : b8 ≠ b10) (l : Array Bool) (hlst : l = #[true, true, true, true, false, true, true, false, true, false, true, false, false, false]) :
    wpAnyH Try.prog .any setOps Q (fun w' => Below w.heap.size w w' ∧ w'.cell? ⟨w.heap.size, 0, none⟩ = some (.int .u64 (uv hh)) ∧ w'.cell? ⟨w.heap.size, 1, none⟩ = some (.int .u64 (uv hl)) ∧ w'.cell? ⟨w.heap.size + 1, 0, none⟩ = some (.int .u64 (uv svh)) ∧ w'.cell? ⟨w.heap.size + 1, 1, none⟩ = some (.int .u64 (uv svl)) ∧ w'.cell? ⟨w.heap.size + 1, 2, none⟩ = some (.int .u64 (uv sch)) ∧ w'.cell? ⟨w.heap.size + 1, 3, none⟩ = some (.int .u64 (uv scl))) 6 l ⟨#[.agg #[.int .u64 (uv hh), .int .u64 (uv hl)], .agg #[.int .u64 (uv svh), .int .u64 (uv svl), .int .u64 (uv sch), .int .u64 (uv scl)], .pointer (some ⟨w.heap.size, 0, none⟩), .pointer (some ⟨w.heap.size + 1, 0, none⟩), .pointer (some ⟨w.heap.size + 1 + 1, 0, none⟩), .pointer (some ⟨b8, 0, none⟩), undef, .pointer (some ⟨b10, 0, none⟩), undef, .agg #[.int .u64 (uv hh), .int .u64 (uv hl)], .agg (bl (hbit hh hl)).toArray, .pointer (some ⟨w.heap.size + 1, 0, none⟩), .agg #[.int .u64 (uv svh), .int .u64 (uv svl)], undef, .pointer (some ⟨w.heap.size + 1, 2, none⟩), .agg #[.int .u64 (uv sch), .int .u64 (uv scl)], undef, undef, undef, undef, undef, undef, undef, undef, undef, undef, undef, undef, undef, undef, undef], []⟩ u := by
  subst hlst
  have hz := zero25
  refine wpAnyH_ready (rs := [4, 9]) (by kernel_rfl) (by simp) ?_
  refine AllReadyH.cons (o := ⟨some 13, _, _, _, _, _⟩) rfl (fun K hK => ?_) ?_
  · go_simp
    (with_reducible refine (bits_c _ _ _).mono ?_)
    rintro e u1 ⟨rfl, hb⟩
    (try dsimp only)
    refine hK.out _ _ (hold6 hb hHeld) (fun hNext => ?_)
    exact set2_02 hh hl svh svl sch scl w Q hfin b8 b10 u1 hNext (Zero2.on hb Z) (t8.on hb) (t10.on hb) n8_10 _ (by kernel_rfl)
  refine AllReadyH.cons (o := ⟨some 6, _, _, _, _, _⟩) rfl (fun K hK => ?_) AllReadyH.nil
  go_simp
  have hb := below1 u (.cells (bl (fun _ => false)).toArray 92)
  refine hK.out _ _ (hold6 hb hHeld) (fun hNext => ?_)
  exact set1_012 hh hl svh svl sch scl w Q hfin b8 u.heap.size b10 _ hNext (Zero2.on hb Z) (t8.on hb) (Th.top u _ rfl (World.block_lt_of_cell? u ⟨w.heap.size + 1 + 1, 0, none⟩ (Z 0 (by omega)).1)) (t10.on hb) t8.ne n8_10 t10.ne.symm _ (by kernel_rfl)

set_option maxRecDepth 100000 in
set_option maxHeartbeats 2000000 in
theorem set1_12 (hh hl svh svl sch scl : BitVec 64) (w : World) (Q : Exit → Act → World → Prop)
    (hfin : ∀ (b8 b9 b10 : Nat) (u : World), Below w.heap.size w u → Zero2 u (w.heap.size + 1 + 1) → Row u b8 (hbit hh hl) → Row u b9 (hbit svh svl) → Row u b10 (hbit sch scl) → w.heap.size + 1 + 1 + 1 ≤ b8 → b8 ≠ b9 → b8 ≠ b10 → b9 ≠ b10 → Q .normal ⟨#[.agg #[.int .u64 (uv hh), .int .u64 (uv hl)], .agg #[.int .u64 (uv svh), .int .u64 (uv svl), .int .u64 (uv sch), .int .u64 (uv scl)], .pointer (some ⟨w.heap.size, 0, none⟩), .pointer (some ⟨w.heap.size + 1, 0, none⟩), .pointer (some ⟨w.heap.size + 1 + 1, 0, none⟩), .pointer (some ⟨b8, 0, none⟩), .pointer (some ⟨b9, 0, none⟩), .pointer (some ⟨b10, 0, none⟩), undef, .agg #[.int .u64 (uv hh), .int .u64 (uv hl)], .agg (bl (hbit hh hl)).toArray, .pointer (some ⟨w.heap.size + 1, 0, none⟩), .agg #[.int .u64 (uv svh), .int .u64 (uv svl)], .agg (bl (hbit svh svl)).toArray, .pointer (some ⟨w.heap.size + 1, 2, none⟩), .agg #[.int .u64 (uv sch), .int .u64 (uv scl)], .agg (bl (hbit sch scl)).toArray, undef, undef, undef, undef, undef, undef, undef, undef, undef, undef, undef, undef, undef, undef], []⟩ u)
    (b9 : Nat) (b10 : Nat) (u : World) (hHeld : Below w.heap.size w u ∧ u.cell? ⟨w.heap.size, 0, none⟩ = some (.int .u64 (uv hh)) ∧ u.cell? ⟨w.heap.size, 1, none⟩ = some (.int .u64 (uv hl)) ∧ u.cell? ⟨w.heap.size + 1, 0, none⟩ = some (.int .u64 (uv svh)) ∧ u.cell? ⟨w.heap.size + 1, 1, none⟩ = some (.int .u64 (uv svl)) ∧ u.cell? ⟨w.heap.size + 1, 2, none⟩ = some (.int .u64 (uv sch)) ∧ u.cell? ⟨w.heap.size + 1, 3, none⟩ = some (.int .u64 (uv scl))) (Z : Zero2 u (w.heap.size + 1 + 1)) (t9 : Th (w.heap.size + 1 + 1 + 1) u b9) (t10 : Th (w.heap.size + 1 + 1 + 1) u b10) (n9_10 : b9 ≠ b10) (l : Array Bool) (hlst : l = #[true, true, true, true, false, true, true, false, false, true, true, false, false, false]) :
    wpAnyH Try.prog .any setOps Q (fun w' => Below w.heap.size w w' ∧ w'.cell? ⟨w.heap.size, 0, none⟩ = some (.int .u64 (uv hh)) ∧ w'.cell? ⟨w.heap.size, 1, none⟩ = some (.int .u64 (uv hl)) ∧ w'.cell? ⟨w.heap.size + 1, 0, none⟩ = some (.int .u64 (uv svh)) ∧ w'.cell? ⟨w.heap.size + 1, 1, none⟩ = some (.int .u64 (uv svl)) ∧ w'.cell? ⟨w.heap.size + 1, 2, none⟩ = some (.int .u64 (uv sch)) ∧ w'.cell? ⟨w.heap.size + 1, 3, none⟩ = some (.int .u64 (uv scl))) 6 l ⟨#[.agg #[.int .u64 (uv hh), .int .u64 (uv hl)], .agg #[.int .u64 (uv svh), .int .u64 (uv svl), .int .u64 (uv sch), .int .u64 (uv scl)], .pointer (some ⟨w.heap.size, 0, none⟩), .pointer (some ⟨w.heap.size + 1, 0, none⟩), .pointer (some ⟨w.heap.size + 1 + 1, 0, none⟩), undef, .pointer (some ⟨b9, 0, none⟩), .pointer (some ⟨b10, 0, none⟩), undef, .agg #[.int .u64 (uv hh), .int .u64 (uv hl)], .agg (bl (hbit hh hl)).toArray, .pointer (some ⟨w.heap.size + 1, 0, none⟩), .agg #[.int .u64 (uv svh), .int .u64 (uv svl)], undef, .pointer (some ⟨w.heap.size + 1, 2, none⟩), .agg #[.int .u64 (uv sch), .int .u64 (uv scl)], undef, undef, undef, undef, undef, undef, undef, undef, undef, undef, undef, undef, undef, undef, undef], []⟩ u := by
  subst hlst
  have hz := zero25
  refine wpAnyH_ready (rs := [4, 8]) (by kernel_rfl) (by simp) ?_
  refine AllReadyH.cons (o := ⟨some 13, _, _, _, _, _⟩) rfl (fun K hK => ?_) ?_
  · go_simp
    (with_reducible refine (bits_c _ _ _).mono ?_)
    rintro e u1 ⟨rfl, hb⟩
    (try dsimp only)
    refine hK.out _ _ (hold6 hb hHeld) (fun hNext => ?_)
    exact set2_12 hh hl svh svl sch scl w Q hfin b9 b10 u1 hNext (Zero2.on hb Z) (t9.on hb) (t10.on hb) n9_10 _ (by kernel_rfl)
  refine AllReadyH.cons (o := ⟨some 5, _, _, _, _, _⟩) rfl (fun K hK => ?_) AllReadyH.nil
  go_simp
  have hb := below1 u (.cells (bl (fun _ => false)).toArray 92)
  refine hK.out _ _ (hold6 hb hHeld) (fun hNext => ?_)
  exact set1_012 hh hl svh svl sch scl w Q hfin u.heap.size b9 b10 _ hNext (Zero2.on hb Z) (Th.top u _ rfl (World.block_lt_of_cell? u ⟨w.heap.size + 1 + 1, 0, none⟩ (Z 0 (by omega)).1)) (t9.on hb) (t10.on hb) t9.ne.symm t10.ne.symm n9_10 _ (by kernel_rfl)

set_option maxRecDepth 100000 in
set_option maxHeartbeats 2000000 in
theorem set1_0 (hh hl svh svl sch scl : BitVec 64) (w : World) (Q : Exit → Act → World → Prop)
    (hfin : ∀ (b8 b9 b10 : Nat) (u : World), Below w.heap.size w u → Zero2 u (w.heap.size + 1 + 1) → Row u b8 (hbit hh hl) → Row u b9 (hbit svh svl) → Row u b10 (hbit sch scl) → w.heap.size + 1 + 1 + 1 ≤ b8 → b8 ≠ b9 → b8 ≠ b10 → b9 ≠ b10 → Q .normal ⟨#[.agg #[.int .u64 (uv hh), .int .u64 (uv hl)], .agg #[.int .u64 (uv svh), .int .u64 (uv svl), .int .u64 (uv sch), .int .u64 (uv scl)], .pointer (some ⟨w.heap.size, 0, none⟩), .pointer (some ⟨w.heap.size + 1, 0, none⟩), .pointer (some ⟨w.heap.size + 1 + 1, 0, none⟩), .pointer (some ⟨b8, 0, none⟩), .pointer (some ⟨b9, 0, none⟩), .pointer (some ⟨b10, 0, none⟩), undef, .agg #[.int .u64 (uv hh), .int .u64 (uv hl)], .agg (bl (hbit hh hl)).toArray, .pointer (some ⟨w.heap.size + 1, 0, none⟩), .agg #[.int .u64 (uv svh), .int .u64 (uv svl)], .agg (bl (hbit svh svl)).toArray, .pointer (some ⟨w.heap.size + 1, 2, none⟩), .agg #[.int .u64 (uv sch), .int .u64 (uv scl)], .agg (bl (hbit sch scl)).toArray, undef, undef, undef, undef, undef, undef, undef, undef, undef, undef, undef, undef, undef, undef], []⟩ u)
    (b8 : Nat) (u : World) (hHeld : Below w.heap.size w u ∧ u.cell? ⟨w.heap.size, 0, none⟩ = some (.int .u64 (uv hh)) ∧ u.cell? ⟨w.heap.size, 1, none⟩ = some (.int .u64 (uv hl)) ∧ u.cell? ⟨w.heap.size + 1, 0, none⟩ = some (.int .u64 (uv svh)) ∧ u.cell? ⟨w.heap.size + 1, 1, none⟩ = some (.int .u64 (uv svl)) ∧ u.cell? ⟨w.heap.size + 1, 2, none⟩ = some (.int .u64 (uv sch)) ∧ u.cell? ⟨w.heap.size + 1, 3, none⟩ = some (.int .u64 (uv scl))) (Z : Zero2 u (w.heap.size + 1 + 1)) (t8 : Th (w.heap.size + 1 + 1 + 1) u b8) (l : Array Bool) (hlst : l = #[true, true, true, true, false, true, true, false, true, false, false, false, false, false]) :
    wpAnyH Try.prog .any setOps Q (fun w' => Below w.heap.size w w' ∧ w'.cell? ⟨w.heap.size, 0, none⟩ = some (.int .u64 (uv hh)) ∧ w'.cell? ⟨w.heap.size, 1, none⟩ = some (.int .u64 (uv hl)) ∧ w'.cell? ⟨w.heap.size + 1, 0, none⟩ = some (.int .u64 (uv svh)) ∧ w'.cell? ⟨w.heap.size + 1, 1, none⟩ = some (.int .u64 (uv svl)) ∧ w'.cell? ⟨w.heap.size + 1, 2, none⟩ = some (.int .u64 (uv sch)) ∧ w'.cell? ⟨w.heap.size + 1, 3, none⟩ = some (.int .u64 (uv scl))) 7 l ⟨#[.agg #[.int .u64 (uv hh), .int .u64 (uv hl)], .agg #[.int .u64 (uv svh), .int .u64 (uv svl), .int .u64 (uv sch), .int .u64 (uv scl)], .pointer (some ⟨w.heap.size, 0, none⟩), .pointer (some ⟨w.heap.size + 1, 0, none⟩), .pointer (some ⟨w.heap.size + 1 + 1, 0, none⟩), .pointer (some ⟨b8, 0, none⟩), undef, undef, undef, .agg #[.int .u64 (uv hh), .int .u64 (uv hl)], .agg (bl (hbit hh hl)).toArray, .pointer (some ⟨w.heap.size + 1, 0, none⟩), .agg #[.int .u64 (uv svh), .int .u64 (uv svl)], undef, .pointer (some ⟨w.heap.size + 1, 2, none⟩), .agg #[.int .u64 (uv sch), .int .u64 (uv scl)], undef, undef, undef, undef, undef, undef, undef, undef, undef, undef, undef, undef, undef, undef, undef], []⟩ u := by
  subst hlst
  have hz := zero25
  refine wpAnyH_ready (rs := [4, 9, 10]) (by kernel_rfl) (by simp) ?_
  refine AllReadyH.cons (o := ⟨some 13, _, _, _, _, _⟩) rfl (fun K hK => ?_) ?_
  · go_simp
    (with_reducible refine (bits_c _ _ _).mono ?_)
    rintro e u1 ⟨rfl, hb⟩
    (try dsimp only)
    refine hK.out _ _ (hold6 hb hHeld) (fun hNext => ?_)
    exact set2_0 hh hl svh svl sch scl w Q hfin b8 u1 hNext (Zero2.on hb Z) (t8.on hb)  _ (by kernel_rfl)
  refine AllReadyH.cons (o := ⟨some 6, _, _, _, _, _⟩) rfl (fun K hK => ?_) ?_
  · go_simp
    have hb := below1 u (.cells (bl (fun _ => false)).toArray 92)
    refine hK.out _ _ (hold6 hb hHeld) (fun hNext => ?_)
    exact set1_01 hh hl svh svl sch scl w Q hfin b8 u.heap.size _ hNext (Zero2.on hb Z) (t8.on hb) (Th.top u _ rfl (World.block_lt_of_cell? u ⟨w.heap.size + 1 + 1, 0, none⟩ (Z 0 (by omega)).1)) t8.ne _ (by kernel_rfl)
  refine AllReadyH.cons (o := ⟨some 7, _, _, _, _, _⟩) rfl (fun K hK => ?_) AllReadyH.nil
  go_simp
  have hb := below1 u (.cells (bl (fun _ => false)).toArray 92)
  refine hK.out _ _ (hold6 hb hHeld) (fun hNext => ?_)
  exact set1_02 hh hl svh svl sch scl w Q hfin b8 u.heap.size _ hNext (Zero2.on hb Z) (t8.on hb) (Th.top u _ rfl (World.block_lt_of_cell? u ⟨w.heap.size + 1 + 1, 0, none⟩ (Z 0 (by omega)).1)) t8.ne _ (by kernel_rfl)

set_option maxRecDepth 100000 in
set_option maxHeartbeats 2000000 in
theorem set1_1 (hh hl svh svl sch scl : BitVec 64) (w : World) (Q : Exit → Act → World → Prop)
    (hfin : ∀ (b8 b9 b10 : Nat) (u : World), Below w.heap.size w u → Zero2 u (w.heap.size + 1 + 1) → Row u b8 (hbit hh hl) → Row u b9 (hbit svh svl) → Row u b10 (hbit sch scl) → w.heap.size + 1 + 1 + 1 ≤ b8 → b8 ≠ b9 → b8 ≠ b10 → b9 ≠ b10 → Q .normal ⟨#[.agg #[.int .u64 (uv hh), .int .u64 (uv hl)], .agg #[.int .u64 (uv svh), .int .u64 (uv svl), .int .u64 (uv sch), .int .u64 (uv scl)], .pointer (some ⟨w.heap.size, 0, none⟩), .pointer (some ⟨w.heap.size + 1, 0, none⟩), .pointer (some ⟨w.heap.size + 1 + 1, 0, none⟩), .pointer (some ⟨b8, 0, none⟩), .pointer (some ⟨b9, 0, none⟩), .pointer (some ⟨b10, 0, none⟩), undef, .agg #[.int .u64 (uv hh), .int .u64 (uv hl)], .agg (bl (hbit hh hl)).toArray, .pointer (some ⟨w.heap.size + 1, 0, none⟩), .agg #[.int .u64 (uv svh), .int .u64 (uv svl)], .agg (bl (hbit svh svl)).toArray, .pointer (some ⟨w.heap.size + 1, 2, none⟩), .agg #[.int .u64 (uv sch), .int .u64 (uv scl)], .agg (bl (hbit sch scl)).toArray, undef, undef, undef, undef, undef, undef, undef, undef, undef, undef, undef, undef, undef, undef], []⟩ u)
    (b9 : Nat) (u : World) (hHeld : Below w.heap.size w u ∧ u.cell? ⟨w.heap.size, 0, none⟩ = some (.int .u64 (uv hh)) ∧ u.cell? ⟨w.heap.size, 1, none⟩ = some (.int .u64 (uv hl)) ∧ u.cell? ⟨w.heap.size + 1, 0, none⟩ = some (.int .u64 (uv svh)) ∧ u.cell? ⟨w.heap.size + 1, 1, none⟩ = some (.int .u64 (uv svl)) ∧ u.cell? ⟨w.heap.size + 1, 2, none⟩ = some (.int .u64 (uv sch)) ∧ u.cell? ⟨w.heap.size + 1, 3, none⟩ = some (.int .u64 (uv scl))) (Z : Zero2 u (w.heap.size + 1 + 1)) (t9 : Th (w.heap.size + 1 + 1 + 1) u b9) (l : Array Bool) (hlst : l = #[true, true, true, true, false, true, true, false, false, true, false, false, false, false]) :
    wpAnyH Try.prog .any setOps Q (fun w' => Below w.heap.size w w' ∧ w'.cell? ⟨w.heap.size, 0, none⟩ = some (.int .u64 (uv hh)) ∧ w'.cell? ⟨w.heap.size, 1, none⟩ = some (.int .u64 (uv hl)) ∧ w'.cell? ⟨w.heap.size + 1, 0, none⟩ = some (.int .u64 (uv svh)) ∧ w'.cell? ⟨w.heap.size + 1, 1, none⟩ = some (.int .u64 (uv svl)) ∧ w'.cell? ⟨w.heap.size + 1, 2, none⟩ = some (.int .u64 (uv sch)) ∧ w'.cell? ⟨w.heap.size + 1, 3, none⟩ = some (.int .u64 (uv scl))) 7 l ⟨#[.agg #[.int .u64 (uv hh), .int .u64 (uv hl)], .agg #[.int .u64 (uv svh), .int .u64 (uv svl), .int .u64 (uv sch), .int .u64 (uv scl)], .pointer (some ⟨w.heap.size, 0, none⟩), .pointer (some ⟨w.heap.size + 1, 0, none⟩), .pointer (some ⟨w.heap.size + 1 + 1, 0, none⟩), undef, .pointer (some ⟨b9, 0, none⟩), undef, undef, .agg #[.int .u64 (uv hh), .int .u64 (uv hl)], .agg (bl (hbit hh hl)).toArray, .pointer (some ⟨w.heap.size + 1, 0, none⟩), .agg #[.int .u64 (uv svh), .int .u64 (uv svl)], undef, .pointer (some ⟨w.heap.size + 1, 2, none⟩), .agg #[.int .u64 (uv sch), .int .u64 (uv scl)], undef, undef, undef, undef, undef, undef, undef, undef, undef, undef, undef, undef, undef, undef, undef], []⟩ u := by
  subst hlst
  have hz := zero25
  refine wpAnyH_ready (rs := [4, 8, 10]) (by kernel_rfl) (by simp) ?_
  refine AllReadyH.cons (o := ⟨some 13, _, _, _, _, _⟩) rfl (fun K hK => ?_) ?_
  · go_simp
    (with_reducible refine (bits_c _ _ _).mono ?_)
    rintro e u1 ⟨rfl, hb⟩
    (try dsimp only)
    refine hK.out _ _ (hold6 hb hHeld) (fun hNext => ?_)
    exact set2_1 hh hl svh svl sch scl w Q hfin b9 u1 hNext (Zero2.on hb Z) (t9.on hb)  _ (by kernel_rfl)
  refine AllReadyH.cons (o := ⟨some 5, _, _, _, _, _⟩) rfl (fun K hK => ?_) ?_
  · go_simp
    have hb := below1 u (.cells (bl (fun _ => false)).toArray 92)
    refine hK.out _ _ (hold6 hb hHeld) (fun hNext => ?_)
    exact set1_01 hh hl svh svl sch scl w Q hfin u.heap.size b9 _ hNext (Zero2.on hb Z) (Th.top u _ rfl (World.block_lt_of_cell? u ⟨w.heap.size + 1 + 1, 0, none⟩ (Z 0 (by omega)).1)) (t9.on hb) t9.ne.symm _ (by kernel_rfl)
  refine AllReadyH.cons (o := ⟨some 7, _, _, _, _, _⟩) rfl (fun K hK => ?_) AllReadyH.nil
  go_simp
  have hb := below1 u (.cells (bl (fun _ => false)).toArray 92)
  refine hK.out _ _ (hold6 hb hHeld) (fun hNext => ?_)
  exact set1_12 hh hl svh svl sch scl w Q hfin b9 u.heap.size _ hNext (Zero2.on hb Z) (t9.on hb) (Th.top u _ rfl (World.block_lt_of_cell? u ⟨w.heap.size + 1 + 1, 0, none⟩ (Z 0 (by omega)).1)) t9.ne _ (by kernel_rfl)

set_option maxRecDepth 100000 in
set_option maxHeartbeats 2000000 in
theorem set1_2 (hh hl svh svl sch scl : BitVec 64) (w : World) (Q : Exit → Act → World → Prop)
    (hfin : ∀ (b8 b9 b10 : Nat) (u : World), Below w.heap.size w u → Zero2 u (w.heap.size + 1 + 1) → Row u b8 (hbit hh hl) → Row u b9 (hbit svh svl) → Row u b10 (hbit sch scl) → w.heap.size + 1 + 1 + 1 ≤ b8 → b8 ≠ b9 → b8 ≠ b10 → b9 ≠ b10 → Q .normal ⟨#[.agg #[.int .u64 (uv hh), .int .u64 (uv hl)], .agg #[.int .u64 (uv svh), .int .u64 (uv svl), .int .u64 (uv sch), .int .u64 (uv scl)], .pointer (some ⟨w.heap.size, 0, none⟩), .pointer (some ⟨w.heap.size + 1, 0, none⟩), .pointer (some ⟨w.heap.size + 1 + 1, 0, none⟩), .pointer (some ⟨b8, 0, none⟩), .pointer (some ⟨b9, 0, none⟩), .pointer (some ⟨b10, 0, none⟩), undef, .agg #[.int .u64 (uv hh), .int .u64 (uv hl)], .agg (bl (hbit hh hl)).toArray, .pointer (some ⟨w.heap.size + 1, 0, none⟩), .agg #[.int .u64 (uv svh), .int .u64 (uv svl)], .agg (bl (hbit svh svl)).toArray, .pointer (some ⟨w.heap.size + 1, 2, none⟩), .agg #[.int .u64 (uv sch), .int .u64 (uv scl)], .agg (bl (hbit sch scl)).toArray, undef, undef, undef, undef, undef, undef, undef, undef, undef, undef, undef, undef, undef, undef], []⟩ u)
    (b10 : Nat) (u : World) (hHeld : Below w.heap.size w u ∧ u.cell? ⟨w.heap.size, 0, none⟩ = some (.int .u64 (uv hh)) ∧ u.cell? ⟨w.heap.size, 1, none⟩ = some (.int .u64 (uv hl)) ∧ u.cell? ⟨w.heap.size + 1, 0, none⟩ = some (.int .u64 (uv svh)) ∧ u.cell? ⟨w.heap.size + 1, 1, none⟩ = some (.int .u64 (uv svl)) ∧ u.cell? ⟨w.heap.size + 1, 2, none⟩ = some (.int .u64 (uv sch)) ∧ u.cell? ⟨w.heap.size + 1, 3, none⟩ = some (.int .u64 (uv scl))) (Z : Zero2 u (w.heap.size + 1 + 1)) (t10 : Th (w.heap.size + 1 + 1 + 1) u b10) (l : Array Bool) (hlst : l = #[true, true, true, true, false, true, true, false, false, false, true, false, false, false]) :
    wpAnyH Try.prog .any setOps Q (fun w' => Below w.heap.size w w' ∧ w'.cell? ⟨w.heap.size, 0, none⟩ = some (.int .u64 (uv hh)) ∧ w'.cell? ⟨w.heap.size, 1, none⟩ = some (.int .u64 (uv hl)) ∧ w'.cell? ⟨w.heap.size + 1, 0, none⟩ = some (.int .u64 (uv svh)) ∧ w'.cell? ⟨w.heap.size + 1, 1, none⟩ = some (.int .u64 (uv svl)) ∧ w'.cell? ⟨w.heap.size + 1, 2, none⟩ = some (.int .u64 (uv sch)) ∧ w'.cell? ⟨w.heap.size + 1, 3, none⟩ = some (.int .u64 (uv scl))) 7 l ⟨#[.agg #[.int .u64 (uv hh), .int .u64 (uv hl)], .agg #[.int .u64 (uv svh), .int .u64 (uv svl), .int .u64 (uv sch), .int .u64 (uv scl)], .pointer (some ⟨w.heap.size, 0, none⟩), .pointer (some ⟨w.heap.size + 1, 0, none⟩), .pointer (some ⟨w.heap.size + 1 + 1, 0, none⟩), undef, undef, .pointer (some ⟨b10, 0, none⟩), undef, .agg #[.int .u64 (uv hh), .int .u64 (uv hl)], .agg (bl (hbit hh hl)).toArray, .pointer (some ⟨w.heap.size + 1, 0, none⟩), .agg #[.int .u64 (uv svh), .int .u64 (uv svl)], undef, .pointer (some ⟨w.heap.size + 1, 2, none⟩), .agg #[.int .u64 (uv sch), .int .u64 (uv scl)], undef, undef, undef, undef, undef, undef, undef, undef, undef, undef, undef, undef, undef, undef, undef], []⟩ u := by
  subst hlst
  have hz := zero25
  refine wpAnyH_ready (rs := [4, 8, 9]) (by kernel_rfl) (by simp) ?_
  refine AllReadyH.cons (o := ⟨some 13, _, _, _, _, _⟩) rfl (fun K hK => ?_) ?_
  · go_simp
    (with_reducible refine (bits_c _ _ _).mono ?_)
    rintro e u1 ⟨rfl, hb⟩
    (try dsimp only)
    refine hK.out _ _ (hold6 hb hHeld) (fun hNext => ?_)
    exact set2_2 hh hl svh svl sch scl w Q hfin b10 u1 hNext (Zero2.on hb Z) (t10.on hb)  _ (by kernel_rfl)
  refine AllReadyH.cons (o := ⟨some 5, _, _, _, _, _⟩) rfl (fun K hK => ?_) ?_
  · go_simp
    have hb := below1 u (.cells (bl (fun _ => false)).toArray 92)
    refine hK.out _ _ (hold6 hb hHeld) (fun hNext => ?_)
    exact set1_02 hh hl svh svl sch scl w Q hfin u.heap.size b10 _ hNext (Zero2.on hb Z) (Th.top u _ rfl (World.block_lt_of_cell? u ⟨w.heap.size + 1 + 1, 0, none⟩ (Z 0 (by omega)).1)) (t10.on hb) t10.ne.symm _ (by kernel_rfl)
  refine AllReadyH.cons (o := ⟨some 6, _, _, _, _, _⟩) rfl (fun K hK => ?_) AllReadyH.nil
  go_simp
  have hb := below1 u (.cells (bl (fun _ => false)).toArray 92)
  refine hK.out _ _ (hold6 hb hHeld) (fun hNext => ?_)
  exact set1_12 hh hl svh svl sch scl w Q hfin u.heap.size b10 _ hNext (Zero2.on hb Z) (Th.top u _ rfl (World.block_lt_of_cell? u ⟨w.heap.size + 1 + 1, 0, none⟩ (Z 0 (by omega)).1)) (t10.on hb) t10.ne.symm _ (by kernel_rfl)

set_option maxRecDepth 100000 in
set_option maxHeartbeats 2000000 in
theorem set1_ (hh hl svh svl sch scl : BitVec 64) (w : World) (Q : Exit → Act → World → Prop)
    (hfin : ∀ (b8 b9 b10 : Nat) (u : World), Below w.heap.size w u → Zero2 u (w.heap.size + 1 + 1) → Row u b8 (hbit hh hl) → Row u b9 (hbit svh svl) → Row u b10 (hbit sch scl) → w.heap.size + 1 + 1 + 1 ≤ b8 → b8 ≠ b9 → b8 ≠ b10 → b9 ≠ b10 → Q .normal ⟨#[.agg #[.int .u64 (uv hh), .int .u64 (uv hl)], .agg #[.int .u64 (uv svh), .int .u64 (uv svl), .int .u64 (uv sch), .int .u64 (uv scl)], .pointer (some ⟨w.heap.size, 0, none⟩), .pointer (some ⟨w.heap.size + 1, 0, none⟩), .pointer (some ⟨w.heap.size + 1 + 1, 0, none⟩), .pointer (some ⟨b8, 0, none⟩), .pointer (some ⟨b9, 0, none⟩), .pointer (some ⟨b10, 0, none⟩), undef, .agg #[.int .u64 (uv hh), .int .u64 (uv hl)], .agg (bl (hbit hh hl)).toArray, .pointer (some ⟨w.heap.size + 1, 0, none⟩), .agg #[.int .u64 (uv svh), .int .u64 (uv svl)], .agg (bl (hbit svh svl)).toArray, .pointer (some ⟨w.heap.size + 1, 2, none⟩), .agg #[.int .u64 (uv sch), .int .u64 (uv scl)], .agg (bl (hbit sch scl)).toArray, undef, undef, undef, undef, undef, undef, undef, undef, undef, undef, undef, undef, undef, undef], []⟩ u)
    (u : World) (hHeld : Below w.heap.size w u ∧ u.cell? ⟨w.heap.size, 0, none⟩ = some (.int .u64 (uv hh)) ∧ u.cell? ⟨w.heap.size, 1, none⟩ = some (.int .u64 (uv hl)) ∧ u.cell? ⟨w.heap.size + 1, 0, none⟩ = some (.int .u64 (uv svh)) ∧ u.cell? ⟨w.heap.size + 1, 1, none⟩ = some (.int .u64 (uv svl)) ∧ u.cell? ⟨w.heap.size + 1, 2, none⟩ = some (.int .u64 (uv sch)) ∧ u.cell? ⟨w.heap.size + 1, 3, none⟩ = some (.int .u64 (uv scl))) (Z : Zero2 u (w.heap.size + 1 + 1)) (l : Array Bool) (hlst : l = #[true, true, true, true, false, true, true, false, false, false, false, false, false, false]) :
    wpAnyH Try.prog .any setOps Q (fun w' => Below w.heap.size w w' ∧ w'.cell? ⟨w.heap.size, 0, none⟩ = some (.int .u64 (uv hh)) ∧ w'.cell? ⟨w.heap.size, 1, none⟩ = some (.int .u64 (uv hl)) ∧ w'.cell? ⟨w.heap.size + 1, 0, none⟩ = some (.int .u64 (uv svh)) ∧ w'.cell? ⟨w.heap.size + 1, 1, none⟩ = some (.int .u64 (uv svl)) ∧ w'.cell? ⟨w.heap.size + 1, 2, none⟩ = some (.int .u64 (uv sch)) ∧ w'.cell? ⟨w.heap.size + 1, 3, none⟩ = some (.int .u64 (uv scl))) 8 l ⟨#[.agg #[.int .u64 (uv hh), .int .u64 (uv hl)], .agg #[.int .u64 (uv svh), .int .u64 (uv svl), .int .u64 (uv sch), .int .u64 (uv scl)], .pointer (some ⟨w.heap.size, 0, none⟩), .pointer (some ⟨w.heap.size + 1, 0, none⟩), .pointer (some ⟨w.heap.size + 1 + 1, 0, none⟩), undef, undef, undef, undef, .agg #[.int .u64 (uv hh), .int .u64 (uv hl)], .agg (bl (hbit hh hl)).toArray, .pointer (some ⟨w.heap.size + 1, 0, none⟩), .agg #[.int .u64 (uv svh), .int .u64 (uv svl)], undef, .pointer (some ⟨w.heap.size + 1, 2, none⟩), .agg #[.int .u64 (uv sch), .int .u64 (uv scl)], undef, undef, undef, undef, undef, undef, undef, undef, undef, undef, undef, undef, undef, undef, undef], []⟩ u := by
  subst hlst
  have hz := zero25
  refine wpAnyH_ready (rs := [4, 8, 9, 10]) (by kernel_rfl) (by simp) ?_
  refine AllReadyH.cons (o := ⟨some 13, _, _, _, _, _⟩) rfl (fun K hK => ?_) ?_
  · go_simp
    (with_reducible refine (bits_c _ _ _).mono ?_)
    rintro e u1 ⟨rfl, hb⟩
    (try dsimp only)
    refine hK.out _ _ (hold6 hb hHeld) (fun hNext => ?_)
    exact set2_ hh hl svh svl sch scl w Q hfin u1 hNext (Zero2.on hb Z)  _ (by kernel_rfl)
  refine AllReadyH.cons (o := ⟨some 5, _, _, _, _, _⟩) rfl (fun K hK => ?_) ?_
  · go_simp
    have hb := below1 u (.cells (bl (fun _ => false)).toArray 92)
    refine hK.out _ _ (hold6 hb hHeld) (fun hNext => ?_)
    exact set1_0 hh hl svh svl sch scl w Q hfin u.heap.size _ hNext (Zero2.on hb Z) (Th.top u _ rfl (World.block_lt_of_cell? u ⟨w.heap.size + 1 + 1, 0, none⟩ (Z 0 (by omega)).1))  _ (by kernel_rfl)
  refine AllReadyH.cons (o := ⟨some 6, _, _, _, _, _⟩) rfl (fun K hK => ?_) ?_
  · go_simp
    have hb := below1 u (.cells (bl (fun _ => false)).toArray 92)
    refine hK.out _ _ (hold6 hb hHeld) (fun hNext => ?_)
    exact set1_1 hh hl svh svl sch scl w Q hfin u.heap.size _ hNext (Zero2.on hb Z) (Th.top u _ rfl (World.block_lt_of_cell? u ⟨w.heap.size + 1 + 1, 0, none⟩ (Z 0 (by omega)).1))  _ (by kernel_rfl)
  refine AllReadyH.cons (o := ⟨some 7, _, _, _, _, _⟩) rfl (fun K hK => ?_) AllReadyH.nil
  go_simp
  have hb := below1 u (.cells (bl (fun _ => false)).toArray 92)
  refine hK.out _ _ (hold6 hb hHeld) (fun hNext => ?_)
  exact set1_2 hh hl svh svl sch scl w Q hfin u.heap.size _ hNext (Zero2.on hb Z) (Th.top u _ rfl (World.block_lt_of_cell? u ⟨w.heap.size + 1 + 1, 0, none⟩ (Z 0 (by omega)).1))  _ (by kernel_rfl)

set_option maxRecDepth 100000 in
set_option maxHeartbeats 2000000 in
theorem set0_012 (hh hl svh svl sch scl : BitVec 64) (w : World) (Q : Exit → Act → World → Prop)
    (hfin : ∀ (b8 b9 b10 : Nat) (u : World), Below w.heap.size w u → Zero2 u (w.heap.size + 1 + 1) → Row u b8 (hbit hh hl) → Row u b9 (hbit svh svl) → Row u b10 (hbit sch scl) → w.heap.size + 1 + 1 + 1 ≤ b8 → b8 ≠ b9 → b8 ≠ b10 → b9 ≠ b10 → Q .normal ⟨#[.agg #[.int .u64 (uv hh), .int .u64 (uv hl)], .agg #[.int .u64 (uv svh), .int .u64 (uv svl), .int .u64 (uv sch), .int .u64 (uv scl)], .pointer (some ⟨w.heap.size, 0, none⟩), .pointer (some ⟨w.heap.size + 1, 0, none⟩), .pointer (some ⟨w.heap.size + 1 + 1, 0, none⟩), .pointer (some ⟨b8, 0, none⟩), .pointer (some ⟨b9, 0, none⟩), .pointer (some ⟨b10, 0, none⟩), undef, .agg #[.int .u64 (uv hh), .int .u64 (uv hl)], .agg (bl (hbit hh hl)).toArray, .pointer (some ⟨w.heap.size + 1, 0, none⟩), .agg #[.int .u64 (uv svh), .int .u64 (uv svl)], .agg (bl (hbit svh svl)).toArray, .pointer (some ⟨w.heap.size + 1, 2, none⟩), .agg #[.int .u64 (uv sch), .int .u64 (uv scl)], .agg (bl (hbit sch scl)).toArray, undef, undef, undef, undef, undef, undef, undef, undef, undef, undef, undef, undef, undef, undef], []⟩ u)
    (b8 : Nat) (b9 : Nat) (b10 : Nat) (u : World) (hHeld : Below w.heap.size w u ∧ u.cell? ⟨w.heap.size, 0, none⟩ = some (.int .u64 (uv hh)) ∧ u.cell? ⟨w.heap.size, 1, none⟩ = some (.int .u64 (uv hl)) ∧ u.cell? ⟨w.heap.size + 1, 0, none⟩ = some (.int .u64 (uv svh)) ∧ u.cell? ⟨w.heap.size + 1, 1, none⟩ = some (.int .u64 (uv svl)) ∧ u.cell? ⟨w.heap.size + 1, 2, none⟩ = some (.int .u64 (uv sch)) ∧ u.cell? ⟨w.heap.size + 1, 3, none⟩ = some (.int .u64 (uv scl))) (Z : Zero2 u (w.heap.size + 1 + 1)) (t8 : Th (w.heap.size + 1 + 1 + 1) u b8) (t9 : Th (w.heap.size + 1 + 1 + 1) u b9) (t10 : Th (w.heap.size + 1 + 1 + 1) u b10) (n8_9 : b8 ≠ b9) (n8_10 : b8 ≠ b10) (n9_10 : b9 ≠ b10) (l : Array Bool) (hlst : l = #[true, false, true, true, false, true, true, false, true, true, true, false, false, false]) :
    wpAnyH Try.prog .any setOps Q (fun w' => Below w.heap.size w w' ∧ w'.cell? ⟨w.heap.size, 0, none⟩ = some (.int .u64 (uv hh)) ∧ w'.cell? ⟨w.heap.size, 1, none⟩ = some (.int .u64 (uv hl)) ∧ w'.cell? ⟨w.heap.size + 1, 0, none⟩ = some (.int .u64 (uv svh)) ∧ w'.cell? ⟨w.heap.size + 1, 1, none⟩ = some (.int .u64 (uv svl)) ∧ w'.cell? ⟨w.heap.size + 1, 2, none⟩ = some (.int .u64 (uv sch)) ∧ w'.cell? ⟨w.heap.size + 1, 3, none⟩ = some (.int .u64 (uv scl))) 6 l ⟨#[.agg #[.int .u64 (uv hh), .int .u64 (uv hl)], .agg #[.int .u64 (uv svh), .int .u64 (uv svl), .int .u64 (uv sch), .int .u64 (uv scl)], .pointer (some ⟨w.heap.size, 0, none⟩), .pointer (some ⟨w.heap.size + 1, 0, none⟩), .pointer (some ⟨w.heap.size + 1 + 1, 0, none⟩), .pointer (some ⟨b8, 0, none⟩), .pointer (some ⟨b9, 0, none⟩), .pointer (some ⟨b10, 0, none⟩), undef, .agg #[.int .u64 (uv hh), .int .u64 (uv hl)], undef, .pointer (some ⟨w.heap.size + 1, 0, none⟩), .agg #[.int .u64 (uv svh), .int .u64 (uv svl)], undef, .pointer (some ⟨w.heap.size + 1, 2, none⟩), .agg #[.int .u64 (uv sch), .int .u64 (uv scl)], undef, undef, undef, undef, undef, undef, undef, undef, undef, undef, undef, undef, undef, undef, undef], []⟩ u := by
  subst hlst
  have hz := zero25
  refine wpAnyH_ready (rs := [1]) (by kernel_rfl) (by simp) ?_
  refine AllReadyH.cons (o := ⟨some 10, _, _, _, _, _⟩) rfl (fun K hK => ?_) AllReadyH.nil
  go_simp
  (with_reducible refine (bits_c _ _ _).mono ?_)
  rintro e u1 ⟨rfl, hb⟩
  (try dsimp only)
  refine hK.out _ _ (hold6 hb hHeld) (fun hNext => ?_)
  exact set1_012 hh hl svh svl sch scl w Q hfin b8 b9 b10 u1 hNext (Zero2.on hb Z) (t8.on hb) (t9.on hb) (t10.on hb) n8_9 n8_10 n9_10 _ (by kernel_rfl)

set_option maxRecDepth 100000 in
set_option maxHeartbeats 2000000 in
theorem set0_01 (hh hl svh svl sch scl : BitVec 64) (w : World) (Q : Exit → Act → World → Prop)
    (hfin : ∀ (b8 b9 b10 : Nat) (u : World), Below w.heap.size w u → Zero2 u (w.heap.size + 1 + 1) → Row u b8 (hbit hh hl) → Row u b9 (hbit svh svl) → Row u b10 (hbit sch scl) → w.heap.size + 1 + 1 + 1 ≤ b8 → b8 ≠ b9 → b8 ≠ b10 → b9 ≠ b10 → Q .normal ⟨#[.agg #[.int .u64 (uv hh), .int .u64 (uv hl)], .agg #[.int .u64 (uv svh), .int .u64 (uv svl), .int .u64 (uv sch), .int .u64 (uv scl)], .pointer (some ⟨w.heap.size, 0, none⟩), .pointer (some ⟨w.heap.size + 1, 0, none⟩), .pointer (some ⟨w.heap.size + 1 + 1, 0, none⟩), .pointer (some ⟨b8, 0, none⟩), .pointer (some ⟨b9, 0, none⟩), .pointer (some ⟨b10, 0, none⟩), undef, .agg #[.int .u64 (uv hh), .int .u64 (uv hl)], .agg (bl (hbit hh hl)).toArray, .pointer (some ⟨w.heap.size + 1, 0, none⟩), .agg #[.int .u64 (uv svh), .int .u64 (uv svl)], .agg (bl (hbit svh svl)).toArray, .pointer (some ⟨w.heap.size + 1, 2, none⟩), .agg #[.int .u64 (uv sch), .int .u64 (uv scl)], .agg (bl (hbit sch scl)).toArray, undef, undef, undef, undef, undef, undef, undef, undef, undef, undef, undef, undef, undef, undef], []⟩ u)
    (b8 : Nat) (b9 : Nat) (u : World) (hHeld : Below w.heap.size w u ∧ u.cell? ⟨w.heap.size, 0, none⟩ = some (.int .u64 (uv hh)) ∧ u.cell? ⟨w.heap.size, 1, none⟩ = some (.int .u64 (uv hl)) ∧ u.cell? ⟨w.heap.size + 1, 0, none⟩ = some (.int .u64 (uv svh)) ∧ u.cell? ⟨w.heap.size + 1, 1, none⟩ = some (.int .u64 (uv svl)) ∧ u.cell? ⟨w.heap.size + 1, 2, none⟩ = some (.int .u64 (uv sch)) ∧ u.cell? ⟨w.heap.size + 1, 3, none⟩ = some (.int .u64 (uv scl))) (Z : Zero2 u (w.heap.size + 1 + 1)) (t8 : Th (w.heap.size + 1 + 1 + 1) u b8) (t9 : Th (w.heap.size + 1 + 1 + 1) u b9) (n8_9 : b8 ≠ b9) (l : Array Bool) (hlst : l = #[true, false, true, true, false, true, true, false, true, true, false, false, false, false]) :
    wpAnyH Try.prog .any setOps Q (fun w' => Below w.heap.size w w' ∧ w'.cell? ⟨w.heap.size, 0, none⟩ = some (.int .u64 (uv hh)) ∧ w'.cell? ⟨w.heap.size, 1, none⟩ = some (.int .u64 (uv hl)) ∧ w'.cell? ⟨w.heap.size + 1, 0, none⟩ = some (.int .u64 (uv svh)) ∧ w'.cell? ⟨w.heap.size + 1, 1, none⟩ = some (.int .u64 (uv svl)) ∧ w'.cell? ⟨w.heap.size + 1, 2, none⟩ = some (.int .u64 (uv sch)) ∧ w'.cell? ⟨w.heap.size + 1, 3, none⟩ = some (.int .u64 (uv scl))) 7 l ⟨#[.agg #[.int .u64 (uv hh), .int .u64 (uv hl)], .agg #[.int .u64 (uv svh), .int .u64 (uv svl), .int .u64 (uv sch), .int .u64 (uv scl)], .pointer (some ⟨w.heap.size, 0, none⟩), .pointer (some ⟨w.heap.size + 1, 0, none⟩), .pointer (some ⟨w.heap.size + 1 + 1, 0, none⟩), .pointer (some ⟨b8, 0, none⟩), .pointer (some ⟨b9, 0, none⟩), undef, undef, .agg #[.int .u64 (uv hh), .int .u64 (uv hl)], undef, .pointer (some ⟨w.heap.size + 1, 0, none⟩), .agg #[.int .u64 (uv svh), .int .u64 (uv svl)], undef, .pointer (some ⟨w.heap.size + 1, 2, none⟩), .agg #[.int .u64 (uv sch), .int .u64 (uv scl)], undef, undef, undef, undef, undef, undef, undef, undef, undef, undef, undef, undef, undef, undef, undef], []⟩ u := by
  subst hlst
  have hz := zero25
  refine wpAnyH_ready (rs := [1, 10]) (by kernel_rfl) (by simp) ?_
  refine AllReadyH.cons (o := ⟨some 10, _, _, _, _, _⟩) rfl (fun K hK => ?_) ?_
  · go_simp
    (with_reducible refine (bits_c _ _ _).mono ?_)
    rintro e u1 ⟨rfl, hb⟩
    (try dsimp only)
    refine hK.out _ _ (hold6 hb hHeld) (fun hNext => ?_)
    exact set1_01 hh hl svh svl sch scl w Q hfin b8 b9 u1 hNext (Zero2.on hb Z) (t8.on hb) (t9.on hb) n8_9 _ (by kernel_rfl)
  refine AllReadyH.cons (o := ⟨some 7, _, _, _, _, _⟩) rfl (fun K hK => ?_) AllReadyH.nil
  go_simp
  have hb := below1 u (.cells (bl (fun _ => false)).toArray 92)
  refine hK.out _ _ (hold6 hb hHeld) (fun hNext => ?_)
  exact set0_012 hh hl svh svl sch scl w Q hfin b8 b9 u.heap.size _ hNext (Zero2.on hb Z) (t8.on hb) (t9.on hb) (Th.top u _ rfl (World.block_lt_of_cell? u ⟨w.heap.size + 1 + 1, 0, none⟩ (Z 0 (by omega)).1)) n8_9 t8.ne t9.ne _ (by kernel_rfl)

set_option maxRecDepth 100000 in
set_option maxHeartbeats 2000000 in
theorem set0_02 (hh hl svh svl sch scl : BitVec 64) (w : World) (Q : Exit → Act → World → Prop)
    (hfin : ∀ (b8 b9 b10 : Nat) (u : World), Below w.heap.size w u → Zero2 u (w.heap.size + 1 + 1) → Row u b8 (hbit hh hl) → Row u b9 (hbit svh svl) → Row u b10 (hbit sch scl) → w.heap.size + 1 + 1 + 1 ≤ b8 → b8 ≠ b9 → b8 ≠ b10 → b9 ≠ b10 → Q .normal ⟨#[.agg #[.int .u64 (uv hh), .int .u64 (uv hl)], .agg #[.int .u64 (uv svh), .int .u64 (uv svl), .int .u64 (uv sch), .int .u64 (uv scl)], .pointer (some ⟨w.heap.size, 0, none⟩), .pointer (some ⟨w.heap.size + 1, 0, none⟩), .pointer (some ⟨w.heap.size + 1 + 1, 0, none⟩), .pointer (some ⟨b8, 0, none⟩), .pointer (some ⟨b9, 0, none⟩), .pointer (some ⟨b10, 0, none⟩), undef, .agg #[.int .u64 (uv hh), .int .u64 (uv hl)], .agg (bl (hbit hh hl)).toArray, .pointer (some ⟨w.heap.size + 1, 0, none⟩), .agg #[.int .u64 (uv svh), .int .u64 (uv svl)], .agg (bl (hbit svh svl)).toArray, .pointer (some ⟨w.heap.size + 1, 2, none⟩), .agg #[.int .u64 (uv sch), .int .u64 (uv scl)], .agg (bl (hbit sch scl)).toArray, undef, undef, undef, undef, undef, undef, undef, undef, undef, undef, undef, undef, undef, undef], []⟩ u)
    (b8 : Nat) (b10 : Nat) (u : World) (hHeld : Below w.heap.size w u ∧ u.cell? ⟨w.heap.size, 0, none⟩ = some (.int .u64 (uv hh)) ∧ u.cell? ⟨w.heap.size, 1, none⟩ = some (.int .u64 (uv hl)) ∧ u.cell? ⟨w.heap.size + 1, 0, none⟩ = some (.int .u64 (uv svh)) ∧ u.cell? ⟨w.heap.size + 1, 1, none⟩ = some (.int .u64 (uv svl)) ∧ u.cell? ⟨w.heap.size + 1, 2, none⟩ = some (.int .u64 (uv sch)) ∧ u.cell? ⟨w.heap.size + 1, 3, none⟩ = some (.int .u64 (uv scl))) (Z : Zero2 u (w.heap.size + 1 + 1)) (t8 : Th (w.heap.size + 1 + 1 + 1) u b8) (t10 : Th (w.heap.size + 1 + 1 + 1) u b10) (n8_10 : b8 ≠ b10) (l : Array Bool) (hlst : l = #[true, false, true, true, false, true, true, false, true, false, true, false, false, false]) :
    wpAnyH Try.prog .any setOps Q (fun w' => Below w.heap.size w w' ∧ w'.cell? ⟨w.heap.size, 0, none⟩ = some (.int .u64 (uv hh)) ∧ w'.cell? ⟨w.heap.size, 1, none⟩ = some (.int .u64 (uv hl)) ∧ w'.cell? ⟨w.heap.size + 1, 0, none⟩ = some (.int .u64 (uv svh)) ∧ w'.cell? ⟨w.heap.size + 1, 1, none⟩ = some (.int .u64 (uv svl)) ∧ w'.cell? ⟨w.heap.size + 1, 2, none⟩ = some (.int .u64 (uv sch)) ∧ w'.cell? ⟨w.heap.size + 1, 3, none⟩ = some (.int .u64 (uv scl))) 7 l ⟨#[.agg #[.int .u64 (uv hh), .int .u64 (uv hl)], .agg #[.int .u64 (uv svh), .int .u64 (uv svl), .int .u64 (uv sch), .int .u64 (uv scl)], .pointer (some ⟨w.heap.size, 0, none⟩), .pointer (some ⟨w.heap.size + 1, 0, none⟩), .pointer (some ⟨w.heap.size + 1 + 1, 0, none⟩), .pointer (some ⟨b8, 0, none⟩), undef, .pointer (some ⟨b10, 0, none⟩), undef, .agg #[.int .u64 (uv hh), .int .u64 (uv hl)], undef, .pointer (some ⟨w.heap.size + 1, 0, none⟩), .agg #[.int .u64 (uv svh), .int .u64 (uv svl)], undef, .pointer (some ⟨w.heap.size + 1, 2, none⟩), .agg #[.int .u64 (uv sch), .int .u64 (uv scl)], undef, undef, undef, undef, undef, undef, undef, undef, undef, undef, undef, undef, undef, undef, undef], []⟩ u := by
  subst hlst
  have hz := zero25
  refine wpAnyH_ready (rs := [1, 9]) (by kernel_rfl) (by simp) ?_
  refine AllReadyH.cons (o := ⟨some 10, _, _, _, _, _⟩) rfl (fun K hK => ?_) ?_
  · go_simp
    (with_reducible refine (bits_c _ _ _).mono ?_)
    rintro e u1 ⟨rfl, hb⟩
    (try dsimp only)
    refine hK.out _ _ (hold6 hb hHeld) (fun hNext => ?_)
    exact set1_02 hh hl svh svl sch scl w Q hfin b8 b10 u1 hNext (Zero2.on hb Z) (t8.on hb) (t10.on hb) n8_10 _ (by kernel_rfl)
  refine AllReadyH.cons (o := ⟨some 6, _, _, _, _, _⟩) rfl (fun K hK => ?_) AllReadyH.nil
  go_simp
  have hb := below1 u (.cells (bl (fun _ => false)).toArray 92)
  refine hK.out _ _ (hold6 hb hHeld) (fun hNext => ?_)
  exact set0_012 hh hl svh svl sch scl w Q hfin b8 u.heap.size b10 _ hNext (Zero2.on hb Z) (t8.on hb) (Th.top u _ rfl (World.block_lt_of_cell? u ⟨w.heap.size + 1 + 1, 0, none⟩ (Z 0 (by omega)).1)) (t10.on hb) t8.ne n8_10 t10.ne.symm _ (by kernel_rfl)

set_option maxRecDepth 100000 in
set_option maxHeartbeats 2000000 in
theorem set0_12 (hh hl svh svl sch scl : BitVec 64) (w : World) (Q : Exit → Act → World → Prop)
    (hfin : ∀ (b8 b9 b10 : Nat) (u : World), Below w.heap.size w u → Zero2 u (w.heap.size + 1 + 1) → Row u b8 (hbit hh hl) → Row u b9 (hbit svh svl) → Row u b10 (hbit sch scl) → w.heap.size + 1 + 1 + 1 ≤ b8 → b8 ≠ b9 → b8 ≠ b10 → b9 ≠ b10 → Q .normal ⟨#[.agg #[.int .u64 (uv hh), .int .u64 (uv hl)], .agg #[.int .u64 (uv svh), .int .u64 (uv svl), .int .u64 (uv sch), .int .u64 (uv scl)], .pointer (some ⟨w.heap.size, 0, none⟩), .pointer (some ⟨w.heap.size + 1, 0, none⟩), .pointer (some ⟨w.heap.size + 1 + 1, 0, none⟩), .pointer (some ⟨b8, 0, none⟩), .pointer (some ⟨b9, 0, none⟩), .pointer (some ⟨b10, 0, none⟩), undef, .agg #[.int .u64 (uv hh), .int .u64 (uv hl)], .agg (bl (hbit hh hl)).toArray, .pointer (some ⟨w.heap.size + 1, 0, none⟩), .agg #[.int .u64 (uv svh), .int .u64 (uv svl)], .agg (bl (hbit svh svl)).toArray, .pointer (some ⟨w.heap.size + 1, 2, none⟩), .agg #[.int .u64 (uv sch), .int .u64 (uv scl)], .agg (bl (hbit sch scl)).toArray, undef, undef, undef, undef, undef, undef, undef, undef, undef, undef, undef, undef, undef, undef], []⟩ u)
    (b9 : Nat) (b10 : Nat) (u : World) (hHeld : Below w.heap.size w u ∧ u.cell? ⟨w.heap.size, 0, none⟩ = some (.int .u64 (uv hh)) ∧ u.cell? ⟨w.heap.size, 1, none⟩ = some (.int .u64 (uv hl)) ∧ u.cell? ⟨w.heap.size + 1, 0, none⟩ = some (.int .u64 (uv svh)) ∧ u.cell? ⟨w.heap.size + 1, 1, none⟩ = some (.int .u64 (uv svl)) ∧ u.cell? ⟨w.heap.size + 1, 2, none⟩ = some (.int .u64 (uv sch)) ∧ u.cell? ⟨w.heap.size + 1, 3, none⟩ = some (.int .u64 (uv scl))) (Z : Zero2 u (w.heap.size + 1 + 1)) (t9 : Th (w.heap.size + 1 + 1 + 1) u b9) (t10 : Th (w.heap.size + 1 + 1 + 1) u b10) (n9_10 : b9 ≠ b10) (l : Array Bool) (hlst : l = #[true, false, true, true, false, true, true, false, false, true, true, false, false, false]) :
    wpAnyH Try.prog .any setOps Q (fun w' => Below w.heap.size w w' ∧ w'.cell? ⟨w.heap.size, 0, none⟩ = some (.int .u64 (uv hh)) ∧ w'.cell? ⟨w.heap.size, 1, none⟩ = some (.int .u64 (uv hl)) ∧ w'.cell? ⟨w.heap.size + 1, 0, none⟩ = some (.int .u64 (uv svh)) ∧ w'.cell? ⟨w.heap.size + 1, 1, none⟩ = some (.int .u64 (uv svl)) ∧ w'.cell? ⟨w.heap.size + 1, 2, none⟩ = some (.int .u64 (uv sch)) ∧ w'.cell? ⟨w.heap.size + 1, 3, none⟩ = some (.int .u64 (uv scl))) 7 l ⟨#[.agg #[.int .u64 (uv hh), .int .u64 (uv hl)], .agg #[.int .u64 (uv svh), .int .u64 (uv svl), .int .u64 (uv sch), .int .u64 (uv scl)], .pointer (some ⟨w.heap.size, 0, none⟩), .pointer (some ⟨w.heap.size + 1, 0, none⟩), .pointer (some ⟨w.heap.size + 1 + 1, 0, none⟩), undef, .pointer (some ⟨b9, 0, none⟩), .pointer (some ⟨b10, 0, none⟩), undef, .agg #[.int .u64 (uv hh), .int .u64 (uv hl)], undef, .pointer (some ⟨w.heap.size + 1, 0, none⟩), .agg #[.int .u64 (uv svh), .int .u64 (uv svl)], undef, .pointer (some ⟨w.heap.size + 1, 2, none⟩), .agg #[.int .u64 (uv sch), .int .u64 (uv scl)], undef, undef, undef, undef, undef, undef, undef, undef, undef, undef, undef, undef, undef, undef, undef], []⟩ u := by
  subst hlst
  have hz := zero25
  refine wpAnyH_ready (rs := [1, 8]) (by kernel_rfl) (by simp) ?_
  refine AllReadyH.cons (o := ⟨some 10, _, _, _, _, _⟩) rfl (fun K hK => ?_) ?_
  · go_simp
    (with_reducible refine (bits_c _ _ _).mono ?_)
    rintro e u1 ⟨rfl, hb⟩
    (try dsimp only)
    refine hK.out _ _ (hold6 hb hHeld) (fun hNext => ?_)
    exact set1_12 hh hl svh svl sch scl w Q hfin b9 b10 u1 hNext (Zero2.on hb Z) (t9.on hb) (t10.on hb) n9_10 _ (by kernel_rfl)
  refine AllReadyH.cons (o := ⟨some 5, _, _, _, _, _⟩) rfl (fun K hK => ?_) AllReadyH.nil
  go_simp
  have hb := below1 u (.cells (bl (fun _ => false)).toArray 92)
  refine hK.out _ _ (hold6 hb hHeld) (fun hNext => ?_)
  exact set0_012 hh hl svh svl sch scl w Q hfin u.heap.size b9 b10 _ hNext (Zero2.on hb Z) (Th.top u _ rfl (World.block_lt_of_cell? u ⟨w.heap.size + 1 + 1, 0, none⟩ (Z 0 (by omega)).1)) (t9.on hb) (t10.on hb) t9.ne.symm t10.ne.symm n9_10 _ (by kernel_rfl)

set_option maxRecDepth 100000 in
set_option maxHeartbeats 2000000 in
theorem set0_0 (hh hl svh svl sch scl : BitVec 64) (w : World) (Q : Exit → Act → World → Prop)
    (hfin : ∀ (b8 b9 b10 : Nat) (u : World), Below w.heap.size w u → Zero2 u (w.heap.size + 1 + 1) → Row u b8 (hbit hh hl) → Row u b9 (hbit svh svl) → Row u b10 (hbit sch scl) → w.heap.size + 1 + 1 + 1 ≤ b8 → b8 ≠ b9 → b8 ≠ b10 → b9 ≠ b10 → Q .normal ⟨#[.agg #[.int .u64 (uv hh), .int .u64 (uv hl)], .agg #[.int .u64 (uv svh), .int .u64 (uv svl), .int .u64 (uv sch), .int .u64 (uv scl)], .pointer (some ⟨w.heap.size, 0, none⟩), .pointer (some ⟨w.heap.size + 1, 0, none⟩), .pointer (some ⟨w.heap.size + 1 + 1, 0, none⟩), .pointer (some ⟨b8, 0, none⟩), .pointer (some ⟨b9, 0, none⟩), .pointer (some ⟨b10, 0, none⟩), undef, .agg #[.int .u64 (uv hh), .int .u64 (uv hl)], .agg (bl (hbit hh hl)).toArray, .pointer (some ⟨w.heap.size + 1, 0, none⟩), .agg #[.int .u64 (uv svh), .int .u64 (uv svl)], .agg (bl (hbit svh svl)).toArray, .pointer (some ⟨w.heap.size + 1, 2, none⟩), .agg #[.int .u64 (uv sch), .int .u64 (uv scl)], .agg (bl (hbit sch scl)).toArray, undef, undef, undef, undef, undef, undef, undef, undef, undef, undef, undef, undef, undef, undef], []⟩ u)
    (b8 : Nat) (u : World) (hHeld : Below w.heap.size w u ∧ u.cell? ⟨w.heap.size, 0, none⟩ = some (.int .u64 (uv hh)) ∧ u.cell? ⟨w.heap.size, 1, none⟩ = some (.int .u64 (uv hl)) ∧ u.cell? ⟨w.heap.size + 1, 0, none⟩ = some (.int .u64 (uv svh)) ∧ u.cell? ⟨w.heap.size + 1, 1, none⟩ = some (.int .u64 (uv svl)) ∧ u.cell? ⟨w.heap.size + 1, 2, none⟩ = some (.int .u64 (uv sch)) ∧ u.cell? ⟨w.heap.size + 1, 3, none⟩ = some (.int .u64 (uv scl))) (Z : Zero2 u (w.heap.size + 1 + 1)) (t8 : Th (w.heap.size + 1 + 1 + 1) u b8) (l : Array Bool) (hlst : l = #[true, false, true, true, false, true, true, false, true, false, false, false, false, false]) :
    wpAnyH Try.prog .any setOps Q (fun w' => Below w.heap.size w w' ∧ w'.cell? ⟨w.heap.size, 0, none⟩ = some (.int .u64 (uv hh)) ∧ w'.cell? ⟨w.heap.size, 1, none⟩ = some (.int .u64 (uv hl)) ∧ w'.cell? ⟨w.heap.size + 1, 0, none⟩ = some (.int .u64 (uv svh)) ∧ w'.cell? ⟨w.heap.size + 1, 1, none⟩ = some (.int .u64 (uv svl)) ∧ w'.cell? ⟨w.heap.size + 1, 2, none⟩ = some (.int .u64 (uv sch)) ∧ w'.cell? ⟨w.heap.size + 1, 3, none⟩ = some (.int .u64 (uv scl))) 8 l ⟨#[.agg #[.int .u64 (uv hh), .int .u64 (uv hl)], .agg #[.int .u64 (uv svh), .int .u64 (uv svl), .int .u64 (uv sch), .int .u64 (uv scl)], .pointer (some ⟨w.heap.size, 0, none⟩), .pointer (some ⟨w.heap.size + 1, 0, none⟩), .pointer (some ⟨w.heap.size + 1 + 1, 0, none⟩), .pointer (some ⟨b8, 0, none⟩), undef, undef, undef, .agg #[.int .u64 (uv hh), .int .u64 (uv hl)], undef, .pointer (some ⟨w.heap.size + 1, 0, none⟩), .agg #[.int .u64 (uv svh), .int .u64 (uv svl)], undef, .pointer (some ⟨w.heap.size + 1, 2, none⟩), .agg #[.int .u64 (uv sch), .int .u64 (uv scl)], undef, undef, undef, undef, undef, undef, undef, undef, undef, undef, undef, undef, undef, undef, undef], []⟩ u := by
  subst hlst
  have hz := zero25
  refine wpAnyH_ready (rs := [1, 9, 10]) (by kernel_rfl) (by simp) ?_
  refine AllReadyH.cons (o := ⟨some 10, _, _, _, _, _⟩) rfl (fun K hK => ?_) ?_
  · go_simp
    (with_reducible refine (bits_c _ _ _).mono ?_)
    rintro e u1 ⟨rfl, hb⟩
    (try dsimp only)
    refine hK.out _ _ (hold6 hb hHeld) (fun hNext => ?_)
    exact set1_0 hh hl svh svl sch scl w Q hfin b8 u1 hNext (Zero2.on hb Z) (t8.on hb)  _ (by kernel_rfl)
  refine AllReadyH.cons (o := ⟨some 6, _, _, _, _, _⟩) rfl (fun K hK => ?_) ?_
  · go_simp
    have hb := below1 u (.cells (bl (fun _ => false)).toArray 92)
    refine hK.out _ _ (hold6 hb hHeld) (fun hNext => ?_)
    exact set0_01 hh hl svh svl sch scl w Q hfin b8 u.heap.size _ hNext (Zero2.on hb Z) (t8.on hb) (Th.top u _ rfl (World.block_lt_of_cell? u ⟨w.heap.size + 1 + 1, 0, none⟩ (Z 0 (by omega)).1)) t8.ne _ (by kernel_rfl)
  refine AllReadyH.cons (o := ⟨some 7, _, _, _, _, _⟩) rfl (fun K hK => ?_) AllReadyH.nil
  go_simp
  have hb := below1 u (.cells (bl (fun _ => false)).toArray 92)
  refine hK.out _ _ (hold6 hb hHeld) (fun hNext => ?_)
  exact set0_02 hh hl svh svl sch scl w Q hfin b8 u.heap.size _ hNext (Zero2.on hb Z) (t8.on hb) (Th.top u _ rfl (World.block_lt_of_cell? u ⟨w.heap.size + 1 + 1, 0, none⟩ (Z 0 (by omega)).1)) t8.ne _ (by kernel_rfl)

set_option maxRecDepth 100000 in
set_option maxHeartbeats 2000000 in
theorem set0_1 (hh hl svh svl sch scl : BitVec 64) (w : World) (Q : Exit → Act → World → Prop)
    (hfin : ∀ (b8 b9 b10 : Nat) (u : World), Below w.heap.size w u → Zero2 u (w.heap.size + 1 + 1) → Row u b8 (hbit hh hl) → Row u b9 (hbit svh svl) → Row u b10 (hbit sch scl) → w.heap.size + 1 + 1 + 1 ≤ b8 → b8 ≠ b9 → b8 ≠ b10 → b9 ≠ b10 → Q .normal ⟨#[.agg #[.int .u64 (uv hh), .int .u64 (uv hl)], .agg #[.int .u64 (uv svh), .int .u64 (uv svl), .int .u64 (uv sch), .int .u64 (uv scl)], .pointer (some ⟨w.heap.size, 0, none⟩), .pointer (some ⟨w.heap.size + 1, 0, none⟩), .pointer (some ⟨w.heap.size + 1 + 1, 0, none⟩), .pointer (some ⟨b8, 0, none⟩), .pointer (some ⟨b9, 0, none⟩), .pointer (some ⟨b10, 0, none⟩), undef, .agg #[.int .u64 (uv hh), .int .u64 (uv hl)], .agg (bl (hbit hh hl)).toArray, .pointer (some ⟨w.heap.size + 1, 0, none⟩), .agg #[.int .u64 (uv svh), .int .u64 (uv svl)], .agg (bl (hbit svh svl)).toArray, .pointer (some ⟨w.heap.size + 1, 2, none⟩), .agg #[.int .u64 (uv sch), .int .u64 (uv scl)], .agg (bl (hbit sch scl)).toArray, undef, undef, undef, undef, undef, undef, undef, undef, undef, undef, undef, undef, undef, undef], []⟩ u)
    (b9 : Nat) (u : World) (hHeld : Below w.heap.size w u ∧ u.cell? ⟨w.heap.size, 0, none⟩ = some (.int .u64 (uv hh)) ∧ u.cell? ⟨w.heap.size, 1, none⟩ = some (.int .u64 (uv hl)) ∧ u.cell? ⟨w.heap.size + 1, 0, none⟩ = some (.int .u64 (uv svh)) ∧ u.cell? ⟨w.heap.size + 1, 1, none⟩ = some (.int .u64 (uv svl)) ∧ u.cell? ⟨w.heap.size + 1, 2, none⟩ = some (.int .u64 (uv sch)) ∧ u.cell? ⟨w.heap.size + 1, 3, none⟩ = some (.int .u64 (uv scl))) (Z : Zero2 u (w.heap.size + 1 + 1)) (t9 : Th (w.heap.size + 1 + 1 + 1) u b9) (l : Array Bool) (hlst : l = #[true, false, true, true, false, true, true, false, false, true, false, false, false, false]) :
    wpAnyH Try.prog .any setOps Q (fun w' => Below w.heap.size w w' ∧ w'.cell? ⟨w.heap.size, 0, none⟩ = some (.int .u64 (uv hh)) ∧ w'.cell? ⟨w.heap.size, 1, none⟩ = some (.int .u64 (uv hl)) ∧ w'.cell? ⟨w.heap.size + 1, 0, none⟩ = some (.int .u64 (uv svh)) ∧ w'.cell? ⟨w.heap.size + 1, 1, none⟩ = some (.int .u64 (uv svl)) ∧ w'.cell? ⟨w.heap.size + 1, 2, none⟩ = some (.int .u64 (uv sch)) ∧ w'.cell? ⟨w.heap.size + 1, 3, none⟩ = some (.int .u64 (uv scl))) 8 l ⟨#[.agg #[.int .u64 (uv hh), .int .u64 (uv hl)], .agg #[.int .u64 (uv svh), .int .u64 (uv svl), .int .u64 (uv sch), .int .u64 (uv scl)], .pointer (some ⟨w.heap.size, 0, none⟩), .pointer (some ⟨w.heap.size + 1, 0, none⟩), .pointer (some ⟨w.heap.size + 1 + 1, 0, none⟩), undef, .pointer (some ⟨b9, 0, none⟩), undef, undef, .agg #[.int .u64 (uv hh), .int .u64 (uv hl)], undef, .pointer (some ⟨w.heap.size + 1, 0, none⟩), .agg #[.int .u64 (uv svh), .int .u64 (uv svl)], undef, .pointer (some ⟨w.heap.size + 1, 2, none⟩), .agg #[.int .u64 (uv sch), .int .u64 (uv scl)], undef, undef, undef, undef, undef, undef, undef, undef, undef, undef, undef, undef, undef, undef, undef], []⟩ u := by
  subst hlst
  have hz := zero25
  refine wpAnyH_ready (rs := [1, 8, 10]) (by kernel_rfl) (by simp) ?_
  refine AllReadyH.cons (o := ⟨some 10, _, _, _, _, _⟩) rfl (fun K hK => ?_) ?_
  · go_simp
    (with_reducible refine (bits_c _ _ _).mono ?_)
    rintro e u1 ⟨rfl, hb⟩
    (try dsimp only)
    refine hK.out _ _ (hold6 hb hHeld) (fun hNext => ?_)
    exact set1_1 hh hl svh svl sch scl w Q hfin b9 u1 hNext (Zero2.on hb Z) (t9.on hb)  _ (by kernel_rfl)
  refine AllReadyH.cons (o := ⟨some 5, _, _, _, _, _⟩) rfl (fun K hK => ?_) ?_
  · go_simp
    have hb := below1 u (.cells (bl (fun _ => false)).toArray 92)
    refine hK.out _ _ (hold6 hb hHeld) (fun hNext => ?_)
    exact set0_01 hh hl svh svl sch scl w Q hfin u.heap.size b9 _ hNext (Zero2.on hb Z) (Th.top u _ rfl (World.block_lt_of_cell? u ⟨w.heap.size + 1 + 1, 0, none⟩ (Z 0 (by omega)).1)) (t9.on hb) t9.ne.symm _ (by kernel_rfl)
  refine AllReadyH.cons (o := ⟨some 7, _, _, _, _, _⟩) rfl (fun K hK => ?_) AllReadyH.nil
  go_simp
  have hb := below1 u (.cells (bl (fun _ => false)).toArray 92)
  refine hK.out _ _ (hold6 hb hHeld) (fun hNext => ?_)
  exact set0_12 hh hl svh svl sch scl w Q hfin b9 u.heap.size _ hNext (Zero2.on hb Z) (t9.on hb) (Th.top u _ rfl (World.block_lt_of_cell? u ⟨w.heap.size + 1 + 1, 0, none⟩ (Z 0 (by omega)).1)) t9.ne _ (by kernel_rfl)

set_option maxRecDepth 100000 in
set_option maxHeartbeats 2000000 in
theorem set0_2 (hh hl svh svl sch scl : BitVec 64) (w : World) (Q : Exit → Act → World → Prop)
    (hfin : ∀ (b8 b9 b10 : Nat) (u : World), Below w.heap.size w u → Zero2 u (w.heap.size + 1 + 1) → Row u b8 (hbit hh hl) → Row u b9 (hbit svh svl) → Row u b10 (hbit sch scl) → w.heap.size + 1 + 1 + 1 ≤ b8 → b8 ≠ b9 → b8 ≠ b10 → b9 ≠ b10 → Q .normal ⟨#[.agg #[.int .u64 (uv hh), .int .u64 (uv hl)], .agg #[.int .u64 (uv svh), .int .u64 (uv svl), .int .u64 (uv sch), .int .u64 (uv scl)], .pointer (some ⟨w.heap.size, 0, none⟩), .pointer (some ⟨w.heap.size + 1, 0, none⟩), .pointer (some ⟨w.heap.size + 1 + 1, 0, none⟩), .pointer (some ⟨b8, 0, none⟩), .pointer (some ⟨b9, 0, none⟩), .pointer (some ⟨b10, 0, none⟩), undef, .agg #[.int .u64 (uv hh), .int .u64 (uv hl)], .agg (bl (hbit hh hl)).toArray, .pointer (some ⟨w.heap.size + 1, 0, none⟩), .agg #[.int .u64 (uv svh), .int .u64 (uv svl)], .agg (bl (hbit svh svl)).toArray, .pointer (some ⟨w.heap.size + 1, 2, none⟩), .agg #[.int .u64 (uv sch), .int .u64 (uv scl)], .agg (bl (hbit sch scl)).toArray, undef, undef, undef, undef, undef, undef, undef, undef, undef, undef, undef, undef, undef, undef], []⟩ u)
    (b10 : Nat) (u : World) (hHeld : Below w.heap.size w u ∧ u.cell? ⟨w.heap.size, 0, none⟩ = some (.int .u64 (uv hh)) ∧ u.cell? ⟨w.heap.size, 1, none⟩ = some (.int .u64 (uv hl)) ∧ u.cell? ⟨w.heap.size + 1, 0, none⟩ = some (.int .u64 (uv svh)) ∧ u.cell? ⟨w.heap.size + 1, 1, none⟩ = some (.int .u64 (uv svl)) ∧ u.cell? ⟨w.heap.size + 1, 2, none⟩ = some (.int .u64 (uv sch)) ∧ u.cell? ⟨w.heap.size + 1, 3, none⟩ = some (.int .u64 (uv scl))) (Z : Zero2 u (w.heap.size + 1 + 1)) (t10 : Th (w.heap.size + 1 + 1 + 1) u b10) (l : Array Bool) (hlst : l = #[true, false, true, true, false, true, true, false, false, false, true, false, false, false]) :
    wpAnyH Try.prog .any setOps Q (fun w' => Below w.heap.size w w' ∧ w'.cell? ⟨w.heap.size, 0, none⟩ = some (.int .u64 (uv hh)) ∧ w'.cell? ⟨w.heap.size, 1, none⟩ = some (.int .u64 (uv hl)) ∧ w'.cell? ⟨w.heap.size + 1, 0, none⟩ = some (.int .u64 (uv svh)) ∧ w'.cell? ⟨w.heap.size + 1, 1, none⟩ = some (.int .u64 (uv svl)) ∧ w'.cell? ⟨w.heap.size + 1, 2, none⟩ = some (.int .u64 (uv sch)) ∧ w'.cell? ⟨w.heap.size + 1, 3, none⟩ = some (.int .u64 (uv scl))) 8 l ⟨#[.agg #[.int .u64 (uv hh), .int .u64 (uv hl)], .agg #[.int .u64 (uv svh), .int .u64 (uv svl), .int .u64 (uv sch), .int .u64 (uv scl)], .pointer (some ⟨w.heap.size, 0, none⟩), .pointer (some ⟨w.heap.size + 1, 0, none⟩), .pointer (some ⟨w.heap.size + 1 + 1, 0, none⟩), undef, undef, .pointer (some ⟨b10, 0, none⟩), undef, .agg #[.int .u64 (uv hh), .int .u64 (uv hl)], undef, .pointer (some ⟨w.heap.size + 1, 0, none⟩), .agg #[.int .u64 (uv svh), .int .u64 (uv svl)], undef, .pointer (some ⟨w.heap.size + 1, 2, none⟩), .agg #[.int .u64 (uv sch), .int .u64 (uv scl)], undef, undef, undef, undef, undef, undef, undef, undef, undef, undef, undef, undef, undef, undef, undef], []⟩ u := by
  subst hlst
  have hz := zero25
  refine wpAnyH_ready (rs := [1, 8, 9]) (by kernel_rfl) (by simp) ?_
  refine AllReadyH.cons (o := ⟨some 10, _, _, _, _, _⟩) rfl (fun K hK => ?_) ?_
  · go_simp
    (with_reducible refine (bits_c _ _ _).mono ?_)
    rintro e u1 ⟨rfl, hb⟩
    (try dsimp only)
    refine hK.out _ _ (hold6 hb hHeld) (fun hNext => ?_)
    exact set1_2 hh hl svh svl sch scl w Q hfin b10 u1 hNext (Zero2.on hb Z) (t10.on hb)  _ (by kernel_rfl)
  refine AllReadyH.cons (o := ⟨some 5, _, _, _, _, _⟩) rfl (fun K hK => ?_) ?_
  · go_simp
    have hb := below1 u (.cells (bl (fun _ => false)).toArray 92)
    refine hK.out _ _ (hold6 hb hHeld) (fun hNext => ?_)
    exact set0_02 hh hl svh svl sch scl w Q hfin u.heap.size b10 _ hNext (Zero2.on hb Z) (Th.top u _ rfl (World.block_lt_of_cell? u ⟨w.heap.size + 1 + 1, 0, none⟩ (Z 0 (by omega)).1)) (t10.on hb) t10.ne.symm _ (by kernel_rfl)
  refine AllReadyH.cons (o := ⟨some 6, _, _, _, _, _⟩) rfl (fun K hK => ?_) AllReadyH.nil
  go_simp
  have hb := below1 u (.cells (bl (fun _ => false)).toArray 92)
  refine hK.out _ _ (hold6 hb hHeld) (fun hNext => ?_)
  exact set0_12 hh hl svh svl sch scl w Q hfin u.heap.size b10 _ hNext (Zero2.on hb Z) (Th.top u _ rfl (World.block_lt_of_cell? u ⟨w.heap.size + 1 + 1, 0, none⟩ (Z 0 (by omega)).1)) (t10.on hb) t10.ne.symm _ (by kernel_rfl)

set_option maxRecDepth 100000 in
set_option maxHeartbeats 2000000 in
theorem set0_ (hh hl svh svl sch scl : BitVec 64) (w : World) (Q : Exit → Act → World → Prop)
    (hfin : ∀ (b8 b9 b10 : Nat) (u : World), Below w.heap.size w u → Zero2 u (w.heap.size + 1 + 1) → Row u b8 (hbit hh hl) → Row u b9 (hbit svh svl) → Row u b10 (hbit sch scl) → w.heap.size + 1 + 1 + 1 ≤ b8 → b8 ≠ b9 → b8 ≠ b10 → b9 ≠ b10 → Q .normal ⟨#[.agg #[.int .u64 (uv hh), .int .u64 (uv hl)], .agg #[.int .u64 (uv svh), .int .u64 (uv svl), .int .u64 (uv sch), .int .u64 (uv scl)], .pointer (some ⟨w.heap.size, 0, none⟩), .pointer (some ⟨w.heap.size + 1, 0, none⟩), .pointer (some ⟨w.heap.size + 1 + 1, 0, none⟩), .pointer (some ⟨b8, 0, none⟩), .pointer (some ⟨b9, 0, none⟩), .pointer (some ⟨b10, 0, none⟩), undef, .agg #[.int .u64 (uv hh), .int .u64 (uv hl)], .agg (bl (hbit hh hl)).toArray, .pointer (some ⟨w.heap.size + 1, 0, none⟩), .agg #[.int .u64 (uv svh), .int .u64 (uv svl)], .agg (bl (hbit svh svl)).toArray, .pointer (some ⟨w.heap.size + 1, 2, none⟩), .agg #[.int .u64 (uv sch), .int .u64 (uv scl)], .agg (bl (hbit sch scl)).toArray, undef, undef, undef, undef, undef, undef, undef, undef, undef, undef, undef, undef, undef, undef], []⟩ u)
    (u : World) (hHeld : Below w.heap.size w u ∧ u.cell? ⟨w.heap.size, 0, none⟩ = some (.int .u64 (uv hh)) ∧ u.cell? ⟨w.heap.size, 1, none⟩ = some (.int .u64 (uv hl)) ∧ u.cell? ⟨w.heap.size + 1, 0, none⟩ = some (.int .u64 (uv svh)) ∧ u.cell? ⟨w.heap.size + 1, 1, none⟩ = some (.int .u64 (uv svl)) ∧ u.cell? ⟨w.heap.size + 1, 2, none⟩ = some (.int .u64 (uv sch)) ∧ u.cell? ⟨w.heap.size + 1, 3, none⟩ = some (.int .u64 (uv scl))) (Z : Zero2 u (w.heap.size + 1 + 1)) (l : Array Bool) (hlst : l = #[true, false, true, true, false, true, true, false, false, false, false, false, false, false]) :
    wpAnyH Try.prog .any setOps Q (fun w' => Below w.heap.size w w' ∧ w'.cell? ⟨w.heap.size, 0, none⟩ = some (.int .u64 (uv hh)) ∧ w'.cell? ⟨w.heap.size, 1, none⟩ = some (.int .u64 (uv hl)) ∧ w'.cell? ⟨w.heap.size + 1, 0, none⟩ = some (.int .u64 (uv svh)) ∧ w'.cell? ⟨w.heap.size + 1, 1, none⟩ = some (.int .u64 (uv svl)) ∧ w'.cell? ⟨w.heap.size + 1, 2, none⟩ = some (.int .u64 (uv sch)) ∧ w'.cell? ⟨w.heap.size + 1, 3, none⟩ = some (.int .u64 (uv scl))) 9 l ⟨#[.agg #[.int .u64 (uv hh), .int .u64 (uv hl)], .agg #[.int .u64 (uv svh), .int .u64 (uv svl), .int .u64 (uv sch), .int .u64 (uv scl)], .pointer (some ⟨w.heap.size, 0, none⟩), .pointer (some ⟨w.heap.size + 1, 0, none⟩), .pointer (some ⟨w.heap.size + 1 + 1, 0, none⟩), undef, undef, undef, undef, .agg #[.int .u64 (uv hh), .int .u64 (uv hl)], undef, .pointer (some ⟨w.heap.size + 1, 0, none⟩), .agg #[.int .u64 (uv svh), .int .u64 (uv svl)], undef, .pointer (some ⟨w.heap.size + 1, 2, none⟩), .agg #[.int .u64 (uv sch), .int .u64 (uv scl)], undef, undef, undef, undef, undef, undef, undef, undef, undef, undef, undef, undef, undef, undef, undef], []⟩ u := by
  subst hlst
  have hz := zero25
  refine wpAnyH_ready (rs := [1, 8, 9, 10]) (by kernel_rfl) (by simp) ?_
  refine AllReadyH.cons (o := ⟨some 10, _, _, _, _, _⟩) rfl (fun K hK => ?_) ?_
  · go_simp
    (with_reducible refine (bits_c _ _ _).mono ?_)
    rintro e u1 ⟨rfl, hb⟩
    (try dsimp only)
    refine hK.out _ _ (hold6 hb hHeld) (fun hNext => ?_)
    exact set1_ hh hl svh svl sch scl w Q hfin u1 hNext (Zero2.on hb Z)  _ (by kernel_rfl)
  refine AllReadyH.cons (o := ⟨some 5, _, _, _, _, _⟩) rfl (fun K hK => ?_) ?_
  · go_simp
    have hb := below1 u (.cells (bl (fun _ => false)).toArray 92)
    refine hK.out _ _ (hold6 hb hHeld) (fun hNext => ?_)
    exact set0_0 hh hl svh svl sch scl w Q hfin u.heap.size _ hNext (Zero2.on hb Z) (Th.top u _ rfl (World.block_lt_of_cell? u ⟨w.heap.size + 1 + 1, 0, none⟩ (Z 0 (by omega)).1))  _ (by kernel_rfl)
  refine AllReadyH.cons (o := ⟨some 6, _, _, _, _, _⟩) rfl (fun K hK => ?_) ?_
  · go_simp
    have hb := below1 u (.cells (bl (fun _ => false)).toArray 92)
    refine hK.out _ _ (hold6 hb hHeld) (fun hNext => ?_)
    exact set0_1 hh hl svh svl sch scl w Q hfin u.heap.size _ hNext (Zero2.on hb Z) (Th.top u _ rfl (World.block_lt_of_cell? u ⟨w.heap.size + 1 + 1, 0, none⟩ (Z 0 (by omega)).1))  _ (by kernel_rfl)
  refine AllReadyH.cons (o := ⟨some 7, _, _, _, _, _⟩) rfl (fun K hK => ?_) AllReadyH.nil
  go_simp
  have hb := below1 u (.cells (bl (fun _ => false)).toArray 92)
  refine hK.out _ _ (hold6 hb hHeld) (fun hNext => ?_)
  exact set0_2 hh hl svh svl sch scl w Q hfin u.heap.size _ hNext (Zero2.on hb Z) (Th.top u _ rfl (World.block_lt_of_cell? u ⟨w.heap.size + 1 + 1, 0, none⟩ (Z 0 (by omega)).1))  _ (by kernel_rfl)

set_option maxRecDepth 100000 in
set_option maxHeartbeats 2000000 in
theorem set_region (hh hl svh svl sch scl : BitVec 64) (w W : World) (Q : Exit → Act → World → Prop) (hq : ∀ c a t v w, Q (.panic c) (Act.put a (some t) v) w → Q (.panic c) a w)
    (hfin : ∀ (b8 b9 b10 : Nat) (u : World), Below w.heap.size w u → Zero2 u (w.heap.size + 1 + 1) → Row u b8 (hbit hh hl) → Row u b9 (hbit svh svl) → Row u b10 (hbit sch scl) → w.heap.size + 1 + 1 + 1 ≤ b8 → b8 ≠ b9 → b8 ≠ b10 → b9 ≠ b10 → Q .normal ⟨#[.agg #[.int .u64 (uv hh), .int .u64 (uv hl)], .agg #[.int .u64 (uv svh), .int .u64 (uv svl), .int .u64 (uv sch), .int .u64 (uv scl)], .pointer (some ⟨w.heap.size, 0, none⟩), .pointer (some ⟨w.heap.size + 1, 0, none⟩), .pointer (some ⟨w.heap.size + 1 + 1, 0, none⟩), .pointer (some ⟨b8, 0, none⟩), .pointer (some ⟨b9, 0, none⟩), .pointer (some ⟨b10, 0, none⟩), undef, .agg #[.int .u64 (uv hh), .int .u64 (uv hl)], .agg (bl (hbit hh hl)).toArray, .pointer (some ⟨w.heap.size + 1, 0, none⟩), .agg #[.int .u64 (uv svh), .int .u64 (uv svl)], .agg (bl (hbit svh svl)).toArray, .pointer (some ⟨w.heap.size + 1, 2, none⟩), .agg #[.int .u64 (uv sch), .int .u64 (uv scl)], .agg (bl (hbit sch scl)).toArray, undef, undef, undef, undef, undef, undef, undef, undef, undef, undef, undef, undef, undef, undef], []⟩ u)
    (hS : Below w.heap.size w W ∧ W.cell? ⟨w.heap.size, 0, none⟩ = some (.int .u64 (uv hh)) ∧ W.cell? ⟨w.heap.size, 1, none⟩ = some (.int .u64 (uv hl)) ∧ W.cell? ⟨w.heap.size + 1, 0, none⟩ = some (.int .u64 (uv svh)) ∧ W.cell? ⟨w.heap.size + 1, 1, none⟩ = some (.int .u64 (uv svl)) ∧ W.cell? ⟨w.heap.size + 1, 2, none⟩ = some (.int .u64 (uv sch)) ∧ W.cell? ⟨w.heap.size + 1, 3, none⟩ = some (.int .u64 (uv scl))) (Z0 : Zero2 W (w.heap.size + 1 + 1)) : (Code.region 1 setOps true).wp Try.prog Q ⟨#[.agg #[.int .u64 (uv hh), .int .u64 (uv hl)], .agg #[.int .u64 (uv svh), .int .u64 (uv svl), .int .u64 (uv sch), .int .u64 (uv scl)], .pointer (some ⟨w.heap.size, 0, none⟩), .pointer (some ⟨w.heap.size + 1, 0, none⟩), .pointer (some ⟨w.heap.size + 1 + 1, 0, none⟩), undef, undef, undef, undef, undef, undef, undef, undef, undef, undef, undef, undef, undef, undef, undef, undef, undef, undef, undef, undef, undef, undef, undef, undef, undef, undef], []⟩ W := by
  refine wp_region_held_drew (S := fun w' => Below w.heap.size w w' ∧ w'.cell? ⟨w.heap.size, 0, none⟩ = some (.int .u64 (uv hh)) ∧ w'.cell? ⟨w.heap.size, 1, none⟩ = some (.int .u64 (uv hl)) ∧ w'.cell? ⟨w.heap.size + 1, 0, none⟩ = some (.int .u64 (uv svh)) ∧ w'.cell? ⟨w.heap.size + 1, 1, none⟩ = some (.int .u64 (uv svl)) ∧ w'.cell? ⟨w.heap.size + 1, 2, none⟩ = some (.int .u64 (uv sch)) ∧ w'.cell? ⟨w.heap.size + 1, 3, none⟩ = some (.int .u64 (uv scl))) (by kernel_rfl) ⟨hS.1.drew, hS.2⟩ (fun hHeld => ?_)
  have Z : Zero2 W.drew (w.heap.size + 1 + 1) := Z0
  clear hS Z0
  refine wpAnyH_take (i := 0) (oi := ⟨some 9, _, _, _, _, _⟩) (v := ?v0) rfl (by kernel_rfl) (by kernel_rfl) (by kernel_rfl) (fun c a w h => hq c a _ _ w h) (Or.inl ⟨by rfl, ?y0⟩) hHeld ?r0
  case y0 => (intro w' hSw; (try dsimp only at hSw); go_simp; try (with_reducible rfl))
  simp only [Act.put, List.setIfInBounds_toArray, List.set_cons_zero, List.set_cons_succ]
  refine wpAnyH_take (i := 2) (oi := ⟨some 11, _, _, _, _, _⟩) (v := ?v2) rfl (by kernel_rfl) (by kernel_rfl) (by kernel_rfl) (fun c a w h => hq c a _ _ w h) (Or.inl ⟨by rfl, ?y2⟩) hHeld ?r2
  case y2 => (intro w' hSw; (try dsimp only at hSw); go_simp; try (with_reducible rfl))
  simp only [Act.put, List.setIfInBounds_toArray, List.set_cons_zero, List.set_cons_succ]
  refine wpAnyH_take (i := 3) (oi := ⟨some 12, _, _, _, _, _⟩) (v := ?v3) rfl (by kernel_rfl) (by kernel_rfl) (by kernel_rfl) (fun c a w h => hq c a _ _ w h) (Or.inl ⟨by rfl, ?y3⟩) hHeld ?r3
  case y3 => (intro w' hSw; (try dsimp only at hSw); go_simp; try (with_reducible rfl))
  simp only [Act.put, List.setIfInBounds_toArray, List.set_cons_zero, List.set_cons_succ]
  refine wpAnyH_take (i := 5) (oi := ⟨some 14, _, _, _, _, _⟩) (v := ?v5) rfl (by kernel_rfl) (by kernel_rfl) (by kernel_rfl) (fun c a w h => hq c a _ _ w h) (Or.inl ⟨by rfl, ?y5⟩) hHeld ?r5
  case y5 => (intro w' hSw; (try dsimp only at hSw); go_simp; try (with_reducible rfl))
  simp only [Act.put, List.setIfInBounds_toArray, List.set_cons_zero, List.set_cons_succ]
  refine wpAnyH_take (i := 6) (oi := ⟨some 15, _, _, _, _, _⟩) (v := ?v6) rfl (by kernel_rfl) (by kernel_rfl) (by kernel_rfl) (fun c a w h => hq c a _ _ w h) (Or.inl ⟨by rfl, ?y6⟩) hHeld ?r6
  case y6 => (intro w' hSw; (try dsimp only at hSw); go_simp; try (with_reducible rfl))
  simp only [Act.put, List.setIfInBounds_toArray, List.set_cons_zero, List.set_cons_succ]
  exact set0_ hh hl svh svl sch scl w Q hfin _ hHeld Z _ (by kernel_rfl)
end Go.Proofs
