/-
  Cubes without duplicates, in the order in which they first came, in memory; contract of (*distinct).add. Conditions as each theorem lists them.
  Contracts of package config: sized. Conditions as the theorem lists them.
-/
import Derived.Test.YtanliiopdhjhjaaJ7
import Derived.Deep.RegionHeld3
import Derived.Deep.DeepCutAuto
import Derived.Deep.Light
namespace Go.Proofs.Hd
open Go.RowKit
/-- Block B holds the list, each cube once; its blocks are those of S. -/
def DsAt (w : World) (B : Nat) (l : List Cb) (S : Nat → Prop) : Prop := ∃ (sv : Value) (mb : Option Nat), Blk w B 72 #[sv, .map mb] ∧ w.ownsRow (B + 1) 43 4 sv l.length (flat l) ∧ StAt w (.map mb) l ∧ (∀ M, mb = some M → B < M ∧ sv.ownBlock ≠ some M) ∧ ∀ x, S x ↔ x = B ∨ mb = some x ∨ sv.ownBlock = some x
/-- What is new of the blocks. -/
def NwD (w : World) (S S' : Nat → Prop) : Prop := ∀ x, S' x → S x ∨ w.heap.size ≤ x
theorem own_ge {w : World} {base e size n : Nat} {v : Value} {xs : List Value} (h : w.ownsRow base e size v n xs) {g : Nat} (hg : v.ownBlock = some g) : base ≤ g := (h.lt g hg).1
theorem DsAt.ch {Q : Nat → Prop} {w w' : World} {B : Nat} {l : List Cb} {S : Nat → Prop} (h : DsAt w B l S) (hc : Ch Q w w') (hS : ∀ x, S x → ¬ Q x) : DsAt w' B l S := by
  obtain ⟨sv, mb, h1, h2, h3, h4, h5⟩ := h
  exact ⟨sv, mb, hc.blk h1 (hS B ((h5 B).2 (.inl rfl))), hc.own h2 (fun g hg => hS g ((h5 g).2 (.inr (.inr hg)))), h3.ch hc (fun M hM => hS M ((h5 M).2 (.inr (.inl hM)))), h4, h5⟩
theorem DsAt.on {w w' : World} {B : Nat} {l : List Cb} {S : Nat → Prop} (h : DsAt w B l S) (hb : Below w.heap.size w w') : DsAt w' B l S := h.ch (Q := fun _ => False) (Ch.of_below hb) (fun _ _ h => h)
theorem DsAt.ge {w : World} {B : Nat} {l : List Cb} {S : Nat → Prop} (h : DsAt w B l S) {x : Nat} (hx : S x) : B ≤ x ∧ x < w.heap.size := by
  obtain ⟨sv, mb, h1, h2, h3, h4, h5⟩ := h
  rcases (h5 x).1 hx with rfl | h | h
  · exact ⟨Nat.le_refl _, h1.lt⟩
  · exact ⟨by have := (h4 x h).1; omega, h3.lt x h⟩
  · exact ⟨by have := (h2.lt x h).1; omega, (h2.lt x h).2⟩
theorem DsAt.made (w : World) : DsAt (w.alloc (.cells #[.slice none 0 0, .map none] 72)) w.heap.size [] (· = w.heap.size) :=
  ⟨.slice none 0 0, none, Blk.new w _ _, World.ownsRow_nil _ _ _ _, .inl ⟨rfl, rfl⟩, (fun _ h => by cases h), (fun x => by simp [Value.ownBlock])⟩
/-- What a call of add leaves. -/
def DsTo (w : World) (B : Nat) (l' : List Cb) (S : Nat → Prop) (e : Ending) (w' : World) : Prop := ∃ S', e = .returned (.tuple #[]) ∧ DsAt w' B l' S' ∧ NwD w S S' ∧ Ch S w w'
theorem ch_thenD {S Q : Nat → Prop} {a b c : World} (h : Ch S a b) (k : Ch Q b c) (hq : ∀ x, x < a.heap.size → Q x → S x) : Ch S a c :=
  ⟨k.os.trans h.os, k.tape.trans h.tape, k.output.trans h.output, Nat.le_trans h.size k.size, fun i hi hn => (k.block i (Nat.lt_of_lt_of_le hi h.size) (fun e => hn (hq i hi e))).trans (h.block i hi hn)⟩
theorem src_cbD {w : World} {g : Nat} {c : Cb} (h : Blk w g 43 #[.int .u64 (uv c.vh), .int .u64 (uv c.vl), .int .u64 (uv c.ch), .int .u64 (uv c.cl)]) : Src w 4 (.slice (some ⟨g, 0, none⟩) 1 1) 1 (flat [c]) := ⟨rfl, fun u hu => flat_one [c] u hu, .inr ⟨_, _, rfl, fun j u hj => by
  match j, hj with
  | 0, hj => exact (h.cell 0).trans hj
  | 1, hj => exact (h.cell 1).trans hj
  | 2, hj => exact (h.cell 2).trans hj
  | 3, hj => exact (h.cell 3).trans hj
  | j + 4, hj => simp [flat, Cb.cells] at hj⟩⟩
section
variable {P : Program} (w : World)
theorem step_appD {ops : Array Oper} {o : Oper} {a : Act} {K : Act → World → Prop} {Q : Exit → Act → World → Prop} {E : Prop} (hgd : o.guard = none) (s x : Operand) (t : TypeId)
    (ho : o.op = .call { callee := .builtin .append, args := #[s, x], argTypes := #[t, t] }) (base : Nat) (e : TypeId) (i : TypeInfo) (z : Value) (size bytes : Nat) (ht : P.underlying t = some (.slice e)) (hi : P.info? e = some i) (hz : i.zero = some z)
    (hsize : i.size = size) (hby : i.bytes = bytes) (hzs : z.cells.size = size) (hsz : 0 < size) (v : Value) (n : Nat) (xs : List Value) (hs : a.eval s = v) (hown : w.ownsRow base e size v n xs)
    (y : Value) (m : Nat) (news : List Value) (hy : a.eval x = y) (hx : Src w size y m news) (h63 : n + m ≤ maxLen) (hbytes : (n + m) * bytes ≤ 140737488355328) (hbase : base ≤ w.heap.size)
    (h : ∀ v' w', w'.ownsRow base e size v' (n + m) (xs ++ news) → Grw w w' v.ownBlock v'.ownBlock → K (a.put o.dst v') w') :
    if Region.wanted o (yielded ops a.tmps) = true then Oper.wp P o a w K Q else E := by
  have hw : Region.wanted o (yielded ops a.tmps) = true := by simp [Region.wanted, hgd]
  rw [if_pos hw]
  obtain ⟨v', w', hr, h2, h3⟩ := run_app2 (P := P) w base t o.type e i z size bytes ht hi hz hsize hby hzs hsz v n xs hown y m news hx h63 hbytes hbase
  exact Lib.wp_append_run w s x t t ho v y hs hy v' w' hr (h v' w' h2 h3)
end
theorem flat_snocD (l : List Cb) (c : Cb) : flat (l ++ [c]) = flat l ++ flat [c] := by unfold flat; rw [List.flatMap_append]
theorem own_slD {w : World} {base : Nat} {t : TypeId} {size n : Nat} {v : Value} {xs : List Value} (h : w.ownsRow base t size v n xs) : ∃ A cap, v = .slice A n cap := by
  rcases h.2 with ⟨rfl, rfl⟩ | ⟨g, cap, cur, rfl, _⟩
  · exact ⟨none, 0, rfl⟩
  · exact ⟨_, cap, rfl⟩
end Go.Proofs.Hd
namespace Go.Proofs
open Go.RowKit Go.Proofs.Hd Go.Lib
attribute [local go_sem] uv_nonneg
theorem infoCbD : (Try.prog.info? 43).map (fun i => (i.zero, i.size, i.bytes)) = some (some (.agg #[.int .u64 0, .int .u64 0, .int .u64 0, .int .u64 0]), 4, 32) := by kernel_rfl
theorem eqlD_some (M : Nat) (W : World) : (Go.binOp BinOp.eql 70 (.map (some M)) (.map none)).run Try.prog W = .ok (.bool false) W := by kernel_rfl
theorem eqlD_none (W : World) : (Go.binOp BinOp.eql 70 (.map none) (.map none)).run Try.prog W = .ok (.bool true) W := by kernel_rfl
attribute [local go_sem] eqlD_some eqlD_none
set_option maxRecDepth 100000 in
set_option maxHeartbeats 4000000 in
theorem dadd_there (c : Cb) (B : Nat) (l : List Cb) (sv : Value) (mb : Option Nat) (w : World) (hN : Blk w B 72 #[sv, .map mb]) (hO : w.ownsRow (B + 1) 43 4 sv l.length (flat l)) (hSt : StAt w (.map mb) l) (hin : decide (c ∈ l) = true) : Calls Try.prog 23 #[.pointer (some ⟨B, 0, none⟩), .agg #[.int .u64 (uv c.vh), .int .u64 (uv c.vl), .int .u64 (uv c.ch), .int .u64 (uv c.cl)]] w fun e w' => e = .returned (.tuple #[]) ∧ Below w.heap.size w w' := by
  have hb1 := below1 w (.cells #[.int .u64 (uv c.vh), .int .u64 (uv c.vl), .int .u64 (uv c.ch), .int .u64 (uv c.cl)] 43)
  have HX : Hid (Blk (w.alloc (.cells #[.int .u64 (uv c.vh), .int .u64 (uv c.vl), .int .u64 (uv c.ch), .int .u64 (uv c.cl)] 43)) w.heap.size 43 #[.int .u64 (uv c.vh), .int .u64 (uv c.vl), .int .u64 (uv c.ch), .int .u64 (uv c.cl)]) := Blk.new w _ _
  have HN := Lib.hid (hN.on hb1)
  have HST := Lib.hid (hSt.ch (Q := fun _ => False) (Ch.of_below hb1) (fun _ _ h => h))
  have HS := Lib.hid hb1
  have HIN := Lib.hid hin
  have HO := Lib.hid (own_on hO hb1)
  clear hb1 hN hSt hin hO
  go_enter Try.func23, Try.ntmps23
  go_upto_region 1 with (fail)
  generalize w.alloc (.cells #[.int .u64 (uv c.vh), .int .u64 (uv c.vl), .int .u64 (uv c.ch), .int .u64 (uv c.cl)] 43) = w1 at HX HS HN HST HO ⊢
  generalize hbx : w.heap.size = bx at HX HS ⊢
  have HE := Lib.hid hbx
  clear hbx
  have HKP : Hid (∀ W, Below w1.heap.size w1 W → (Below w1.heap.size w1 W ∧ W.cell? ⟨B, 1, none⟩ = some (.map mb) ∧ W.cell? ⟨bx, 0, none⟩ = some (.int .u64 (uv c.vh)) ∧ W.cell? ⟨bx, 1, none⟩ = some (.int .u64 (uv c.vl)) ∧ W.cell? ⟨bx, 2, none⟩ = some (.int .u64 (uv c.ch)) ∧ W.cell? ⟨bx, 3, none⟩ = some (.int .u64 (uv c.cl)) ∧ (Instr.lookup 70 (.map mb) (.agg #[.int .u64 (uv c.vh), .int .u64 (uv c.vl), .int .u64 (uv c.ch), .int .u64 (uv c.cl)]) true).run Try.prog W = .ok (.tuple #[.agg #[], .bool true]) W)) := fun W hb => ⟨hb, ((HN.out.on hb).cell 1).trans rfl, ((HX.out.on hb).cell 0).trans rfl, ((HX.out.on hb).cell 1).trans rfl, ((HX.out.on hb).cell 2).trans rfl, ((HX.out.on hb).cell 3).trans rfl, by have := st_look c (HST.out.ch (Q := fun _ => False) (Ch.of_below hb) (fun _ _ h => h)); rw [HIN.out] at this; exact this⟩
  refine wp_region_held_drew (S := fun w' => Below w1.heap.size w1 w' ∧ w'.cell? ⟨B, 1, none⟩ = some (.map mb) ∧ w'.cell? ⟨bx, 0, none⟩ = some (.int .u64 (uv c.vh)) ∧ w'.cell? ⟨bx, 1, none⟩ = some (.int .u64 (uv c.vl)) ∧ w'.cell? ⟨bx, 2, none⟩ = some (.int .u64 (uv c.ch)) ∧ w'.cell? ⟨bx, 3, none⟩ = some (.int .u64 (uv c.cl)) ∧ (Instr.lookup 70 (.map mb) (.agg #[.int .u64 (uv c.vh), .int .u64 (uv c.vl), .int .u64 (uv c.ch), .int .u64 (uv c.cl)]) true).run Try.prog w' = .ok (.tuple #[.agg #[], .bool true]) w') (by kernel_rfl) (HKP.out _ (Below.refl _ w1).drew) (fun hHeld => ?_)
  have hB : Below w1.heap.size w1 w1.drew := (Below.refl _ w1).drew
  generalize w1.drew = u0 at hHeld hB ⊢
  refine wpAnyH_take (i := 0) (oi := ⟨some 7, _, _, _, _, _⟩) (v := ?vy0_1) rfl (by kernel_rfl) (by kernel_rfl) (by kernel_rfl) (fun _ _ _ h => h) (Or.inl ⟨by rfl, ?yy0_1⟩) hHeld ?ry0_1
  case yy0_1 => (intro w' hSw; (try dsimp only at hSw); go_simp; try (with_reducible rfl))
  simp only [Act.put, List.setIfInBounds_toArray, List.set_cons_zero, List.set_cons_succ]
  refine wpAnyH_take (i := 1) (oi := ⟨some 8, _, _, _, _, _⟩) (v := ?vy1_2) rfl (by kernel_rfl) (by kernel_rfl) (by kernel_rfl) (fun _ _ _ h => h) (Or.inl ⟨by rfl, ?yy1_2⟩) hHeld ?ry1_2
  case yy1_2 => (intro w' hSw; (try dsimp only at hSw); go_simp; try (with_reducible rfl))
  simp only [Act.put, List.setIfInBounds_toArray, List.set_cons_zero, List.set_cons_succ]
  refine wpAnyH_take (i := 2) (oi := ⟨some 9, _, _, _, _, _⟩) (v := ?vy2_3) rfl (by kernel_rfl) (by kernel_rfl) (by kernel_rfl) (fun _ _ _ h => h) (Or.inl ⟨by rfl, ?yy2_3⟩) hHeld ?ry2_3
  case yy2_3 => (intro w' hSw; (try dsimp only at hSw); go_simp; try (with_reducible rfl))
  simp only [Act.put, List.setIfInBounds_toArray, List.set_cons_zero, List.set_cons_succ]
  refine wpAnyH_take (i := 3) (oi := ⟨some 10, _, _, _, _, _⟩) (v := ?vy3_4) rfl (by kernel_rfl) (by kernel_rfl) (by kernel_rfl) (fun _ _ _ h => h) (Or.inl ⟨by rfl, ?yy3_4⟩) hHeld ?ry3_4
  case yy3_4 => (intro w' hSw; (try dsimp only at hSw); go_simp; try (with_reducible rfl))
  simp only [Act.put, List.setIfInBounds_toArray, List.set_cons_zero, List.set_cons_succ]
  refine wpAnyH_take (i := 4) (oi := ⟨some 11, _, _, _, _, _⟩) (v := ?vy4_5) rfl (by kernel_rfl) (by kernel_rfl) (by kernel_rfl) (fun _ _ _ h => h) (Or.inl ⟨by rfl, ?yy4_5⟩) hHeld ?ry4_5
  case yy4_5 => (intro w' hSw; (try dsimp only at hSw); go_simp; try (with_reducible rfl))
  simp only [Act.put, List.setIfInBounds_toArray, List.set_cons_zero, List.set_cons_succ]
  refine wpAnyH_take (i := 5) (oi := ⟨some 12, _, _, _, _, _⟩) (v := ?vy5_6) rfl (by kernel_rfl) (by kernel_rfl) (by kernel_rfl) (fun _ _ _ h => h) (Or.inl ⟨by rfl, ?yy5_6⟩) hHeld ?ry5_6
  case yy5_6 => (intro w' hSw; (try dsimp only at hSw); go_simp; try (with_reducible rfl))
  simp only [Act.put, List.setIfInBounds_toArray, List.set_cons_zero, List.set_cons_succ]
  refine wpAnyH_take (i := 6) (oi := ⟨some 6, _, _, _, _, _⟩) (v := ?vy6_7) rfl (by kernel_rfl) (by kernel_rfl) (by kernel_rfl) (fun _ _ _ h => h) (Or.inl ⟨by rfl, ?yy6_7⟩) hHeld ?ry6_7
  case yy6_7 => (intro w' hSw; (try dsimp only at hSw); go_simp; try (with_reducible rfl))
  simp only [Act.put, List.setIfInBounds_toArray, List.set_cons_zero, List.set_cons_succ]
  refine wpAnyH_take (i := 7) (oi := ⟨some 13, _, _, _, _, _⟩) (v := ?vy7_8) rfl (by kernel_rfl) (by kernel_rfl) (by kernel_rfl) (fun _ _ _ h => h) (Or.inl ⟨by rfl, ?yy7_8⟩) hHeld ?ry7_8
  case yy7_8 => (intro w' hSw; (try dsimp only at hSw); go_simp; try (with_reducible rfl))
  simp only [Act.put, List.setIfInBounds_toArray, List.set_cons_zero, List.set_cons_succ]
  refine wpAnyH_take (i := 8) (oi := ⟨some 14, _, _, _, _, _⟩) (v := ?vy8_9) rfl (by kernel_rfl) (by kernel_rfl) (by kernel_rfl) (fun _ _ _ h => h) (Or.inl ⟨by rfl, ?yy8_9⟩) hHeld ?ry8_9
  case yy8_9 => (intro w' hSw; (try dsimp only at hSw); go_simp; try (with_reducible rfl))
  simp only [Act.put, List.setIfInBounds_toArray, List.set_cons_zero, List.set_cons_succ]
  refine wpAnyH_ready (rs := [9]) (by kernel_rfl) (by simp) ?_
  refine AllReadyH.cons (o := ⟨some 4, _, _, _, _, _⟩) rfl (fun K hK => ?_) AllReadyH.nil
  go_simp
  have hb := below1 u0 (.cells #[] 105)
  have hB2 := hB.trans (hb.mono hB.size)
  refine hK.out _ _ (HKP.out _ hB2) (fun hNext => ?_)
  clear hK K hHeld
  have hHeld := hNext
  clear hNext
  clear hB
  have hB := hB2
  clear hB2
  have t_e : Blk (u0.alloc (.cells #[] 105)) u0.heap.size 105 #[] := Blk.new u0 _ _
  generalize hgen : (u0.alloc (.cells #[] 105)) = u1 at hHeld hB t_e hb ⊢
  clear hgen hb
  generalize hgen : u0.heap.size = b_e at t_e ⊢
  clear hgen
  try simp only [Act.put, List.setIfInBounds_toArray, List.set_cons_zero, List.set_cons_succ]
  refine wpAnyH_ready (rs := [10]) (by kernel_rfl) (by simp) ?_
  refine AllReadyH.cons (o := ⟨none, _, _, _, _, _⟩) rfl (fun K hK => ?_) AllReadyH.nil
  go_simp
  refine hK.out _ _ hHeld (fun hNext => ?_)
  clear hK K hHeld
  have hHeld := hNext
  clear hNext
  clear t_e
  try simp only [Act.put]
  refine wpAnyH_take (i := 11) (oi := ⟨some 5, _, _, _, _, _⟩) (v := ?vy11_10) rfl (by kernel_rfl) (by kernel_rfl) (by kernel_rfl) (fun _ _ _ h => h) (Or.inl ⟨by rfl, ?yy11_10⟩) hHeld ?ry11_10
  case yy11_10 => (intro w' hSw; (try dsimp only at hSw); go_simp; try (with_reducible rfl))
  simp only [Act.put, List.setIfInBounds_toArray, List.set_cons_zero, List.set_cons_succ]
  refine wpAnyH_done (by kernel_rfl) ?_ _
  have hs1 := HS.out
  rw [← HE.out] at hs1
  have HB2 := Lib.hid (hs1.trans (hB.mono hs1.size))
  clear hHeld hB HKP hs1
  go_wp2
  refine bodyPost_ret (results_none rfl _ _ _) rfl ?_
  exact ⟨rfl, HB2.out⟩
set_option maxRecDepth 100000 in
set_option maxHeartbeats 4000000 in
theorem dadd_some (c : Cb) (B : Nat) (l : List Cb) (sv : Value) (M : Nat) (S : Nat → Prop) (w : World) (hN : Blk w B 72 #[sv, .map (some M)]) (hO : w.ownsRow (B + 1) 43 4 sv l.length (flat l)) (hSt : StAt w (.map (some M)) l) (hin : decide (c ∈ l) = false) (hlen : l.length ≤ 1099511627776) (hM1 : B < M) (hM2 : sv.ownBlock ≠ some M) (hS : ∀ y, S y ↔ y = B ∨ (some M) = some y ∨ sv.ownBlock = some y) : Calls Try.prog 23 #[.pointer (some ⟨B, 0, none⟩), .agg #[.int .u64 (uv c.vh), .int .u64 (uv c.vl), .int .u64 (uv c.ch), .int .u64 (uv c.cl)]] w (DsTo w B (l ++ [c]) S) := by
  have HLEN : Hid (l.length < maxLen) := by show l.length < maxLen; unfold maxLen; omega
  have HNI : Hid (c ∉ l) := of_decide_eq_false hin
  have HSS := Lib.hid hS
  have HBL := Lib.hid hN.lt
  have HGL : Hid (∀ g, sv.ownBlock = some g → B < g ∧ g < w.heap.size) := fun g hg => ⟨by have := (hO.lt g hg).1; omega, (hO.lt g hg).2⟩
  clear hS
  have hb1 := below1 w (.cells #[.int .u64 (uv c.vh), .int .u64 (uv c.vl), .int .u64 (uv c.ch), .int .u64 (uv c.cl)] 43)
  have HX : Hid (Blk (w.alloc (.cells #[.int .u64 (uv c.vh), .int .u64 (uv c.vl), .int .u64 (uv c.ch), .int .u64 (uv c.cl)] 43)) w.heap.size 43 #[.int .u64 (uv c.vh), .int .u64 (uv c.vl), .int .u64 (uv c.ch), .int .u64 (uv c.cl)]) := Blk.new w _ _
  have HN := Lib.hid (hN.on hb1)
  have HST := Lib.hid (hSt.ch (Q := fun _ => False) (Ch.of_below hb1) (fun _ _ h => h))
  have HS := Lib.hid hb1
  have HIN := Lib.hid hin
  have HO := Lib.hid (own_on hO hb1)
  clear hb1 hN hSt hin hO
  go_enter Try.func23, Try.ntmps23
  go_upto_region 1 with (fail)
  generalize w.alloc (.cells #[.int .u64 (uv c.vh), .int .u64 (uv c.vl), .int .u64 (uv c.ch), .int .u64 (uv c.cl)] 43) = w1 at HX HS HN HST HO ⊢
  generalize hbx : w.heap.size = bx at HX HS ⊢
  have HE := Lib.hid hbx
  clear hbx
  have HKP : Hid (∀ W, Below w1.heap.size w1 W → (Below w1.heap.size w1 W ∧ W.cell? ⟨B, 1, none⟩ = some (.map (some M)) ∧ W.cell? ⟨bx, 0, none⟩ = some (.int .u64 (uv c.vh)) ∧ W.cell? ⟨bx, 1, none⟩ = some (.int .u64 (uv c.vl)) ∧ W.cell? ⟨bx, 2, none⟩ = some (.int .u64 (uv c.ch)) ∧ W.cell? ⟨bx, 3, none⟩ = some (.int .u64 (uv c.cl)) ∧ (Instr.lookup 70 (.map (some M)) (.agg #[.int .u64 (uv c.vh), .int .u64 (uv c.vl), .int .u64 (uv c.ch), .int .u64 (uv c.cl)]) true).run Try.prog W = .ok (.tuple #[.agg #[], .bool false]) W)) := fun W hb => ⟨hb, ((HN.out.on hb).cell 1).trans rfl, ((HX.out.on hb).cell 0).trans rfl, ((HX.out.on hb).cell 1).trans rfl, ((HX.out.on hb).cell 2).trans rfl, ((HX.out.on hb).cell 3).trans rfl, by have := st_look c (HST.out.ch (Q := fun _ => False) (Ch.of_below hb) (fun _ _ h => h)); rw [HIN.out] at this; exact this⟩
  refine wp_region_held_drew (S := fun w' => Below w1.heap.size w1 w' ∧ w'.cell? ⟨B, 1, none⟩ = some (.map (some M)) ∧ w'.cell? ⟨bx, 0, none⟩ = some (.int .u64 (uv c.vh)) ∧ w'.cell? ⟨bx, 1, none⟩ = some (.int .u64 (uv c.vl)) ∧ w'.cell? ⟨bx, 2, none⟩ = some (.int .u64 (uv c.ch)) ∧ w'.cell? ⟨bx, 3, none⟩ = some (.int .u64 (uv c.cl)) ∧ (Instr.lookup 70 (.map (some M)) (.agg #[.int .u64 (uv c.vh), .int .u64 (uv c.vl), .int .u64 (uv c.ch), .int .u64 (uv c.cl)]) true).run Try.prog w' = .ok (.tuple #[.agg #[], .bool false]) w') (by kernel_rfl) (HKP.out _ (Below.refl _ w1).drew) (fun hHeld => ?_)
  have hB : Below w1.heap.size w1 w1.drew := (Below.refl _ w1).drew
  generalize w1.drew = u0 at hHeld hB ⊢
  refine wpAnyH_take (i := 0) (oi := ⟨some 7, _, _, _, _, _⟩) (v := ?vp0_1) rfl (by kernel_rfl) (by kernel_rfl) (by kernel_rfl) (fun _ _ _ h => h) (Or.inl ⟨by rfl, ?yp0_1⟩) hHeld ?rp0_1
  case yp0_1 => (intro w' hSw; (try dsimp only at hSw); go_simp; try (with_reducible rfl))
  simp only [Act.put, List.setIfInBounds_toArray, List.set_cons_zero, List.set_cons_succ]
  refine wpAnyH_take (i := 1) (oi := ⟨some 8, _, _, _, _, _⟩) (v := ?vp1_2) rfl (by kernel_rfl) (by kernel_rfl) (by kernel_rfl) (fun _ _ _ h => h) (Or.inl ⟨by rfl, ?yp1_2⟩) hHeld ?rp1_2
  case yp1_2 => (intro w' hSw; (try dsimp only at hSw); go_simp; try (with_reducible rfl))
  simp only [Act.put, List.setIfInBounds_toArray, List.set_cons_zero, List.set_cons_succ]
  refine wpAnyH_take (i := 2) (oi := ⟨some 9, _, _, _, _, _⟩) (v := ?vp2_3) rfl (by kernel_rfl) (by kernel_rfl) (by kernel_rfl) (fun _ _ _ h => h) (Or.inl ⟨by rfl, ?yp2_3⟩) hHeld ?rp2_3
  case yp2_3 => (intro w' hSw; (try dsimp only at hSw); go_simp; try (with_reducible rfl))
  simp only [Act.put, List.setIfInBounds_toArray, List.set_cons_zero, List.set_cons_succ]
  refine wpAnyH_take (i := 3) (oi := ⟨some 10, _, _, _, _, _⟩) (v := ?vp3_4) rfl (by kernel_rfl) (by kernel_rfl) (by kernel_rfl) (fun _ _ _ h => h) (Or.inl ⟨by rfl, ?yp3_4⟩) hHeld ?rp3_4
  case yp3_4 => (intro w' hSw; (try dsimp only at hSw); go_simp; try (with_reducible rfl))
  simp only [Act.put, List.setIfInBounds_toArray, List.set_cons_zero, List.set_cons_succ]
  refine wpAnyH_take (i := 4) (oi := ⟨some 11, _, _, _, _, _⟩) (v := ?vp4_5) rfl (by kernel_rfl) (by kernel_rfl) (by kernel_rfl) (fun _ _ _ h => h) (Or.inl ⟨by rfl, ?yp4_5⟩) hHeld ?rp4_5
  case yp4_5 => (intro w' hSw; (try dsimp only at hSw); go_simp; try (with_reducible rfl))
  simp only [Act.put, List.setIfInBounds_toArray, List.set_cons_zero, List.set_cons_succ]
  refine wpAnyH_take (i := 5) (oi := ⟨some 12, _, _, _, _, _⟩) (v := ?vp5_6) rfl (by kernel_rfl) (by kernel_rfl) (by kernel_rfl) (fun _ _ _ h => h) (Or.inl ⟨by rfl, ?yp5_6⟩) hHeld ?rp5_6
  case yp5_6 => (intro w' hSw; (try dsimp only at hSw); go_simp; try (with_reducible rfl))
  simp only [Act.put, List.setIfInBounds_toArray, List.set_cons_zero, List.set_cons_succ]
  refine wpAnyH_take (i := 6) (oi := ⟨some 6, _, _, _, _, _⟩) (v := ?vp6_7) rfl (by kernel_rfl) (by kernel_rfl) (by kernel_rfl) (fun _ _ _ h => h) (Or.inl ⟨by rfl, ?yp6_7⟩) hHeld ?rp6_7
  case yp6_7 => (intro w' hSw; (try dsimp only at hSw); go_simp; try (with_reducible rfl))
  simp only [Act.put, List.setIfInBounds_toArray, List.set_cons_zero, List.set_cons_succ]
  refine wpAnyH_take (i := 7) (oi := ⟨some 13, _, _, _, _, _⟩) (v := ?vp7_8) rfl (by kernel_rfl) (by kernel_rfl) (by kernel_rfl) (fun _ _ _ h => h) (Or.inl ⟨by rfl, ?yp7_8⟩) hHeld ?rp7_8
  case yp7_8 => (intro w' hSw; (try dsimp only at hSw); go_simp; try (with_reducible rfl))
  simp only [Act.put, List.setIfInBounds_toArray, List.set_cons_zero, List.set_cons_succ]
  refine wpAnyH_take (i := 8) (oi := ⟨some 14, _, _, _, _, _⟩) (v := ?vp8_9) rfl (by kernel_rfl) (by kernel_rfl) (by kernel_rfl) (fun _ _ _ h => h) (Or.inl ⟨by rfl, ?yp8_9⟩) hHeld ?rp8_9
  case yp8_9 => (intro w' hSw; (try dsimp only at hSw); go_simp; try (with_reducible rfl))
  simp only [Act.put, List.setIfInBounds_toArray, List.set_cons_zero, List.set_cons_succ]
  refine wpAnyH_ready (rs := [9]) (by kernel_rfl) (by simp) ?_
  refine AllReadyH.cons (o := ⟨some 4, _, _, _, _, _⟩) rfl (fun K hK => ?_) AllReadyH.nil
  go_simp
  have hb := below1 u0 (.cells #[] 105)
  have hB2 := hB.trans (hb.mono hB.size)
  refine hK.out _ _ (HKP.out _ hB2) (fun hNext => ?_)
  clear hK K hHeld
  have hHeld := hNext
  clear hNext
  clear hB
  have hB := hB2
  clear hB2
  have t_e : Blk (u0.alloc (.cells #[] 105)) u0.heap.size 105 #[] := Blk.new u0 _ _
  generalize hgen : (u0.alloc (.cells #[] 105)) = u1 at hHeld hB t_e hb ⊢
  clear hgen hb
  generalize hgen : u0.heap.size = b_e at t_e ⊢
  clear hgen
  try simp only [Act.put, List.setIfInBounds_toArray, List.set_cons_zero, List.set_cons_succ]
  refine wpAnyH_ready (rs := [10]) (by kernel_rfl) (by simp) ?_
  refine AllReadyH.cons (o := ⟨none, _, _, _, _, _⟩) rfl (fun K hK => ?_) AllReadyH.nil
  go_simp
  refine hK.out _ _ hHeld (fun hNext => ?_)
  clear hK K hHeld
  have hHeld := hNext
  clear hNext
  clear t_e
  try simp only [Act.put]
  refine wpAnyH_take (i := 11) (oi := ⟨some 5, _, _, _, _, _⟩) (v := ?vp11_10) rfl (by kernel_rfl) (by kernel_rfl) (by kernel_rfl) (fun _ _ _ h => h) (Or.inl ⟨by rfl, ?yp11_10⟩) hHeld ?rp11_10
  case yp11_10 => (intro w' hSw; (try dsimp only at hSw); go_simp; try (with_reducible rfl))
  simp only [Act.put, List.setIfInBounds_toArray, List.set_cons_zero, List.set_cons_succ]
  refine wpAnyH_done (by kernel_rfl) ?_ _
  have HT3 := Lib.hid (HN.out.on hB)
  have HX3 := Lib.hid (HX.out.on hB)
  have HO3 := Lib.hid (own_on HO.out hB)
  have HM3 := Lib.hid (HST.out.ch (Q := fun _ => False) (Ch.of_below hB) (fun _ _ h => h))
  have hs1 := HS.out
  have hbz := HE.out
  rw [← HE.out] at hs1
  have HB3 := Lib.hid (hs1.trans (hB.mono hs1.size))
  clear hHeld hB HKP hs1 HN HX HO HST HS
  generalize u1 = w4 at HT3 HX3 HO3 HM3 HB3 ⊢
  have HMO := Lib.hid (And.intro hM1 hM2)
  have hMbx : M ≠ bx := fun e => by
    have h1 := HX3.out
    rcases HM3.out with ⟨h, _⟩ | ⟨M', D, h, ⟨es, clock, h2, _⟩, _⟩
    · cases h
    · injection h with h
      injection h with h
      subst h
      unfold Blk at h1
      rw [← e, h2] at h1
      cases h1
  have d1 := (HT3.out.cell 1).trans rfl
  simp only [List.getElem?_toArray, List.getElem?_cons_succ, List.getElem?_cons_zero] at d1
  have HNE : Hid (M ≠ B ∧ M ≠ bx) := ⟨by omega, hMbx⟩
  have HLT := Lib.hid (HM3.out.lt M rfl)
  have HGB : Hid (∀ g, sv.ownBlock = some g → B ≠ g ∧ bx ≠ g) := fun g hg => ⟨by have := HGL.out g hg; omega, by have := HGL.out g hg; omega⟩
  have HCW : Hid (Ch S w w4) := Ch.of_below HB3.out
  have HNW : Hid (∀ y, (y = B ∨ y = M ∨ sv.ownBlock = some y ∨ w.heap.size ≤ y) → S y ∨ w.heap.size ≤ y) := by
    rintro y (h | h | h | h)
    · exact .inl ((HSS.out y).2 (.inl h))
    · exact .inl ((HSS.out y).2 (.inr (.inl (by rw [h]))))
    · exact .inl ((HSS.out y).2 (.inr (.inr h)))
    · exact .inr h
  have HCM : Hid (∀ y, y < w.heap.size → y = M → S y) := fun y _ hy => (HSS.out y).2 (.inr (.inl (by rw [hy])))
  have HCO : Hid (∀ y, y < w.heap.size → (y = B ∨ sv.ownBlock = some y) → S y) := fun y _ hy => (HSS.out y).2 (hy.imp_right .inr)
  clear hM1 hM2 hMbx hbz
  have HT := HT3
  have HX := HX3
  have HO := HO3
  have HM := HM3
  clear HT3 HX3 HO3 HM3 HB3
  go_upto_region 5 with (fail)
  generalize hw5 : w4 = w5 at HT HX HO HM HCW HLT ⊢
  clear hw5
  go_upto_region 5 with (fail)
  go_cut [] (fun wd => StAt wd (.map (some M)) (l ++ [c]) ∧ Ch (· = M) w5 wd)
  case first =>
    have hbd := (Below.refl w5.heap.size w5).drew
    have HKP : Hid (w5.drew.cell? ⟨B, 1, none⟩ = some (.map (some M)) ∧ w5.drew.cell? ⟨bx, 0, none⟩ = some (.int .u64 (uv c.vh)) ∧ w5.drew.cell? ⟨bx, 1, none⟩ = some (.int .u64 (uv c.vl)) ∧ w5.drew.cell? ⟨bx, 2, none⟩ = some (.int .u64 (uv c.ch)) ∧ w5.drew.cell? ⟨bx, 3, none⟩ = some (.int .u64 (uv c.cl))) := ⟨((HT.out.on hbd).cell 1).trans rfl, ((HX.out.on hbd).cell 0).trans rfl, ((HX.out.on hbd).cell 1).trans rfl, ((HX.out.on hbd).cell 2).trans rfl, ((HX.out.on hbd).cell 3).trans rfl⟩
    have HM0 := Lib.hid (HM.out.ch (Q := fun _ => False) (Ch.of_below hbd) (fun _ _ h => h))
    have HCD : Hid (Ch (· = M) w5 w5.drew) := Ch.of_below hbd
    clear hbd HM
    have HM := HM0
    clear HM0
    refine wp_region_held_drew (S := fun w' => w'.cell? ⟨B, 1, none⟩ = some (.map (some M)) ∧ w'.cell? ⟨bx, 0, none⟩ = some (.int .u64 (uv c.vh)) ∧ w'.cell? ⟨bx, 1, none⟩ = some (.int .u64 (uv c.vl)) ∧ w'.cell? ⟨bx, 2, none⟩ = some (.int .u64 (uv c.ch)) ∧ w'.cell? ⟨bx, 3, none⟩ = some (.int .u64 (uv c.cl))) (by kernel_rfl) (HKP.out) (fun hHeld => ?_)
    clear HKP
    generalize w5.drew = u0 at hHeld HM HCD ⊢
    refine wpAnyH_take (i := 0) (oi := ⟨some 25, _, _, _, _, _⟩) (v := ?vp247a0_1) rfl (by kernel_rfl) (by kernel_rfl) (by kernel_rfl) (fun _ _ _ h => h) (Or.inl ⟨by rfl, ?yp247a0_1⟩) hHeld ?rp247a0_1
    case yp247a0_1 => (intro w' hSw; (try dsimp only at hSw); go_simp; try (with_reducible rfl))
    simp only [Act.put, List.setIfInBounds_toArray, List.set_cons_zero, List.set_cons_succ]
    refine wpAnyH_take (i := 1) (oi := ⟨some 26, _, _, _, _, _⟩) (v := ?vp247a1_2) rfl (by kernel_rfl) (by kernel_rfl) (by kernel_rfl) (fun _ _ _ h => h) (Or.inl ⟨by rfl, ?yp247a1_2⟩) hHeld ?rp247a1_2
    case yp247a1_2 => (intro w' hSw; (try dsimp only at hSw); go_simp; try (with_reducible rfl))
    simp only [Act.put, List.setIfInBounds_toArray, List.set_cons_zero, List.set_cons_succ]
    refine wpAnyH_take (i := 2) (oi := ⟨some 27, _, _, _, _, _⟩) (v := ?vp247a2_3) rfl (by kernel_rfl) (by kernel_rfl) (by kernel_rfl) (fun _ _ _ h => h) (Or.inl ⟨by rfl, ?yp247a2_3⟩) hHeld ?rp247a2_3
    case yp247a2_3 => (intro w' hSw; (try dsimp only at hSw); go_simp; try (with_reducible rfl))
    simp only [Act.put, List.setIfInBounds_toArray, List.set_cons_zero, List.set_cons_succ]
    refine wpAnyH_take (i := 3) (oi := ⟨some 28, _, _, _, _, _⟩) (v := ?vp247a3_4) rfl (by kernel_rfl) (by kernel_rfl) (by kernel_rfl) (fun _ _ _ h => h) (Or.inl ⟨by rfl, ?yp247a3_4⟩) hHeld ?rp247a3_4
    case yp247a3_4 => (intro w' hSw; (try dsimp only at hSw); go_simp; try (with_reducible rfl))
    simp only [Act.put, List.setIfInBounds_toArray, List.set_cons_zero, List.set_cons_succ]
    refine wpAnyH_take (i := 4) (oi := ⟨some 29, _, _, _, _, _⟩) (v := ?vp247a4_5) rfl (by kernel_rfl) (by kernel_rfl) (by kernel_rfl) (fun _ _ _ h => h) (Or.inl ⟨by rfl, ?yp247a4_5⟩) hHeld ?rp247a4_5
    case yp247a4_5 => (intro w' hSw; (try dsimp only at hSw); go_simp; try (with_reducible rfl))
    simp only [Act.put, List.setIfInBounds_toArray, List.set_cons_zero, List.set_cons_succ]
    refine wpAnyH_take (i := 5) (oi := ⟨some 30, _, _, _, _, _⟩) (v := ?vp247a5_6) rfl (by kernel_rfl) (by kernel_rfl) (by kernel_rfl) (fun _ _ _ h => h) (Or.inl ⟨by rfl, ?yp247a5_6⟩) hHeld ?rp247a5_6
    case yp247a5_6 => (intro w' hSw; (try dsimp only at hSw); go_simp; try (with_reducible rfl))
    simp only [Act.put, List.setIfInBounds_toArray, List.set_cons_zero, List.set_cons_succ]
    refine wpAnyH_ready (rs := [6]) (by kernel_rfl) (by simp) ?_
    refine AllReadyH.cons (o := ⟨none, _, _, _, _, _⟩) rfl (fun K hK => ?_) AllReadyH.nil
    obtain ⟨u1, hr1, hm1, hc1⟩ := st_put (c := c) HM.out HNI.out HLEN.out
    unfold cbV at hr1
    go_simp
    refine hK.out _ _ ⟨hc1.cell hHeld.1 (fun e => HNE.out.1 e.symm), hc1.cell hHeld.2.1 (fun e => HNE.out.2 e.symm), hc1.cell hHeld.2.2.1 (fun e => HNE.out.2 e.symm), hc1.cell hHeld.2.2.2.1 (fun e => HNE.out.2 e.symm), hc1.cell hHeld.2.2.2.2 (fun e => HNE.out.2 e.symm)⟩ (fun hNext => ?_)
    clear hK K hHeld
    have hHeld := hNext
    clear hNext
    clear hr1
    try simp only [Act.put]
    refine wpAnyH_done (by kernel_rfl) ?_ _
    go_wp2_with fail
    go_meet
    exact ⟨hm1, HCD.out.trans hc1⟩
  case rest =>
    obtain ⟨hm9, hc9⟩ := hcut
    have HMP9 := Lib.hid hm9
    have HT9 := Lib.hid (hc9.blk HT.out (fun e => HNE.out.1 e.symm))
    have HX9 := Lib.hid (hc9.blk HX.out (fun e => HNE.out.2 e.symm))
    have HO9 := Lib.hid (hc9.own HO.out (fun g hg e => by have e2 : g = M := e; subst e2; exact HMO.out.2 hg))
    have HCW9 := Lib.hid hc9
    clear hm9 hc9 HT HX HO HM
    go_upto_region 6 with (fail)
    have hbd := (Below.refl wc.heap.size wc).drew
    have HT := Lib.hid (HT9.out.on hbd)
    have HX := Lib.hid (HX9.out.on hbd)
    have HO := Lib.hid (own_on HO9.out hbd)
    have HMP := Lib.hid (HMP9.out.ch (Q := fun _ => False) (Ch.of_below hbd) (fun _ _ h => h))
    have HBB := Lib.hid hbd
    obtain ⟨ic, hic, hcz0, hcz1, hcz2⟩ := info_parts infoCbD
    clear hbd HT9 HX9 HO9 HMP9
    refine wp_region_held_drew (S := fun _ => True) (by kernel_rfl) trivial (fun hHeld => ?_)
    generalize wc.drew = u0 at hHeld HT HX HO HMP HBB ⊢
    refine wpAnyH_take (i := 0) (oi := ⟨some 31, _, _, _, _, _⟩) (v := ?vp247b0_1) rfl (by kernel_rfl) (by kernel_rfl) (by kernel_rfl) (fun _ _ _ h => h) (Or.inl ⟨by rfl, ?yp247b0_1⟩) hHeld ?rp247b0_1
    case yp247b0_1 => (intro w' hSw; (try dsimp only at hSw); go_simp; try (with_reducible rfl))
    simp only [Act.put, List.setIfInBounds_toArray, List.set_cons_zero, List.set_cons_succ]
    refine wpAnyH_take (i := 1) (oi := ⟨some 32, _, _, _, _, _⟩) (v := ?vp247b1_2) rfl (by kernel_rfl) (by kernel_rfl) (by kernel_rfl) (fun _ _ _ h => h) (Or.inl ⟨by rfl, ?yp247b1_2⟩) hHeld ?rp247b1_2
    case yp247b1_2 => (intro w' hSw; (try dsimp only at hSw); go_simp; try (with_reducible rfl))
    simp only [Act.put, List.setIfInBounds_toArray, List.set_cons_zero, List.set_cons_succ]
    refine wpAnyH_take (i := 2) (oi := ⟨some 33, _, _, _, _, _⟩) (v := ?vp247b2_3) rfl (by kernel_rfl) (by kernel_rfl) (by kernel_rfl) (fun _ _ _ h => h) (Or.inl ⟨by rfl, ?yp247b2_3⟩) hHeld ?rp247b2_3
    case yp247b2_3 => (intro w' hSw; (try dsimp only at hSw); go_simp; try (with_reducible rfl))
    simp only [Act.put, List.setIfInBounds_toArray, List.set_cons_zero, List.set_cons_succ]
    refine wpAnyH_take (i := 3) (oi := ⟨some 34, _, _, _, _, _⟩) (v := ?vp247b3_4) rfl (by kernel_rfl) (by kernel_rfl) (by kernel_rfl) (fun _ _ _ h => h) (Or.inl ⟨by rfl, ?yp247b3_4⟩) hHeld ?rp247b3_4
    case yp247b3_4 => (intro w' hSw; (try dsimp only at hSw); go_simp; try (with_reducible rfl))
    simp only [Act.put, List.setIfInBounds_toArray, List.set_cons_zero, List.set_cons_succ]
    refine wpAnyH_ready (rs := [4, 5]) (by kernel_rfl) (by simp) ?_
    refine AllReadyH.cons (o := ⟨some 35, _, _, _, _, _⟩) rfl (fun K hK => ?_) ?_
    · have kA := (HT.out.cell 0).trans rfl
      simp only [List.getElem?_toArray, List.getElem?_cons_zero] at kA
      go_simp
      refine hK.out _ _ trivial (fun hNext => ?_)
      clear hK K hHeld
      have hHeld := hNext
      clear hNext
      clear kA
      try simp only [Act.put, List.setIfInBounds_toArray, List.set_cons_zero, List.set_cons_succ]
      refine wpAnyH_ready (rs := [5]) (by kernel_rfl) (by simp) ?_
      refine AllReadyH.cons (o := ⟨some 36, _, _, _, _, _⟩) rfl (fun K hK => ?_) AllReadyH.nil
      have x0 := (HX.out.cell 0).trans rfl
      have x1 := (HX.out.cell 1).trans rfl
      have x2 := (HX.out.cell 2).trans rfl
      have x3 := (HX.out.cell 3).trans rfl
      simp only [List.getElem?_toArray, List.getElem?_cons_succ, List.getElem?_cons_zero] at x0 x1 x2 x3
      go_simp
      refine hK.out _ _ trivial (fun hNext => ?_)
      clear hK K hHeld
      have hHeld := hNext
      clear hNext
      clear x0 x1 x2 x3
      try simp only [Act.put, List.setIfInBounds_toArray, List.set_cons_zero, List.set_cons_succ]
      refine wpAnyH_ready (rs := [6]) (by kernel_rfl) (by simp) ?_
      refine AllReadyH.cons (o := ⟨some 37, _, _, _, _, _⟩) rfl (fun K hK => ?_) AllReadyH.nil
      go_simp
      have hb := below1 u0 (.cells #[.int .u64 (uv c.vh), .int .u64 (uv c.vl), .int .u64 (uv c.ch), .int .u64 (uv c.cl)] 43)
      refine hK.out _ _ trivial (fun hNext => ?_)
      clear hK K hHeld
      have hHeld := hNext
      clear hNext
      have kN : Blk (u0.alloc (.cells #[.int .u64 (uv c.vh), .int .u64 (uv c.vl), .int .u64 (uv c.ch), .int .u64 (uv c.cl)] 43)) u0.heap.size 43 #[.int .u64 (uv c.vh), .int .u64 (uv c.vl), .int .u64 (uv c.ch), .int .u64 (uv c.cl)] := Blk.new u0 _ _
      have hgn : ∀ g, sv.ownBlock = some g → g ≠ u0.heap.size := fun g hg => Nat.ne_of_lt (HO.out.lt g hg).2
      have HT2 := Lib.hid (HT.out.on hb)
      have HO2 := Lib.hid (own_on HO.out hb)
      have HM2 := Lib.hid (HMP.out.ch (Q := fun _ => False) (Ch.of_below hb) (fun _ _ h => h))
      have HBB2 := Lib.hid (HBB.out.trans (hb.mono HBB.out.size))
      clear HT HO HMP HBB hb
      have HT := HT2
      have HO := HO2
      have HMP := HM2
      have HBB := HBB2
      clear HT2 HO2 HM2 HBB2
      generalize hgen : (u0.alloc (.cells #[.int .u64 (uv c.vh), .int .u64 (uv c.vl), .int .u64 (uv c.ch), .int .u64 (uv c.cl)] 43)) = u1 at HT HO HMP HBB kN ⊢
      clear hgen
      generalize hgen : u0.heap.size = bN at kN hgn ⊢
      clear hgen
      try simp only [Act.put, List.setIfInBounds_toArray, List.set_cons_zero, List.set_cons_succ]
      refine wpAnyH_ready (rs := [7]) (by kernel_rfl) (by simp) ?_
      refine AllReadyH.cons (o := ⟨some 38, _, _, _, _, _⟩) rfl (fun K hK => ?_) AllReadyH.nil
      have SR := src_cbD kN
      refine step_appD _ rfl (.tmp 35) (.tmp 37) 32 rfl (B + 1) 43 ic _ 4 32 Try.underlying32 hic hcz0 hcz1 hcz2 rfl (by decide) sv l.length (flat l) rfl HO.out _ 1 (flat [c]) rfl SR (by unfold maxLen; omega) (by omega) (by have := HT.out.lt; omega) ?_
      intro v2 u2 kO2 hgr
      refine hK.out _ _ trivial (fun hNext => ?_)
      clear hK K hHeld
      have hHeld := hNext
      clear hNext
      have HT2 := Lib.hid (HT.out.grown hgr.1 (fun e => (HGB.out _ e.symm).1 rfl))
      have HM2 : Hid (StAt u2 (.map (some M)) (l ++ [c])) := HMP.out.ch (Q := fun k => sv.ownBlock = some k) ⟨hgr.1.os, hgr.1.tape, hgr.1.output, hgr.1.size, fun k hk hn => hgr.1.block k hk (fun e => hn e.symm)⟩ (fun M' hM' e => by have e2 : M = M' := (by simpa [mBk] using hM'); subst e2; exact HMO.out.2 e)
      have HC2 : Hid (Ch (fun k => sv.ownBlock = some k) wc u2) := ch_thenD (Ch.of_below HBB.out) (⟨hgr.1.os, hgr.1.tape, hgr.1.output, hgr.1.size, fun k hk hn => hgr.1.block k hk (fun e => hn e.symm)⟩ : Ch (fun k => sv.ownBlock = some k) _ _) (fun _ _ h => h)
      have HG2 : Hid (v2.ownBlock = sv.ownBlock ∨ ∃ k, v2.ownBlock = some k ∧ wc.heap.size ≤ k) := hgr.2.imp id fun ⟨k, h1, h2⟩ => ⟨k, h1, Nat.le_trans HBB.out.size h2⟩
      have HO2 : Hid (u2.ownsRow (B + 1) 43 4 v2 (l.length + 1) (flat (l ++ [c]))) := by show World.ownsRow _ _ _ _ _ _ _; rw [flat_snocD]; exact kO2
      clear HT HMP HBB hgr kO2 SR kN hgn HO
      have HT := HT2
      clear HT2
      try simp only [Act.put, List.setIfInBounds_toArray, List.set_cons_zero, List.set_cons_succ]
      refine wpAnyH_take (i := 8) (oi := ⟨some 39, _, _, _, _, _⟩) (v := ?vp247b8_5) rfl (by kernel_rfl) (by kernel_rfl) (by kernel_rfl) (fun _ _ _ h => h) (Or.inl ⟨by rfl, ?yp247b8_5⟩) hHeld ?rp247b8_5
      case yp247b8_5 => (intro w' hSw; (try dsimp only at hSw); go_simp; try (with_reducible rfl))
      simp only [Act.put, List.setIfInBounds_toArray, List.set_cons_zero, List.set_cons_succ]
      refine wpAnyH_take (i := 9) (oi := ⟨some 40, _, _, _, _, _⟩) (v := ?vp247b9_6) rfl (by kernel_rfl) (by kernel_rfl) (by kernel_rfl) (fun _ _ _ h => h) (Or.inl ⟨by rfl, ?yp247b9_6⟩) hHeld ?rp247b9_6
      case yp247b9_6 => (intro w' hSw; (try dsimp only at hSw); go_simp; try (with_reducible rfl))
      simp only [Act.put, List.setIfInBounds_toArray, List.set_cons_zero, List.set_cons_succ]
      refine wpAnyH_ready (rs := [10]) (by kernel_rfl) (by simp) ?_
      refine AllReadyH.cons (o := ⟨none, _, _, _, _, _⟩) rfl (fun K hK => ?_) AllReadyH.nil
      obtain ⟨A2, cap2, hv2⟩ := own_slD HO2.out
      subst hv2
      have kA := (HT.out.cell 0).trans rfl
      have gA := HT.out.free 0
      simp only [List.getElem?_toArray, List.getElem?_cons_zero] at kA
      go_simp
      clear kA gA
      refine hK.out _ _ trivial (fun hNext => ?_)
      clear hK K hHeld
      have hHeld := hNext
      clear hNext
      have hA2 := HT.out.set 0 (.slice A2 (l.length + 1) cap2)
      simp only [List.setIfInBounds_toArray, List.set_cons_zero] at hA2
      have hcs : Ch (· = B) u2 (u2.setCell ⟨B, 0, none⟩ (.slice A2 (l.length + 1) cap2)) := Ch.set u2 ⟨B, 0, none⟩ _
      have HR1 := Lib.hid hA2
      have HR2 := Lib.hid (hcs.own HO2.out (fun g hg e => by have e2 : g = B := e; subst e2; have := own_ge HO2.out hg; omega))
      have HR3 := Lib.hid (HM2.out.ch hcs (fun M' hM' e => by have e2 : M = M' := (by simpa [mBk] using hM'); subst e2; exact HNE.out.1 e))
      have HR4 : Hid (Ch (fun y => y = B ∨ sv.ownBlock = some y) wc (u2.setCell ⟨B, 0, none⟩ (.slice A2 (l.length + 1) cap2))) := (HC2.out.mono fun y _ hy => .inr hy).trans (hcs.mono fun y _ hy => .inl hy)
      clear hA2 hcs HT
      generalize u2.setCell ⟨B, 0, none⟩ (.slice A2 (l.length + 1) cap2) = u3 at HR1 HR2 HR3 HR4 ⊢
      try simp only [Act.put]
      refine wpAnyH_done (by kernel_rfl) ?_ _
      have HR := Lib.hid (And.intro HR1.out (And.intro HR2.out (And.intro HR3.out (And.intro HG2.out HR4.out))))
      go_wp2
      refine bodyPost_end (results_none rfl _ _ _) rfl ?_
      obtain ⟨r1, r2, r3, r4, r5⟩ := HR.out
      refine ⟨fun y => y = B ∨ some M = some y ∨ (Value.slice A2 (l.length + 1) cap2).ownBlock = some y, rfl, ⟨_, some M, r1, by rw [List.length_append]; exact r2, r3, fun M' hM' => ?_, fun _ => Iff.rfl⟩, fun y hy => ?_, ?_⟩
      · injection hM' with hM'
        subst hM'
        refine ⟨HMO.out.1, ?_⟩
        rcases r4 with h | ⟨k, h1, h2⟩
        · rw [h]; exact HMO.out.2
        · intro h
          rw [h1] at h
          injection h with h
          have := HCW9.out.size
          have := HLT.out
          omega
      · refine HNW.out y ?_
        rcases hy with h | h | h
        · exact .inl h
        · injection h with h; exact .inr (.inl h.symm)
        · rcases r4 with h1 | ⟨k, h1, h2⟩
          · exact .inr (.inr (.inl (by rw [← h1]; exact h)))
          · rw [h1] at h
            injection h with h
            have := HCW9.out.size
            have := HCW.out.size
            exact .inr (.inr (.inr (by omega)))
      · exact ch_thenD (ch_thenD HCW.out HCW9.out HCM.out) r5 HCO.out
    refine AllReadyH.cons (o := ⟨some 36, _, _, _, _, _⟩) rfl (fun K hK => ?_) AllReadyH.nil
    have x0 := (HX.out.cell 0).trans rfl
    have x1 := (HX.out.cell 1).trans rfl
    have x2 := (HX.out.cell 2).trans rfl
    have x3 := (HX.out.cell 3).trans rfl
    simp only [List.getElem?_toArray, List.getElem?_cons_succ, List.getElem?_cons_zero] at x0 x1 x2 x3
    go_simp
    refine hK.out _ _ trivial (fun hNext => ?_)
    clear hK K hHeld
    have hHeld := hNext
    clear hNext
    clear x0 x1 x2 x3
    try simp only [Act.put, List.setIfInBounds_toArray, List.set_cons_zero, List.set_cons_succ]
    refine wpAnyH_ready (rs := [4, 6]) (by kernel_rfl) (by simp) ?_
    refine AllReadyH.cons (o := ⟨some 35, _, _, _, _, _⟩) rfl (fun K hK => ?_) ?_
    · have kA := (HT.out.cell 0).trans rfl
      simp only [List.getElem?_toArray, List.getElem?_cons_zero] at kA
      go_simp
      refine hK.out _ _ trivial (fun hNext => ?_)
      clear hK K hHeld
      have hHeld := hNext
      clear hNext
      clear kA
      try simp only [Act.put, List.setIfInBounds_toArray, List.set_cons_zero, List.set_cons_succ]
      refine wpAnyH_ready (rs := [6]) (by kernel_rfl) (by simp) ?_
      refine AllReadyH.cons (o := ⟨some 37, _, _, _, _, _⟩) rfl (fun K hK => ?_) AllReadyH.nil
      go_simp
      have hb := below1 u0 (.cells #[.int .u64 (uv c.vh), .int .u64 (uv c.vl), .int .u64 (uv c.ch), .int .u64 (uv c.cl)] 43)
      refine hK.out _ _ trivial (fun hNext => ?_)
      clear hK K hHeld
      have hHeld := hNext
      clear hNext
      have kN : Blk (u0.alloc (.cells #[.int .u64 (uv c.vh), .int .u64 (uv c.vl), .int .u64 (uv c.ch), .int .u64 (uv c.cl)] 43)) u0.heap.size 43 #[.int .u64 (uv c.vh), .int .u64 (uv c.vl), .int .u64 (uv c.ch), .int .u64 (uv c.cl)] := Blk.new u0 _ _
      have hgn : ∀ g, sv.ownBlock = some g → g ≠ u0.heap.size := fun g hg => Nat.ne_of_lt (HO.out.lt g hg).2
      have HT2 := Lib.hid (HT.out.on hb)
      have HO2 := Lib.hid (own_on HO.out hb)
      have HM2 := Lib.hid (HMP.out.ch (Q := fun _ => False) (Ch.of_below hb) (fun _ _ h => h))
      have HBB2 := Lib.hid (HBB.out.trans (hb.mono HBB.out.size))
      clear HT HO HMP HBB hb
      have HT := HT2
      have HO := HO2
      have HMP := HM2
      have HBB := HBB2
      clear HT2 HO2 HM2 HBB2
      generalize hgen : (u0.alloc (.cells #[.int .u64 (uv c.vh), .int .u64 (uv c.vl), .int .u64 (uv c.ch), .int .u64 (uv c.cl)] 43)) = u4 at HT HO HMP HBB kN ⊢
      clear hgen
      generalize hgen : u0.heap.size = bN at kN hgn ⊢
      clear hgen
      try simp only [Act.put, List.setIfInBounds_toArray, List.set_cons_zero, List.set_cons_succ]
      refine wpAnyH_ready (rs := [7]) (by kernel_rfl) (by simp) ?_
      refine AllReadyH.cons (o := ⟨some 38, _, _, _, _, _⟩) rfl (fun K hK => ?_) AllReadyH.nil
      have SR := src_cbD kN
      refine step_appD _ rfl (.tmp 35) (.tmp 37) 32 rfl (B + 1) 43 ic _ 4 32 Try.underlying32 hic hcz0 hcz1 hcz2 rfl (by decide) sv l.length (flat l) rfl HO.out _ 1 (flat [c]) rfl SR (by unfold maxLen; omega) (by omega) (by have := HT.out.lt; omega) ?_
      intro v2 u5 kO2 hgr
      refine hK.out _ _ trivial (fun hNext => ?_)
      clear hK K hHeld
      have hHeld := hNext
      clear hNext
      have HT2 := Lib.hid (HT.out.grown hgr.1 (fun e => (HGB.out _ e.symm).1 rfl))
      have HM2 : Hid (StAt u5 (.map (some M)) (l ++ [c])) := HMP.out.ch (Q := fun k => sv.ownBlock = some k) ⟨hgr.1.os, hgr.1.tape, hgr.1.output, hgr.1.size, fun k hk hn => hgr.1.block k hk (fun e => hn e.symm)⟩ (fun M' hM' e => by have e2 : M = M' := (by simpa [mBk] using hM'); subst e2; exact HMO.out.2 e)
      have HC2 : Hid (Ch (fun k => sv.ownBlock = some k) wc u5) := ch_thenD (Ch.of_below HBB.out) (⟨hgr.1.os, hgr.1.tape, hgr.1.output, hgr.1.size, fun k hk hn => hgr.1.block k hk (fun e => hn e.symm)⟩ : Ch (fun k => sv.ownBlock = some k) _ _) (fun _ _ h => h)
      have HG2 : Hid (v2.ownBlock = sv.ownBlock ∨ ∃ k, v2.ownBlock = some k ∧ wc.heap.size ≤ k) := hgr.2.imp id fun ⟨k, h1, h2⟩ => ⟨k, h1, Nat.le_trans HBB.out.size h2⟩
      have HO2 : Hid (u5.ownsRow (B + 1) 43 4 v2 (l.length + 1) (flat (l ++ [c]))) := by show World.ownsRow _ _ _ _ _ _ _; rw [flat_snocD]; exact kO2
      clear HT HMP HBB hgr kO2 SR kN hgn HO
      have HT := HT2
      clear HT2
      try simp only [Act.put, List.setIfInBounds_toArray, List.set_cons_zero, List.set_cons_succ]
      refine wpAnyH_take (i := 8) (oi := ⟨some 39, _, _, _, _, _⟩) (v := ?vp247b8_7) rfl (by kernel_rfl) (by kernel_rfl) (by kernel_rfl) (fun _ _ _ h => h) (Or.inl ⟨by rfl, ?yp247b8_7⟩) hHeld ?rp247b8_7
      case yp247b8_7 => (intro w' hSw; (try dsimp only at hSw); go_simp; try (with_reducible rfl))
      simp only [Act.put, List.setIfInBounds_toArray, List.set_cons_zero, List.set_cons_succ]
      refine wpAnyH_take (i := 9) (oi := ⟨some 40, _, _, _, _, _⟩) (v := ?vp247b9_8) rfl (by kernel_rfl) (by kernel_rfl) (by kernel_rfl) (fun _ _ _ h => h) (Or.inl ⟨by rfl, ?yp247b9_8⟩) hHeld ?rp247b9_8
      case yp247b9_8 => (intro w' hSw; (try dsimp only at hSw); go_simp; try (with_reducible rfl))
      simp only [Act.put, List.setIfInBounds_toArray, List.set_cons_zero, List.set_cons_succ]
      refine wpAnyH_ready (rs := [10]) (by kernel_rfl) (by simp) ?_
      refine AllReadyH.cons (o := ⟨none, _, _, _, _, _⟩) rfl (fun K hK => ?_) AllReadyH.nil
      obtain ⟨A2, cap2, hv2⟩ := own_slD HO2.out
      subst hv2
      have kA := (HT.out.cell 0).trans rfl
      have gA := HT.out.free 0
      simp only [List.getElem?_toArray, List.getElem?_cons_zero] at kA
      go_simp
      clear kA gA
      refine hK.out _ _ trivial (fun hNext => ?_)
      clear hK K hHeld
      have hHeld := hNext
      clear hNext
      have hA2 := HT.out.set 0 (.slice A2 (l.length + 1) cap2)
      simp only [List.setIfInBounds_toArray, List.set_cons_zero] at hA2
      have hcs : Ch (· = B) u5 (u5.setCell ⟨B, 0, none⟩ (.slice A2 (l.length + 1) cap2)) := Ch.set u5 ⟨B, 0, none⟩ _
      have HR1 := Lib.hid hA2
      have HR2 := Lib.hid (hcs.own HO2.out (fun g hg e => by have e2 : g = B := e; subst e2; have := own_ge HO2.out hg; omega))
      have HR3 := Lib.hid (HM2.out.ch hcs (fun M' hM' e => by have e2 : M = M' := (by simpa [mBk] using hM'); subst e2; exact HNE.out.1 e))
      have HR4 : Hid (Ch (fun y => y = B ∨ sv.ownBlock = some y) wc (u5.setCell ⟨B, 0, none⟩ (.slice A2 (l.length + 1) cap2))) := (HC2.out.mono fun y _ hy => .inr hy).trans (hcs.mono fun y _ hy => .inl hy)
      clear hA2 hcs HT
      generalize u5.setCell ⟨B, 0, none⟩ (.slice A2 (l.length + 1) cap2) = u6 at HR1 HR2 HR3 HR4 ⊢
      try simp only [Act.put]
      refine wpAnyH_done (by kernel_rfl) ?_ _
      have HR := Lib.hid (And.intro HR1.out (And.intro HR2.out (And.intro HR3.out (And.intro HG2.out HR4.out))))
      go_wp2
      refine bodyPost_end (results_none rfl _ _ _) rfl ?_
      obtain ⟨r1, r2, r3, r4, r5⟩ := HR.out
      refine ⟨fun y => y = B ∨ some M = some y ∨ (Value.slice A2 (l.length + 1) cap2).ownBlock = some y, rfl, ⟨_, some M, r1, by rw [List.length_append]; exact r2, r3, fun M' hM' => ?_, fun _ => Iff.rfl⟩, fun y hy => ?_, ?_⟩
      · injection hM' with hM'
        subst hM'
        refine ⟨HMO.out.1, ?_⟩
        rcases r4 with h | ⟨k, h1, h2⟩
        · rw [h]; exact HMO.out.2
        · intro h
          rw [h1] at h
          injection h with h
          have := HCW9.out.size
          have := HLT.out
          omega
      · refine HNW.out y ?_
        rcases hy with h | h | h
        · exact .inl h
        · injection h with h; exact .inr (.inl h.symm)
        · rcases r4 with h1 | ⟨k, h1, h2⟩
          · exact .inr (.inr (.inl (by rw [← h1]; exact h)))
          · rw [h1] at h
            injection h with h
            have := HCW9.out.size
            have := HCW.out.size
            exact .inr (.inr (.inr (by omega)))
      · exact ch_thenD (ch_thenD HCW.out HCW9.out HCM.out) r5 HCO.out
    refine AllReadyH.cons (o := ⟨some 37, _, _, _, _, _⟩) rfl (fun K hK => ?_) AllReadyH.nil
    go_simp
    have hb := below1 u0 (.cells #[.int .u64 (uv c.vh), .int .u64 (uv c.vl), .int .u64 (uv c.ch), .int .u64 (uv c.cl)] 43)
    refine hK.out _ _ trivial (fun hNext => ?_)
    clear hK K hHeld
    have hHeld := hNext
    clear hNext
    have kN : Blk (u0.alloc (.cells #[.int .u64 (uv c.vh), .int .u64 (uv c.vl), .int .u64 (uv c.ch), .int .u64 (uv c.cl)] 43)) u0.heap.size 43 #[.int .u64 (uv c.vh), .int .u64 (uv c.vl), .int .u64 (uv c.ch), .int .u64 (uv c.cl)] := Blk.new u0 _ _
    have hgn : ∀ g, sv.ownBlock = some g → g ≠ u0.heap.size := fun g hg => Nat.ne_of_lt (HO.out.lt g hg).2
    have HT2 := Lib.hid (HT.out.on hb)
    have HO2 := Lib.hid (own_on HO.out hb)
    have HM2 := Lib.hid (HMP.out.ch (Q := fun _ => False) (Ch.of_below hb) (fun _ _ h => h))
    have HBB2 := Lib.hid (HBB.out.trans (hb.mono HBB.out.size))
    clear HT HO HMP HBB hb
    have HT := HT2
    have HO := HO2
    have HMP := HM2
    have HBB := HBB2
    clear HT2 HO2 HM2 HBB2
    generalize hgen : (u0.alloc (.cells #[.int .u64 (uv c.vh), .int .u64 (uv c.vl), .int .u64 (uv c.ch), .int .u64 (uv c.cl)] 43)) = u7 at HT HO HMP HBB kN ⊢
    clear hgen
    generalize hgen : u0.heap.size = bN at kN hgn ⊢
    clear hgen
    try simp only [Act.put, List.setIfInBounds_toArray, List.set_cons_zero, List.set_cons_succ]
    refine wpAnyH_ready (rs := [4]) (by kernel_rfl) (by simp) ?_
    refine AllReadyH.cons (o := ⟨some 35, _, _, _, _, _⟩) rfl (fun K hK => ?_) AllReadyH.nil
    have kA := (HT.out.cell 0).trans rfl
    simp only [List.getElem?_toArray, List.getElem?_cons_zero] at kA
    go_simp
    refine hK.out _ _ trivial (fun hNext => ?_)
    clear hK K hHeld
    have hHeld := hNext
    clear hNext
    clear kA
    try simp only [Act.put, List.setIfInBounds_toArray, List.set_cons_zero, List.set_cons_succ]
    refine wpAnyH_ready (rs := [7]) (by kernel_rfl) (by simp) ?_
    refine AllReadyH.cons (o := ⟨some 38, _, _, _, _, _⟩) rfl (fun K hK => ?_) AllReadyH.nil
    have SR := src_cbD kN
    refine step_appD _ rfl (.tmp 35) (.tmp 37) 32 rfl (B + 1) 43 ic _ 4 32 Try.underlying32 hic hcz0 hcz1 hcz2 rfl (by decide) sv l.length (flat l) rfl HO.out _ 1 (flat [c]) rfl SR (by unfold maxLen; omega) (by omega) (by have := HT.out.lt; omega) ?_
    intro v2 u8 kO2 hgr
    refine hK.out _ _ trivial (fun hNext => ?_)
    clear hK K hHeld
    have hHeld := hNext
    clear hNext
    have HT2 := Lib.hid (HT.out.grown hgr.1 (fun e => (HGB.out _ e.symm).1 rfl))
    have HM2 : Hid (StAt u8 (.map (some M)) (l ++ [c])) := HMP.out.ch (Q := fun k => sv.ownBlock = some k) ⟨hgr.1.os, hgr.1.tape, hgr.1.output, hgr.1.size, fun k hk hn => hgr.1.block k hk (fun e => hn e.symm)⟩ (fun M' hM' e => by have e2 : M = M' := (by simpa [mBk] using hM'); subst e2; exact HMO.out.2 e)
    have HC2 : Hid (Ch (fun k => sv.ownBlock = some k) wc u8) := ch_thenD (Ch.of_below HBB.out) (⟨hgr.1.os, hgr.1.tape, hgr.1.output, hgr.1.size, fun k hk hn => hgr.1.block k hk (fun e => hn e.symm)⟩ : Ch (fun k => sv.ownBlock = some k) _ _) (fun _ _ h => h)
    have HG2 : Hid (v2.ownBlock = sv.ownBlock ∨ ∃ k, v2.ownBlock = some k ∧ wc.heap.size ≤ k) := hgr.2.imp id fun ⟨k, h1, h2⟩ => ⟨k, h1, Nat.le_trans HBB.out.size h2⟩
    have HO2 : Hid (u8.ownsRow (B + 1) 43 4 v2 (l.length + 1) (flat (l ++ [c]))) := by show World.ownsRow _ _ _ _ _ _ _; rw [flat_snocD]; exact kO2
    clear HT HMP HBB hgr kO2 SR kN hgn HO
    have HT := HT2
    clear HT2
    try simp only [Act.put, List.setIfInBounds_toArray, List.set_cons_zero, List.set_cons_succ]
    refine wpAnyH_take (i := 8) (oi := ⟨some 39, _, _, _, _, _⟩) (v := ?vp247b8_9) rfl (by kernel_rfl) (by kernel_rfl) (by kernel_rfl) (fun _ _ _ h => h) (Or.inl ⟨by rfl, ?yp247b8_9⟩) hHeld ?rp247b8_9
    case yp247b8_9 => (intro w' hSw; (try dsimp only at hSw); go_simp; try (with_reducible rfl))
    simp only [Act.put, List.setIfInBounds_toArray, List.set_cons_zero, List.set_cons_succ]
    refine wpAnyH_take (i := 9) (oi := ⟨some 40, _, _, _, _, _⟩) (v := ?vp247b9_10) rfl (by kernel_rfl) (by kernel_rfl) (by kernel_rfl) (fun _ _ _ h => h) (Or.inl ⟨by rfl, ?yp247b9_10⟩) hHeld ?rp247b9_10
    case yp247b9_10 => (intro w' hSw; (try dsimp only at hSw); go_simp; try (with_reducible rfl))
    simp only [Act.put, List.setIfInBounds_toArray, List.set_cons_zero, List.set_cons_succ]
    refine wpAnyH_ready (rs := [10]) (by kernel_rfl) (by simp) ?_
    refine AllReadyH.cons (o := ⟨none, _, _, _, _, _⟩) rfl (fun K hK => ?_) AllReadyH.nil
    obtain ⟨A2, cap2, hv2⟩ := own_slD HO2.out
    subst hv2
    have kA := (HT.out.cell 0).trans rfl
    have gA := HT.out.free 0
    simp only [List.getElem?_toArray, List.getElem?_cons_zero] at kA
    go_simp
    clear kA gA
    refine hK.out _ _ trivial (fun hNext => ?_)
    clear hK K hHeld
    have hHeld := hNext
    clear hNext
    have hA2 := HT.out.set 0 (.slice A2 (l.length + 1) cap2)
    simp only [List.setIfInBounds_toArray, List.set_cons_zero] at hA2
    have hcs : Ch (· = B) u8 (u8.setCell ⟨B, 0, none⟩ (.slice A2 (l.length + 1) cap2)) := Ch.set u8 ⟨B, 0, none⟩ _
    have HR1 := Lib.hid hA2
    have HR2 := Lib.hid (hcs.own HO2.out (fun g hg e => by have e2 : g = B := e; subst e2; have := own_ge HO2.out hg; omega))
    have HR3 := Lib.hid (HM2.out.ch hcs (fun M' hM' e => by have e2 : M = M' := (by simpa [mBk] using hM'); subst e2; exact HNE.out.1 e))
    have HR4 : Hid (Ch (fun y => y = B ∨ sv.ownBlock = some y) wc (u8.setCell ⟨B, 0, none⟩ (.slice A2 (l.length + 1) cap2))) := (HC2.out.mono fun y _ hy => .inr hy).trans (hcs.mono fun y _ hy => .inl hy)
    clear hA2 hcs HT
    generalize u8.setCell ⟨B, 0, none⟩ (.slice A2 (l.length + 1) cap2) = u9 at HR1 HR2 HR3 HR4 ⊢
    try simp only [Act.put]
    refine wpAnyH_done (by kernel_rfl) ?_ _
    have HR := Lib.hid (And.intro HR1.out (And.intro HR2.out (And.intro HR3.out (And.intro HG2.out HR4.out))))
    go_wp2
    refine bodyPost_end (results_none rfl _ _ _) rfl ?_
    obtain ⟨r1, r2, r3, r4, r5⟩ := HR.out
    refine ⟨fun y => y = B ∨ some M = some y ∨ (Value.slice A2 (l.length + 1) cap2).ownBlock = some y, rfl, ⟨_, some M, r1, by rw [List.length_append]; exact r2, r3, fun M' hM' => ?_, fun _ => Iff.rfl⟩, fun y hy => ?_, ?_⟩
    · injection hM' with hM'
      subst hM'
      refine ⟨HMO.out.1, ?_⟩
      rcases r4 with h | ⟨k, h1, h2⟩
      · rw [h]; exact HMO.out.2
      · intro h
        rw [h1] at h
        injection h with h
        have := HCW9.out.size
        have := HLT.out
        omega
    · refine HNW.out y ?_
      rcases hy with h | h | h
      · exact .inl h
      · injection h with h; exact .inr (.inl h.symm)
      · rcases r4 with h1 | ⟨k, h1, h2⟩
        · exact .inr (.inr (.inl (by rw [← h1]; exact h)))
        · rw [h1] at h
          injection h with h
          have := HCW9.out.size
          have := HCW.out.size
          exact .inr (.inr (.inr (by omega)))
    · exact ch_thenD (ch_thenD HCW.out HCW9.out HCM.out) r5 HCO.out
set_option maxRecDepth 100000 in
set_option maxHeartbeats 4000000 in
theorem dadd_none (c : Cb) (B : Nat) (l : List Cb) (sv : Value) (S : Nat → Prop) (w : World) (hN : Blk w B 72 #[sv, .map none]) (hO : w.ownsRow (B + 1) 43 4 sv l.length (flat l)) (hSt : StAt w (.map none) l) (hin : decide (c ∈ l) = false) (hlen : l.length ≤ 1099511627776) (hS : ∀ y, S y ↔ y = B ∨ (none : Option Nat) = some y ∨ sv.ownBlock = some y) : Calls Try.prog 23 #[.pointer (some ⟨B, 0, none⟩), .agg #[.int .u64 (uv c.vh), .int .u64 (uv c.vl), .int .u64 (uv c.ch), .int .u64 (uv c.cl)]] w (DsTo w B (l ++ [c]) S) := by
  have HLEN : Hid (l.length < maxLen) := by show l.length < maxLen; unfold maxLen; omega
  have HNI : Hid (c ∉ l) := of_decide_eq_false hin
  have HSS := Lib.hid hS
  have HBL := Lib.hid hN.lt
  have HGL : Hid (∀ g, sv.ownBlock = some g → B < g ∧ g < w.heap.size) := fun g hg => ⟨by have := (hO.lt g hg).1; omega, (hO.lt g hg).2⟩
  clear hS
  have hb1 := below1 w (.cells #[.int .u64 (uv c.vh), .int .u64 (uv c.vl), .int .u64 (uv c.ch), .int .u64 (uv c.cl)] 43)
  have HX : Hid (Blk (w.alloc (.cells #[.int .u64 (uv c.vh), .int .u64 (uv c.vl), .int .u64 (uv c.ch), .int .u64 (uv c.cl)] 43)) w.heap.size 43 #[.int .u64 (uv c.vh), .int .u64 (uv c.vl), .int .u64 (uv c.ch), .int .u64 (uv c.cl)]) := Blk.new w _ _
  have HN := Lib.hid (hN.on hb1)
  have HST := Lib.hid (hSt.ch (Q := fun _ => False) (Ch.of_below hb1) (fun _ _ h => h))
  have HS := Lib.hid hb1
  have HIN := Lib.hid hin
  have HO := Lib.hid (own_on hO hb1)
  clear hb1 hN hSt hin hO
  go_enter Try.func23, Try.ntmps23
  go_upto_region 1 with (fail)
  generalize w.alloc (.cells #[.int .u64 (uv c.vh), .int .u64 (uv c.vl), .int .u64 (uv c.ch), .int .u64 (uv c.cl)] 43) = w1 at HX HS HN HST HO ⊢
  generalize hbx : w.heap.size = bx at HX HS ⊢
  have HE := Lib.hid hbx
  clear hbx
  have HKP : Hid (∀ W, Below w1.heap.size w1 W → (Below w1.heap.size w1 W ∧ W.cell? ⟨B, 1, none⟩ = some (.map none) ∧ W.cell? ⟨bx, 0, none⟩ = some (.int .u64 (uv c.vh)) ∧ W.cell? ⟨bx, 1, none⟩ = some (.int .u64 (uv c.vl)) ∧ W.cell? ⟨bx, 2, none⟩ = some (.int .u64 (uv c.ch)) ∧ W.cell? ⟨bx, 3, none⟩ = some (.int .u64 (uv c.cl)) ∧ (Instr.lookup 70 (.map none) (.agg #[.int .u64 (uv c.vh), .int .u64 (uv c.vl), .int .u64 (uv c.ch), .int .u64 (uv c.cl)]) true).run Try.prog W = .ok (.tuple #[.agg #[], .bool false]) W)) := fun W hb => ⟨hb, ((HN.out.on hb).cell 1).trans rfl, ((HX.out.on hb).cell 0).trans rfl, ((HX.out.on hb).cell 1).trans rfl, ((HX.out.on hb).cell 2).trans rfl, ((HX.out.on hb).cell 3).trans rfl, by have := st_look c (HST.out.ch (Q := fun _ => False) (Ch.of_below hb) (fun _ _ h => h)); rw [HIN.out] at this; exact this⟩
  refine wp_region_held_drew (S := fun w' => Below w1.heap.size w1 w' ∧ w'.cell? ⟨B, 1, none⟩ = some (.map none) ∧ w'.cell? ⟨bx, 0, none⟩ = some (.int .u64 (uv c.vh)) ∧ w'.cell? ⟨bx, 1, none⟩ = some (.int .u64 (uv c.vl)) ∧ w'.cell? ⟨bx, 2, none⟩ = some (.int .u64 (uv c.ch)) ∧ w'.cell? ⟨bx, 3, none⟩ = some (.int .u64 (uv c.cl)) ∧ (Instr.lookup 70 (.map none) (.agg #[.int .u64 (uv c.vh), .int .u64 (uv c.vl), .int .u64 (uv c.ch), .int .u64 (uv c.cl)]) true).run Try.prog w' = .ok (.tuple #[.agg #[], .bool false]) w') (by kernel_rfl) (HKP.out _ (Below.refl _ w1).drew) (fun hHeld => ?_)
  have hB : Below w1.heap.size w1 w1.drew := (Below.refl _ w1).drew
  generalize w1.drew = u0 at hHeld hB ⊢
  refine wpAnyH_take (i := 0) (oi := ⟨some 7, _, _, _, _, _⟩) (v := ?vq0_1) rfl (by kernel_rfl) (by kernel_rfl) (by kernel_rfl) (fun _ _ _ h => h) (Or.inl ⟨by rfl, ?yq0_1⟩) hHeld ?rq0_1
  case yq0_1 => (intro w' hSw; (try dsimp only at hSw); go_simp; try (with_reducible rfl))
  simp only [Act.put, List.setIfInBounds_toArray, List.set_cons_zero, List.set_cons_succ]
  refine wpAnyH_take (i := 1) (oi := ⟨some 8, _, _, _, _, _⟩) (v := ?vq1_2) rfl (by kernel_rfl) (by kernel_rfl) (by kernel_rfl) (fun _ _ _ h => h) (Or.inl ⟨by rfl, ?yq1_2⟩) hHeld ?rq1_2
  case yq1_2 => (intro w' hSw; (try dsimp only at hSw); go_simp; try (with_reducible rfl))
  simp only [Act.put, List.setIfInBounds_toArray, List.set_cons_zero, List.set_cons_succ]
  refine wpAnyH_take (i := 2) (oi := ⟨some 9, _, _, _, _, _⟩) (v := ?vq2_3) rfl (by kernel_rfl) (by kernel_rfl) (by kernel_rfl) (fun _ _ _ h => h) (Or.inl ⟨by rfl, ?yq2_3⟩) hHeld ?rq2_3
  case yq2_3 => (intro w' hSw; (try dsimp only at hSw); go_simp; try (with_reducible rfl))
  simp only [Act.put, List.setIfInBounds_toArray, List.set_cons_zero, List.set_cons_succ]
  refine wpAnyH_take (i := 3) (oi := ⟨some 10, _, _, _, _, _⟩) (v := ?vq3_4) rfl (by kernel_rfl) (by kernel_rfl) (by kernel_rfl) (fun _ _ _ h => h) (Or.inl ⟨by rfl, ?yq3_4⟩) hHeld ?rq3_4
  case yq3_4 => (intro w' hSw; (try dsimp only at hSw); go_simp; try (with_reducible rfl))
  simp only [Act.put, List.setIfInBounds_toArray, List.set_cons_zero, List.set_cons_succ]
  refine wpAnyH_take (i := 4) (oi := ⟨some 11, _, _, _, _, _⟩) (v := ?vq4_5) rfl (by kernel_rfl) (by kernel_rfl) (by kernel_rfl) (fun _ _ _ h => h) (Or.inl ⟨by rfl, ?yq4_5⟩) hHeld ?rq4_5
  case yq4_5 => (intro w' hSw; (try dsimp only at hSw); go_simp; try (with_reducible rfl))
  simp only [Act.put, List.setIfInBounds_toArray, List.set_cons_zero, List.set_cons_succ]
  refine wpAnyH_take (i := 5) (oi := ⟨some 12, _, _, _, _, _⟩) (v := ?vq5_6) rfl (by kernel_rfl) (by kernel_rfl) (by kernel_rfl) (fun _ _ _ h => h) (Or.inl ⟨by rfl, ?yq5_6⟩) hHeld ?rq5_6
  case yq5_6 => (intro w' hSw; (try dsimp only at hSw); go_simp; try (with_reducible rfl))
  simp only [Act.put, List.setIfInBounds_toArray, List.set_cons_zero, List.set_cons_succ]
  refine wpAnyH_take (i := 6) (oi := ⟨some 6, _, _, _, _, _⟩) (v := ?vq6_7) rfl (by kernel_rfl) (by kernel_rfl) (by kernel_rfl) (fun _ _ _ h => h) (Or.inl ⟨by rfl, ?yq6_7⟩) hHeld ?rq6_7
  case yq6_7 => (intro w' hSw; (try dsimp only at hSw); go_simp; try (with_reducible rfl))
  simp only [Act.put, List.setIfInBounds_toArray, List.set_cons_zero, List.set_cons_succ]
  refine wpAnyH_take (i := 7) (oi := ⟨some 13, _, _, _, _, _⟩) (v := ?vq7_8) rfl (by kernel_rfl) (by kernel_rfl) (by kernel_rfl) (fun _ _ _ h => h) (Or.inl ⟨by rfl, ?yq7_8⟩) hHeld ?rq7_8
  case yq7_8 => (intro w' hSw; (try dsimp only at hSw); go_simp; try (with_reducible rfl))
  simp only [Act.put, List.setIfInBounds_toArray, List.set_cons_zero, List.set_cons_succ]
  refine wpAnyH_take (i := 8) (oi := ⟨some 14, _, _, _, _, _⟩) (v := ?vq8_9) rfl (by kernel_rfl) (by kernel_rfl) (by kernel_rfl) (fun _ _ _ h => h) (Or.inl ⟨by rfl, ?yq8_9⟩) hHeld ?rq8_9
  case yq8_9 => (intro w' hSw; (try dsimp only at hSw); go_simp; try (with_reducible rfl))
  simp only [Act.put, List.setIfInBounds_toArray, List.set_cons_zero, List.set_cons_succ]
  refine wpAnyH_ready (rs := [9]) (by kernel_rfl) (by simp) ?_
  refine AllReadyH.cons (o := ⟨some 4, _, _, _, _, _⟩) rfl (fun K hK => ?_) AllReadyH.nil
  go_simp
  have hb := below1 u0 (.cells #[] 105)
  have hB2 := hB.trans (hb.mono hB.size)
  refine hK.out _ _ (HKP.out _ hB2) (fun hNext => ?_)
  clear hK K hHeld
  have hHeld := hNext
  clear hNext
  clear hB
  have hB := hB2
  clear hB2
  have t_e : Blk (u0.alloc (.cells #[] 105)) u0.heap.size 105 #[] := Blk.new u0 _ _
  generalize hgen : (u0.alloc (.cells #[] 105)) = u1 at hHeld hB t_e hb ⊢
  clear hgen hb
  generalize hgen : u0.heap.size = b_e at t_e ⊢
  clear hgen
  try simp only [Act.put, List.setIfInBounds_toArray, List.set_cons_zero, List.set_cons_succ]
  refine wpAnyH_ready (rs := [10]) (by kernel_rfl) (by simp) ?_
  refine AllReadyH.cons (o := ⟨none, _, _, _, _, _⟩) rfl (fun K hK => ?_) AllReadyH.nil
  go_simp
  refine hK.out _ _ hHeld (fun hNext => ?_)
  clear hK K hHeld
  have hHeld := hNext
  clear hNext
  clear t_e
  try simp only [Act.put]
  refine wpAnyH_take (i := 11) (oi := ⟨some 5, _, _, _, _, _⟩) (v := ?vq11_10) rfl (by kernel_rfl) (by kernel_rfl) (by kernel_rfl) (fun _ _ _ h => h) (Or.inl ⟨by rfl, ?yq11_10⟩) hHeld ?rq11_10
  case yq11_10 => (intro w' hSw; (try dsimp only at hSw); go_simp; try (with_reducible rfl))
  simp only [Act.put, List.setIfInBounds_toArray, List.set_cons_zero, List.set_cons_succ]
  refine wpAnyH_done (by kernel_rfl) ?_ _
  have HT3 := Lib.hid (HN.out.on hB)
  have HX3 := Lib.hid (HX.out.on hB)
  have HO3 := Lib.hid (own_on HO.out hB)
  have HM3 := Lib.hid (HST.out.ch (Q := fun _ => False) (Ch.of_below hB) (fun _ _ h => h))
  have hs1 := HS.out
  have hbz := HE.out
  rw [← HE.out] at hs1
  have HB3 := Lib.hid (hs1.trans (hB.mono hs1.size))
  clear hHeld hB HKP hs1 HN HX HO HST HS
  generalize u1 = w4 at HT3 HX3 HO3 HM3 HB3 ⊢
  have hl0 : l = [] := by
    rcases HM3.out with ⟨_, h⟩ | ⟨M', D, h, _⟩
    · exact h
    · cases h
  have hmm := @run_makeMap Try.prog
  have d1 := (HT3.out.cell 1).trans rfl
  have hb4 := below1 w4 (.map #[] 0)
  have e1 := ((HT3.out.on hb4).cell 1).trans rfl
  have g1 := (HT3.out.on hb4).free 1
  simp only [List.getElem?_toArray, List.getElem?_cons_succ, List.getElem?_cons_zero] at d1 e1
  have hcs : Ch (· = B) (w4.alloc (.map #[] 0)) ((w4.alloc (.map #[] 0)).setCell ⟨B, 1, none⟩ (.map (some w4.heap.size))) := Ch.set _ ⟨B, 1, none⟩ _
  have hBbx : bx ≠ B := fun e => by have := HBL.out; omega
  have hBM : B < w4.heap.size := by have := HT3.out.lt; omega
  have hMbx : w4.heap.size ≠ bx := by have := HX3.out.lt; omega
  have HT := Lib.hid ((HT3.out.on hb4).set 1 (.map (some w4.heap.size)))
  have HX := Lib.hid ((HX3.out.on hb4).far (p := ⟨B, 1, none⟩) (fun e => hBbx e) (.map (some w4.heap.size)))
  have HO := Lib.hid (hcs.own (own_on HO3.out hb4) (fun g hg e => by have e2 : g = B := e; subst e2; have := HGL.out g hg; omega))
  have HM : Hid (StAt ((w4.alloc (.map #[] 0)).setCell ⟨B, 1, none⟩ (.map (some w4.heap.size))) (.map (some w4.heap.size)) l) := by
    show StAt _ _ _
    rw [hl0]
    exact (StAt.made w4).ch hcs (fun M' hM' e => by have e2 : w4.heap.size = M' := (by simpa [mBk] using hM'); subst e2; have e3 : w4.heap.size = B := e; omega)
  have HMO : Hid (B < w4.heap.size ∧ sv.ownBlock ≠ some w4.heap.size) := ⟨hBM, fun h => by have := HGL.out _ h; have := HB3.out.size; omega⟩
  have HNE : Hid (w4.heap.size ≠ B ∧ w4.heap.size ≠ bx) := ⟨by omega, hMbx⟩
  have HLT : Hid (w4.heap.size < ((w4.alloc (.map #[] 0)).setCell ⟨B, 1, none⟩ (.map (some w4.heap.size))).heap.size) := by show w4.heap.size < _; simp [World.setCell]
  have HGB : Hid (∀ g, sv.ownBlock = some g → B ≠ g ∧ bx ≠ g) := fun g hg => ⟨by have := HGL.out g hg; omega, by have := HGL.out g hg; omega⟩
  have HCW : Hid (Ch S w ((w4.alloc (.map #[] 0)).setCell ⟨B, 1, none⟩ (.map (some w4.heap.size)))) := ch_thenD (ch_thenD (Ch.of_below HB3.out) (Ch.of_below hb4 : Ch (fun _ => False) _ _) (fun _ _ h => h.elim)) hcs (fun y _ hy => (HSS.out y).2 (.inl hy))
  have HNW : Hid (∀ y, (y = B ∨ y = w4.heap.size ∨ sv.ownBlock = some y ∨ w.heap.size ≤ y) → S y ∨ w.heap.size ≤ y) := by
    rintro y (h | h | h | h)
    · exact .inl ((HSS.out y).2 (.inl h))
    · exact .inr (by have := HB3.out.size; omega)
    · exact .inl ((HSS.out y).2 (.inr (.inr h)))
    · exact .inr h
  have HCM : Hid (∀ y, y < w.heap.size → y = w4.heap.size → S y) := fun y h1 h2 => by have := HB3.out.size; omega
  have HCO : Hid (∀ y, y < w.heap.size → (y = B ∨ sv.ownBlock = some y) → S y) := fun y _ hy => (HSS.out y).2 (hy.imp_right .inr)
  clear hl0 hcs hBbx hBM hMbx hb4 hbz HT3 HX3 HO3 HM3 HB3
  simp only [List.setIfInBounds_toArray, List.set_cons_succ, List.set_cons_zero] at HT
  go_upto_region 5 with (fail)
  generalize hw5 : (w4.alloc (.map #[] 0)).setCell ⟨B, 1, none⟩ (.map (some w4.heap.size)) = w5 at HT HX HO HM HCW HLT ⊢
  clear hw5 hmm d1 e1 g1
  go_upto_region 5 with (fail)
  go_cut [] (fun wd => StAt wd (.map (some w4.heap.size)) (l ++ [c]) ∧ Ch (· = w4.heap.size) w5 wd)
  case first =>
    have hbd := (Below.refl w5.heap.size w5).drew
    have HKP : Hid (w5.drew.cell? ⟨B, 1, none⟩ = some (.map (some w4.heap.size)) ∧ w5.drew.cell? ⟨bx, 0, none⟩ = some (.int .u64 (uv c.vh)) ∧ w5.drew.cell? ⟨bx, 1, none⟩ = some (.int .u64 (uv c.vl)) ∧ w5.drew.cell? ⟨bx, 2, none⟩ = some (.int .u64 (uv c.ch)) ∧ w5.drew.cell? ⟨bx, 3, none⟩ = some (.int .u64 (uv c.cl))) := ⟨((HT.out.on hbd).cell 1).trans rfl, ((HX.out.on hbd).cell 0).trans rfl, ((HX.out.on hbd).cell 1).trans rfl, ((HX.out.on hbd).cell 2).trans rfl, ((HX.out.on hbd).cell 3).trans rfl⟩
    have HM0 := Lib.hid (HM.out.ch (Q := fun _ => False) (Ch.of_below hbd) (fun _ _ h => h))
    have HCD : Hid (Ch (· = w4.heap.size) w5 w5.drew) := Ch.of_below hbd
    clear hbd HM
    have HM := HM0
    clear HM0
    refine wp_region_held_drew (S := fun w' => w'.cell? ⟨B, 1, none⟩ = some (.map (some w4.heap.size)) ∧ w'.cell? ⟨bx, 0, none⟩ = some (.int .u64 (uv c.vh)) ∧ w'.cell? ⟨bx, 1, none⟩ = some (.int .u64 (uv c.vl)) ∧ w'.cell? ⟨bx, 2, none⟩ = some (.int .u64 (uv c.ch)) ∧ w'.cell? ⟨bx, 3, none⟩ = some (.int .u64 (uv c.cl))) (by kernel_rfl) (HKP.out) (fun hHeld => ?_)
    clear HKP
    generalize w5.drew = u0 at hHeld HM HCD ⊢
    refine wpAnyH_take (i := 0) (oi := ⟨some 25, _, _, _, _, _⟩) (v := ?vq815a0_1) rfl (by kernel_rfl) (by kernel_rfl) (by kernel_rfl) (fun _ _ _ h => h) (Or.inl ⟨by rfl, ?yq815a0_1⟩) hHeld ?rq815a0_1
    case yq815a0_1 => (intro w' hSw; (try dsimp only at hSw); go_simp; try (with_reducible rfl))
    simp only [Act.put, List.setIfInBounds_toArray, List.set_cons_zero, List.set_cons_succ]
    refine wpAnyH_take (i := 1) (oi := ⟨some 26, _, _, _, _, _⟩) (v := ?vq815a1_2) rfl (by kernel_rfl) (by kernel_rfl) (by kernel_rfl) (fun _ _ _ h => h) (Or.inl ⟨by rfl, ?yq815a1_2⟩) hHeld ?rq815a1_2
    case yq815a1_2 => (intro w' hSw; (try dsimp only at hSw); go_simp; try (with_reducible rfl))
    simp only [Act.put, List.setIfInBounds_toArray, List.set_cons_zero, List.set_cons_succ]
    refine wpAnyH_take (i := 2) (oi := ⟨some 27, _, _, _, _, _⟩) (v := ?vq815a2_3) rfl (by kernel_rfl) (by kernel_rfl) (by kernel_rfl) (fun _ _ _ h => h) (Or.inl ⟨by rfl, ?yq815a2_3⟩) hHeld ?rq815a2_3
    case yq815a2_3 => (intro w' hSw; (try dsimp only at hSw); go_simp; try (with_reducible rfl))
    simp only [Act.put, List.setIfInBounds_toArray, List.set_cons_zero, List.set_cons_succ]
    refine wpAnyH_take (i := 3) (oi := ⟨some 28, _, _, _, _, _⟩) (v := ?vq815a3_4) rfl (by kernel_rfl) (by kernel_rfl) (by kernel_rfl) (fun _ _ _ h => h) (Or.inl ⟨by rfl, ?yq815a3_4⟩) hHeld ?rq815a3_4
    case yq815a3_4 => (intro w' hSw; (try dsimp only at hSw); go_simp; try (with_reducible rfl))
    simp only [Act.put, List.setIfInBounds_toArray, List.set_cons_zero, List.set_cons_succ]
    refine wpAnyH_take (i := 4) (oi := ⟨some 29, _, _, _, _, _⟩) (v := ?vq815a4_5) rfl (by kernel_rfl) (by kernel_rfl) (by kernel_rfl) (fun _ _ _ h => h) (Or.inl ⟨by rfl, ?yq815a4_5⟩) hHeld ?rq815a4_5
    case yq815a4_5 => (intro w' hSw; (try dsimp only at hSw); go_simp; try (with_reducible rfl))
    simp only [Act.put, List.setIfInBounds_toArray, List.set_cons_zero, List.set_cons_succ]
    refine wpAnyH_take (i := 5) (oi := ⟨some 30, _, _, _, _, _⟩) (v := ?vq815a5_6) rfl (by kernel_rfl) (by kernel_rfl) (by kernel_rfl) (fun _ _ _ h => h) (Or.inl ⟨by rfl, ?yq815a5_6⟩) hHeld ?rq815a5_6
    case yq815a5_6 => (intro w' hSw; (try dsimp only at hSw); go_simp; try (with_reducible rfl))
    simp only [Act.put, List.setIfInBounds_toArray, List.set_cons_zero, List.set_cons_succ]
    refine wpAnyH_ready (rs := [6]) (by kernel_rfl) (by simp) ?_
    refine AllReadyH.cons (o := ⟨none, _, _, _, _, _⟩) rfl (fun K hK => ?_) AllReadyH.nil
    obtain ⟨u1, hr1, hm1, hc1⟩ := st_put (c := c) HM.out HNI.out HLEN.out
    unfold cbV at hr1
    go_simp
    refine hK.out _ _ ⟨hc1.cell hHeld.1 (fun e => HNE.out.1 e.symm), hc1.cell hHeld.2.1 (fun e => HNE.out.2 e.symm), hc1.cell hHeld.2.2.1 (fun e => HNE.out.2 e.symm), hc1.cell hHeld.2.2.2.1 (fun e => HNE.out.2 e.symm), hc1.cell hHeld.2.2.2.2 (fun e => HNE.out.2 e.symm)⟩ (fun hNext => ?_)
    clear hK K hHeld
    have hHeld := hNext
    clear hNext
    clear hr1
    try simp only [Act.put]
    refine wpAnyH_done (by kernel_rfl) ?_ _
    go_wp2_with fail
    go_meet
    exact ⟨hm1, HCD.out.trans hc1⟩
  case rest =>
    obtain ⟨hm9, hc9⟩ := hcut
    have HMP9 := Lib.hid hm9
    have HT9 := Lib.hid (hc9.blk HT.out (fun e => HNE.out.1 e.symm))
    have HX9 := Lib.hid (hc9.blk HX.out (fun e => HNE.out.2 e.symm))
    have HO9 := Lib.hid (hc9.own HO.out (fun g hg e => by have e2 : g = w4.heap.size := e; subst e2; exact HMO.out.2 hg))
    have HCW9 := Lib.hid hc9
    clear hm9 hc9 HT HX HO HM
    go_upto_region 6 with (fail)
    have hbd := (Below.refl wc.heap.size wc).drew
    have HT := Lib.hid (HT9.out.on hbd)
    have HX := Lib.hid (HX9.out.on hbd)
    have HO := Lib.hid (own_on HO9.out hbd)
    have HMP := Lib.hid (HMP9.out.ch (Q := fun _ => False) (Ch.of_below hbd) (fun _ _ h => h))
    have HBB := Lib.hid hbd
    obtain ⟨ic, hic, hcz0, hcz1, hcz2⟩ := info_parts infoCbD
    clear hbd HT9 HX9 HO9 HMP9
    refine wp_region_held_drew (S := fun _ => True) (by kernel_rfl) trivial (fun hHeld => ?_)
    generalize wc.drew = u0 at hHeld HT HX HO HMP HBB ⊢
    refine wpAnyH_take (i := 0) (oi := ⟨some 31, _, _, _, _, _⟩) (v := ?vq815b0_1) rfl (by kernel_rfl) (by kernel_rfl) (by kernel_rfl) (fun _ _ _ h => h) (Or.inl ⟨by rfl, ?yq815b0_1⟩) hHeld ?rq815b0_1
    case yq815b0_1 => (intro w' hSw; (try dsimp only at hSw); go_simp; try (with_reducible rfl))
    simp only [Act.put, List.setIfInBounds_toArray, List.set_cons_zero, List.set_cons_succ]
    refine wpAnyH_take (i := 1) (oi := ⟨some 32, _, _, _, _, _⟩) (v := ?vq815b1_2) rfl (by kernel_rfl) (by kernel_rfl) (by kernel_rfl) (fun _ _ _ h => h) (Or.inl ⟨by rfl, ?yq815b1_2⟩) hHeld ?rq815b1_2
    case yq815b1_2 => (intro w' hSw; (try dsimp only at hSw); go_simp; try (with_reducible rfl))
    simp only [Act.put, List.setIfInBounds_toArray, List.set_cons_zero, List.set_cons_succ]
    refine wpAnyH_take (i := 2) (oi := ⟨some 33, _, _, _, _, _⟩) (v := ?vq815b2_3) rfl (by kernel_rfl) (by kernel_rfl) (by kernel_rfl) (fun _ _ _ h => h) (Or.inl ⟨by rfl, ?yq815b2_3⟩) hHeld ?rq815b2_3
    case yq815b2_3 => (intro w' hSw; (try dsimp only at hSw); go_simp; try (with_reducible rfl))
    simp only [Act.put, List.setIfInBounds_toArray, List.set_cons_zero, List.set_cons_succ]
    refine wpAnyH_take (i := 3) (oi := ⟨some 34, _, _, _, _, _⟩) (v := ?vq815b3_4) rfl (by kernel_rfl) (by kernel_rfl) (by kernel_rfl) (fun _ _ _ h => h) (Or.inl ⟨by rfl, ?yq815b3_4⟩) hHeld ?rq815b3_4
    case yq815b3_4 => (intro w' hSw; (try dsimp only at hSw); go_simp; try (with_reducible rfl))
    simp only [Act.put, List.setIfInBounds_toArray, List.set_cons_zero, List.set_cons_succ]
    refine wpAnyH_ready (rs := [4, 5]) (by kernel_rfl) (by simp) ?_
    refine AllReadyH.cons (o := ⟨some 35, _, _, _, _, _⟩) rfl (fun K hK => ?_) ?_
    · have kA := (HT.out.cell 0).trans rfl
      simp only [List.getElem?_toArray, List.getElem?_cons_zero] at kA
      go_simp
      refine hK.out _ _ trivial (fun hNext => ?_)
      clear hK K hHeld
      have hHeld := hNext
      clear hNext
      clear kA
      try simp only [Act.put, List.setIfInBounds_toArray, List.set_cons_zero, List.set_cons_succ]
      refine wpAnyH_ready (rs := [5]) (by kernel_rfl) (by simp) ?_
      refine AllReadyH.cons (o := ⟨some 36, _, _, _, _, _⟩) rfl (fun K hK => ?_) AllReadyH.nil
      have x0 := (HX.out.cell 0).trans rfl
      have x1 := (HX.out.cell 1).trans rfl
      have x2 := (HX.out.cell 2).trans rfl
      have x3 := (HX.out.cell 3).trans rfl
      simp only [List.getElem?_toArray, List.getElem?_cons_succ, List.getElem?_cons_zero] at x0 x1 x2 x3
      go_simp
      refine hK.out _ _ trivial (fun hNext => ?_)
      clear hK K hHeld
      have hHeld := hNext
      clear hNext
      clear x0 x1 x2 x3
      try simp only [Act.put, List.setIfInBounds_toArray, List.set_cons_zero, List.set_cons_succ]
      refine wpAnyH_ready (rs := [6]) (by kernel_rfl) (by simp) ?_
      refine AllReadyH.cons (o := ⟨some 37, _, _, _, _, _⟩) rfl (fun K hK => ?_) AllReadyH.nil
      go_simp
      have hb := below1 u0 (.cells #[.int .u64 (uv c.vh), .int .u64 (uv c.vl), .int .u64 (uv c.ch), .int .u64 (uv c.cl)] 43)
      refine hK.out _ _ trivial (fun hNext => ?_)
      clear hK K hHeld
      have hHeld := hNext
      clear hNext
      have kN : Blk (u0.alloc (.cells #[.int .u64 (uv c.vh), .int .u64 (uv c.vl), .int .u64 (uv c.ch), .int .u64 (uv c.cl)] 43)) u0.heap.size 43 #[.int .u64 (uv c.vh), .int .u64 (uv c.vl), .int .u64 (uv c.ch), .int .u64 (uv c.cl)] := Blk.new u0 _ _
      have hgn : ∀ g, sv.ownBlock = some g → g ≠ u0.heap.size := fun g hg => Nat.ne_of_lt (HO.out.lt g hg).2
      have HT2 := Lib.hid (HT.out.on hb)
      have HO2 := Lib.hid (own_on HO.out hb)
      have HM2 := Lib.hid (HMP.out.ch (Q := fun _ => False) (Ch.of_below hb) (fun _ _ h => h))
      have HBB2 := Lib.hid (HBB.out.trans (hb.mono HBB.out.size))
      clear HT HO HMP HBB hb
      have HT := HT2
      have HO := HO2
      have HMP := HM2
      have HBB := HBB2
      clear HT2 HO2 HM2 HBB2
      generalize hgen : (u0.alloc (.cells #[.int .u64 (uv c.vh), .int .u64 (uv c.vl), .int .u64 (uv c.ch), .int .u64 (uv c.cl)] 43)) = u1 at HT HO HMP HBB kN ⊢
      clear hgen
      generalize hgen : u0.heap.size = bN at kN hgn ⊢
      clear hgen
      try simp only [Act.put, List.setIfInBounds_toArray, List.set_cons_zero, List.set_cons_succ]
      refine wpAnyH_ready (rs := [7]) (by kernel_rfl) (by simp) ?_
      refine AllReadyH.cons (o := ⟨some 38, _, _, _, _, _⟩) rfl (fun K hK => ?_) AllReadyH.nil
      have SR := src_cbD kN
      refine step_appD _ rfl (.tmp 35) (.tmp 37) 32 rfl (B + 1) 43 ic _ 4 32 Try.underlying32 hic hcz0 hcz1 hcz2 rfl (by decide) sv l.length (flat l) rfl HO.out _ 1 (flat [c]) rfl SR (by unfold maxLen; omega) (by omega) (by have := HT.out.lt; omega) ?_
      intro v2 u2 kO2 hgr
      refine hK.out _ _ trivial (fun hNext => ?_)
      clear hK K hHeld
      have hHeld := hNext
      clear hNext
      have HT2 := Lib.hid (HT.out.grown hgr.1 (fun e => (HGB.out _ e.symm).1 rfl))
      have HM2 : Hid (StAt u2 (.map (some w4.heap.size)) (l ++ [c])) := HMP.out.ch (Q := fun k => sv.ownBlock = some k) ⟨hgr.1.os, hgr.1.tape, hgr.1.output, hgr.1.size, fun k hk hn => hgr.1.block k hk (fun e => hn e.symm)⟩ (fun M' hM' e => by have e2 : w4.heap.size = M' := (by simpa [mBk] using hM'); subst e2; exact HMO.out.2 e)
      have HC2 : Hid (Ch (fun k => sv.ownBlock = some k) wc u2) := ch_thenD (Ch.of_below HBB.out) (⟨hgr.1.os, hgr.1.tape, hgr.1.output, hgr.1.size, fun k hk hn => hgr.1.block k hk (fun e => hn e.symm)⟩ : Ch (fun k => sv.ownBlock = some k) _ _) (fun _ _ h => h)
      have HG2 : Hid (v2.ownBlock = sv.ownBlock ∨ ∃ k, v2.ownBlock = some k ∧ wc.heap.size ≤ k) := hgr.2.imp id fun ⟨k, h1, h2⟩ => ⟨k, h1, Nat.le_trans HBB.out.size h2⟩
      have HO2 : Hid (u2.ownsRow (B + 1) 43 4 v2 (l.length + 1) (flat (l ++ [c]))) := by show World.ownsRow _ _ _ _ _ _ _; rw [flat_snocD]; exact kO2
      clear HT HMP HBB hgr kO2 SR kN hgn HO
      have HT := HT2
      clear HT2
      try simp only [Act.put, List.setIfInBounds_toArray, List.set_cons_zero, List.set_cons_succ]
      refine wpAnyH_take (i := 8) (oi := ⟨some 39, _, _, _, _, _⟩) (v := ?vq815b8_5) rfl (by kernel_rfl) (by kernel_rfl) (by kernel_rfl) (fun _ _ _ h => h) (Or.inl ⟨by rfl, ?yq815b8_5⟩) hHeld ?rq815b8_5
      case yq815b8_5 => (intro w' hSw; (try dsimp only at hSw); go_simp; try (with_reducible rfl))
      simp only [Act.put, List.setIfInBounds_toArray, List.set_cons_zero, List.set_cons_succ]
      refine wpAnyH_take (i := 9) (oi := ⟨some 40, _, _, _, _, _⟩) (v := ?vq815b9_6) rfl (by kernel_rfl) (by kernel_rfl) (by kernel_rfl) (fun _ _ _ h => h) (Or.inl ⟨by rfl, ?yq815b9_6⟩) hHeld ?rq815b9_6
      case yq815b9_6 => (intro w' hSw; (try dsimp only at hSw); go_simp; try (with_reducible rfl))
      simp only [Act.put, List.setIfInBounds_toArray, List.set_cons_zero, List.set_cons_succ]
      refine wpAnyH_ready (rs := [10]) (by kernel_rfl) (by simp) ?_
      refine AllReadyH.cons (o := ⟨none, _, _, _, _, _⟩) rfl (fun K hK => ?_) AllReadyH.nil
      obtain ⟨A2, cap2, hv2⟩ := own_slD HO2.out
      subst hv2
      have kA := (HT.out.cell 0).trans rfl
      have gA := HT.out.free 0
      simp only [List.getElem?_toArray, List.getElem?_cons_zero] at kA
      go_simp
      clear kA gA
      refine hK.out _ _ trivial (fun hNext => ?_)
      clear hK K hHeld
      have hHeld := hNext
      clear hNext
      have hA2 := HT.out.set 0 (.slice A2 (l.length + 1) cap2)
      simp only [List.setIfInBounds_toArray, List.set_cons_zero] at hA2
      have hcs : Ch (· = B) u2 (u2.setCell ⟨B, 0, none⟩ (.slice A2 (l.length + 1) cap2)) := Ch.set u2 ⟨B, 0, none⟩ _
      have HR1 := Lib.hid hA2
      have HR2 := Lib.hid (hcs.own HO2.out (fun g hg e => by have e2 : g = B := e; subst e2; have := own_ge HO2.out hg; omega))
      have HR3 := Lib.hid (HM2.out.ch hcs (fun M' hM' e => by have e2 : w4.heap.size = M' := (by simpa [mBk] using hM'); subst e2; exact HNE.out.1 e))
      have HR4 : Hid (Ch (fun y => y = B ∨ sv.ownBlock = some y) wc (u2.setCell ⟨B, 0, none⟩ (.slice A2 (l.length + 1) cap2))) := (HC2.out.mono fun y _ hy => .inr hy).trans (hcs.mono fun y _ hy => .inl hy)
      clear hA2 hcs HT
      generalize u2.setCell ⟨B, 0, none⟩ (.slice A2 (l.length + 1) cap2) = u3 at HR1 HR2 HR3 HR4 ⊢
      try simp only [Act.put]
      refine wpAnyH_done (by kernel_rfl) ?_ _
      have HR := Lib.hid (And.intro HR1.out (And.intro HR2.out (And.intro HR3.out (And.intro HG2.out HR4.out))))
      go_wp2
      refine bodyPost_end (results_none rfl _ _ _) rfl ?_
      obtain ⟨r1, r2, r3, r4, r5⟩ := HR.out
      refine ⟨fun y => y = B ∨ some w4.heap.size = some y ∨ (Value.slice A2 (l.length + 1) cap2).ownBlock = some y, rfl, ⟨_, some w4.heap.size, r1, by rw [List.length_append]; exact r2, r3, fun M' hM' => ?_, fun _ => Iff.rfl⟩, fun y hy => ?_, ?_⟩
      · injection hM' with hM'
        subst hM'
        refine ⟨HMO.out.1, ?_⟩
        rcases r4 with h | ⟨k, h1, h2⟩
        · rw [h]; exact HMO.out.2
        · intro h
          rw [h1] at h
          injection h with h
          have := HCW9.out.size
          have := HLT.out
          omega
      · refine HNW.out y ?_
        rcases hy with h | h | h
        · exact .inl h
        · injection h with h; exact .inr (.inl h.symm)
        · rcases r4 with h1 | ⟨k, h1, h2⟩
          · exact .inr (.inr (.inl (by rw [← h1]; exact h)))
          · rw [h1] at h
            injection h with h
            have := HCW9.out.size
            have := HCW.out.size
            exact .inr (.inr (.inr (by omega)))
      · exact ch_thenD (ch_thenD HCW.out HCW9.out HCM.out) r5 HCO.out
    refine AllReadyH.cons (o := ⟨some 36, _, _, _, _, _⟩) rfl (fun K hK => ?_) AllReadyH.nil
    have x0 := (HX.out.cell 0).trans rfl
    have x1 := (HX.out.cell 1).trans rfl
    have x2 := (HX.out.cell 2).trans rfl
    have x3 := (HX.out.cell 3).trans rfl
    simp only [List.getElem?_toArray, List.getElem?_cons_succ, List.getElem?_cons_zero] at x0 x1 x2 x3
    go_simp
    refine hK.out _ _ trivial (fun hNext => ?_)
    clear hK K hHeld
    have hHeld := hNext
    clear hNext
    clear x0 x1 x2 x3
    try simp only [Act.put, List.setIfInBounds_toArray, List.set_cons_zero, List.set_cons_succ]
    refine wpAnyH_ready (rs := [4, 6]) (by kernel_rfl) (by simp) ?_
    refine AllReadyH.cons (o := ⟨some 35, _, _, _, _, _⟩) rfl (fun K hK => ?_) ?_
    · have kA := (HT.out.cell 0).trans rfl
      simp only [List.getElem?_toArray, List.getElem?_cons_zero] at kA
      go_simp
      refine hK.out _ _ trivial (fun hNext => ?_)
      clear hK K hHeld
      have hHeld := hNext
      clear hNext
      clear kA
      try simp only [Act.put, List.setIfInBounds_toArray, List.set_cons_zero, List.set_cons_succ]
      refine wpAnyH_ready (rs := [6]) (by kernel_rfl) (by simp) ?_
      refine AllReadyH.cons (o := ⟨some 37, _, _, _, _, _⟩) rfl (fun K hK => ?_) AllReadyH.nil
      go_simp
      have hb := below1 u0 (.cells #[.int .u64 (uv c.vh), .int .u64 (uv c.vl), .int .u64 (uv c.ch), .int .u64 (uv c.cl)] 43)
      refine hK.out _ _ trivial (fun hNext => ?_)
      clear hK K hHeld
      have hHeld := hNext
      clear hNext
      have kN : Blk (u0.alloc (.cells #[.int .u64 (uv c.vh), .int .u64 (uv c.vl), .int .u64 (uv c.ch), .int .u64 (uv c.cl)] 43)) u0.heap.size 43 #[.int .u64 (uv c.vh), .int .u64 (uv c.vl), .int .u64 (uv c.ch), .int .u64 (uv c.cl)] := Blk.new u0 _ _
      have hgn : ∀ g, sv.ownBlock = some g → g ≠ u0.heap.size := fun g hg => Nat.ne_of_lt (HO.out.lt g hg).2
      have HT2 := Lib.hid (HT.out.on hb)
      have HO2 := Lib.hid (own_on HO.out hb)
      have HM2 := Lib.hid (HMP.out.ch (Q := fun _ => False) (Ch.of_below hb) (fun _ _ h => h))
      have HBB2 := Lib.hid (HBB.out.trans (hb.mono HBB.out.size))
      clear HT HO HMP HBB hb
      have HT := HT2
      have HO := HO2
      have HMP := HM2
      have HBB := HBB2
      clear HT2 HO2 HM2 HBB2
      generalize hgen : (u0.alloc (.cells #[.int .u64 (uv c.vh), .int .u64 (uv c.vl), .int .u64 (uv c.ch), .int .u64 (uv c.cl)] 43)) = u4 at HT HO HMP HBB kN ⊢
      clear hgen
      generalize hgen : u0.heap.size = bN at kN hgn ⊢
      clear hgen
      try simp only [Act.put, List.setIfInBounds_toArray, List.set_cons_zero, List.set_cons_succ]
      refine wpAnyH_ready (rs := [7]) (by kernel_rfl) (by simp) ?_
      refine AllReadyH.cons (o := ⟨some 38, _, _, _, _, _⟩) rfl (fun K hK => ?_) AllReadyH.nil
      have SR := src_cbD kN
      refine step_appD _ rfl (.tmp 35) (.tmp 37) 32 rfl (B + 1) 43 ic _ 4 32 Try.underlying32 hic hcz0 hcz1 hcz2 rfl (by decide) sv l.length (flat l) rfl HO.out _ 1 (flat [c]) rfl SR (by unfold maxLen; omega) (by omega) (by have := HT.out.lt; omega) ?_
      intro v2 u5 kO2 hgr
      refine hK.out _ _ trivial (fun hNext => ?_)
      clear hK K hHeld
      have hHeld := hNext
      clear hNext
      have HT2 := Lib.hid (HT.out.grown hgr.1 (fun e => (HGB.out _ e.symm).1 rfl))
      have HM2 : Hid (StAt u5 (.map (some w4.heap.size)) (l ++ [c])) := HMP.out.ch (Q := fun k => sv.ownBlock = some k) ⟨hgr.1.os, hgr.1.tape, hgr.1.output, hgr.1.size, fun k hk hn => hgr.1.block k hk (fun e => hn e.symm)⟩ (fun M' hM' e => by have e2 : w4.heap.size = M' := (by simpa [mBk] using hM'); subst e2; exact HMO.out.2 e)
      have HC2 : Hid (Ch (fun k => sv.ownBlock = some k) wc u5) := ch_thenD (Ch.of_below HBB.out) (⟨hgr.1.os, hgr.1.tape, hgr.1.output, hgr.1.size, fun k hk hn => hgr.1.block k hk (fun e => hn e.symm)⟩ : Ch (fun k => sv.ownBlock = some k) _ _) (fun _ _ h => h)
      have HG2 : Hid (v2.ownBlock = sv.ownBlock ∨ ∃ k, v2.ownBlock = some k ∧ wc.heap.size ≤ k) := hgr.2.imp id fun ⟨k, h1, h2⟩ => ⟨k, h1, Nat.le_trans HBB.out.size h2⟩
      have HO2 : Hid (u5.ownsRow (B + 1) 43 4 v2 (l.length + 1) (flat (l ++ [c]))) := by show World.ownsRow _ _ _ _ _ _ _; rw [flat_snocD]; exact kO2
      clear HT HMP HBB hgr kO2 SR kN hgn HO
      have HT := HT2
      clear HT2
      try simp only [Act.put, List.setIfInBounds_toArray, List.set_cons_zero, List.set_cons_succ]
      refine wpAnyH_take (i := 8) (oi := ⟨some 39, _, _, _, _, _⟩) (v := ?vq815b8_7) rfl (by kernel_rfl) (by kernel_rfl) (by kernel_rfl) (fun _ _ _ h => h) (Or.inl ⟨by rfl, ?yq815b8_7⟩) hHeld ?rq815b8_7
      case yq815b8_7 => (intro w' hSw; (try dsimp only at hSw); go_simp; try (with_reducible rfl))
      simp only [Act.put, List.setIfInBounds_toArray, List.set_cons_zero, List.set_cons_succ]
      refine wpAnyH_take (i := 9) (oi := ⟨some 40, _, _, _, _, _⟩) (v := ?vq815b9_8) rfl (by kernel_rfl) (by kernel_rfl) (by kernel_rfl) (fun _ _ _ h => h) (Or.inl ⟨by rfl, ?yq815b9_8⟩) hHeld ?rq815b9_8
      case yq815b9_8 => (intro w' hSw; (try dsimp only at hSw); go_simp; try (with_reducible rfl))
      simp only [Act.put, List.setIfInBounds_toArray, List.set_cons_zero, List.set_cons_succ]
      refine wpAnyH_ready (rs := [10]) (by kernel_rfl) (by simp) ?_
      refine AllReadyH.cons (o := ⟨none, _, _, _, _, _⟩) rfl (fun K hK => ?_) AllReadyH.nil
      obtain ⟨A2, cap2, hv2⟩ := own_slD HO2.out
      subst hv2
      have kA := (HT.out.cell 0).trans rfl
      have gA := HT.out.free 0
      simp only [List.getElem?_toArray, List.getElem?_cons_zero] at kA
      go_simp
      clear kA gA
      refine hK.out _ _ trivial (fun hNext => ?_)
      clear hK K hHeld
      have hHeld := hNext
      clear hNext
      have hA2 := HT.out.set 0 (.slice A2 (l.length + 1) cap2)
      simp only [List.setIfInBounds_toArray, List.set_cons_zero] at hA2
      have hcs : Ch (· = B) u5 (u5.setCell ⟨B, 0, none⟩ (.slice A2 (l.length + 1) cap2)) := Ch.set u5 ⟨B, 0, none⟩ _
      have HR1 := Lib.hid hA2
      have HR2 := Lib.hid (hcs.own HO2.out (fun g hg e => by have e2 : g = B := e; subst e2; have := own_ge HO2.out hg; omega))
      have HR3 := Lib.hid (HM2.out.ch hcs (fun M' hM' e => by have e2 : w4.heap.size = M' := (by simpa [mBk] using hM'); subst e2; exact HNE.out.1 e))
      have HR4 : Hid (Ch (fun y => y = B ∨ sv.ownBlock = some y) wc (u5.setCell ⟨B, 0, none⟩ (.slice A2 (l.length + 1) cap2))) := (HC2.out.mono fun y _ hy => .inr hy).trans (hcs.mono fun y _ hy => .inl hy)
      clear hA2 hcs HT
      generalize u5.setCell ⟨B, 0, none⟩ (.slice A2 (l.length + 1) cap2) = u6 at HR1 HR2 HR3 HR4 ⊢
      try simp only [Act.put]
      refine wpAnyH_done (by kernel_rfl) ?_ _
      have HR := Lib.hid (And.intro HR1.out (And.intro HR2.out (And.intro HR3.out (And.intro HG2.out HR4.out))))
      go_wp2
      refine bodyPost_end (results_none rfl _ _ _) rfl ?_
      obtain ⟨r1, r2, r3, r4, r5⟩ := HR.out
      refine ⟨fun y => y = B ∨ some w4.heap.size = some y ∨ (Value.slice A2 (l.length + 1) cap2).ownBlock = some y, rfl, ⟨_, some w4.heap.size, r1, by rw [List.length_append]; exact r2, r3, fun M' hM' => ?_, fun _ => Iff.rfl⟩, fun y hy => ?_, ?_⟩
      · injection hM' with hM'
        subst hM'
        refine ⟨HMO.out.1, ?_⟩
        rcases r4 with h | ⟨k, h1, h2⟩
        · rw [h]; exact HMO.out.2
        · intro h
          rw [h1] at h
          injection h with h
          have := HCW9.out.size
          have := HLT.out
          omega
      · refine HNW.out y ?_
        rcases hy with h | h | h
        · exact .inl h
        · injection h with h; exact .inr (.inl h.symm)
        · rcases r4 with h1 | ⟨k, h1, h2⟩
          · exact .inr (.inr (.inl (by rw [← h1]; exact h)))
          · rw [h1] at h
            injection h with h
            have := HCW9.out.size
            have := HCW.out.size
            exact .inr (.inr (.inr (by omega)))
      · exact ch_thenD (ch_thenD HCW.out HCW9.out HCM.out) r5 HCO.out
    refine AllReadyH.cons (o := ⟨some 37, _, _, _, _, _⟩) rfl (fun K hK => ?_) AllReadyH.nil
    go_simp
    have hb := below1 u0 (.cells #[.int .u64 (uv c.vh), .int .u64 (uv c.vl), .int .u64 (uv c.ch), .int .u64 (uv c.cl)] 43)
    refine hK.out _ _ trivial (fun hNext => ?_)
    clear hK K hHeld
    have hHeld := hNext
    clear hNext
    have kN : Blk (u0.alloc (.cells #[.int .u64 (uv c.vh), .int .u64 (uv c.vl), .int .u64 (uv c.ch), .int .u64 (uv c.cl)] 43)) u0.heap.size 43 #[.int .u64 (uv c.vh), .int .u64 (uv c.vl), .int .u64 (uv c.ch), .int .u64 (uv c.cl)] := Blk.new u0 _ _
    have hgn : ∀ g, sv.ownBlock = some g → g ≠ u0.heap.size := fun g hg => Nat.ne_of_lt (HO.out.lt g hg).2
    have HT2 := Lib.hid (HT.out.on hb)
    have HO2 := Lib.hid (own_on HO.out hb)
    have HM2 := Lib.hid (HMP.out.ch (Q := fun _ => False) (Ch.of_below hb) (fun _ _ h => h))
    have HBB2 := Lib.hid (HBB.out.trans (hb.mono HBB.out.size))
    clear HT HO HMP HBB hb
    have HT := HT2
    have HO := HO2
    have HMP := HM2
    have HBB := HBB2
    clear HT2 HO2 HM2 HBB2
    generalize hgen : (u0.alloc (.cells #[.int .u64 (uv c.vh), .int .u64 (uv c.vl), .int .u64 (uv c.ch), .int .u64 (uv c.cl)] 43)) = u7 at HT HO HMP HBB kN ⊢
    clear hgen
    generalize hgen : u0.heap.size = bN at kN hgn ⊢
    clear hgen
    try simp only [Act.put, List.setIfInBounds_toArray, List.set_cons_zero, List.set_cons_succ]
    refine wpAnyH_ready (rs := [4]) (by kernel_rfl) (by simp) ?_
    refine AllReadyH.cons (o := ⟨some 35, _, _, _, _, _⟩) rfl (fun K hK => ?_) AllReadyH.nil
    have kA := (HT.out.cell 0).trans rfl
    simp only [List.getElem?_toArray, List.getElem?_cons_zero] at kA
    go_simp
    refine hK.out _ _ trivial (fun hNext => ?_)
    clear hK K hHeld
    have hHeld := hNext
    clear hNext
    clear kA
    try simp only [Act.put, List.setIfInBounds_toArray, List.set_cons_zero, List.set_cons_succ]
    refine wpAnyH_ready (rs := [7]) (by kernel_rfl) (by simp) ?_
    refine AllReadyH.cons (o := ⟨some 38, _, _, _, _, _⟩) rfl (fun K hK => ?_) AllReadyH.nil
    have SR := src_cbD kN
    refine step_appD _ rfl (.tmp 35) (.tmp 37) 32 rfl (B + 1) 43 ic _ 4 32 Try.underlying32 hic hcz0 hcz1 hcz2 rfl (by decide) sv l.length (flat l) rfl HO.out _ 1 (flat [c]) rfl SR (by unfold maxLen; omega) (by omega) (by have := HT.out.lt; omega) ?_
    intro v2 u8 kO2 hgr
    refine hK.out _ _ trivial (fun hNext => ?_)
    clear hK K hHeld
    have hHeld := hNext
    clear hNext
    have HT2 := Lib.hid (HT.out.grown hgr.1 (fun e => (HGB.out _ e.symm).1 rfl))
    have HM2 : Hid (StAt u8 (.map (some w4.heap.size)) (l ++ [c])) := HMP.out.ch (Q := fun k => sv.ownBlock = some k) ⟨hgr.1.os, hgr.1.tape, hgr.1.output, hgr.1.size, fun k hk hn => hgr.1.block k hk (fun e => hn e.symm)⟩ (fun M' hM' e => by have e2 : w4.heap.size = M' := (by simpa [mBk] using hM'); subst e2; exact HMO.out.2 e)
    have HC2 : Hid (Ch (fun k => sv.ownBlock = some k) wc u8) := ch_thenD (Ch.of_below HBB.out) (⟨hgr.1.os, hgr.1.tape, hgr.1.output, hgr.1.size, fun k hk hn => hgr.1.block k hk (fun e => hn e.symm)⟩ : Ch (fun k => sv.ownBlock = some k) _ _) (fun _ _ h => h)
    have HG2 : Hid (v2.ownBlock = sv.ownBlock ∨ ∃ k, v2.ownBlock = some k ∧ wc.heap.size ≤ k) := hgr.2.imp id fun ⟨k, h1, h2⟩ => ⟨k, h1, Nat.le_trans HBB.out.size h2⟩
    have HO2 : Hid (u8.ownsRow (B + 1) 43 4 v2 (l.length + 1) (flat (l ++ [c]))) := by show World.ownsRow _ _ _ _ _ _ _; rw [flat_snocD]; exact kO2
    clear HT HMP HBB hgr kO2 SR kN hgn HO
    have HT := HT2
    clear HT2
    try simp only [Act.put, List.setIfInBounds_toArray, List.set_cons_zero, List.set_cons_succ]
    refine wpAnyH_take (i := 8) (oi := ⟨some 39, _, _, _, _, _⟩) (v := ?vq815b8_9) rfl (by kernel_rfl) (by kernel_rfl) (by kernel_rfl) (fun _ _ _ h => h) (Or.inl ⟨by rfl, ?yq815b8_9⟩) hHeld ?rq815b8_9
    case yq815b8_9 => (intro w' hSw; (try dsimp only at hSw); go_simp; try (with_reducible rfl))
    simp only [Act.put, List.setIfInBounds_toArray, List.set_cons_zero, List.set_cons_succ]
    refine wpAnyH_take (i := 9) (oi := ⟨some 40, _, _, _, _, _⟩) (v := ?vq815b9_10) rfl (by kernel_rfl) (by kernel_rfl) (by kernel_rfl) (fun _ _ _ h => h) (Or.inl ⟨by rfl, ?yq815b9_10⟩) hHeld ?rq815b9_10
    case yq815b9_10 => (intro w' hSw; (try dsimp only at hSw); go_simp; try (with_reducible rfl))
    simp only [Act.put, List.setIfInBounds_toArray, List.set_cons_zero, List.set_cons_succ]
    refine wpAnyH_ready (rs := [10]) (by kernel_rfl) (by simp) ?_
    refine AllReadyH.cons (o := ⟨none, _, _, _, _, _⟩) rfl (fun K hK => ?_) AllReadyH.nil
    obtain ⟨A2, cap2, hv2⟩ := own_slD HO2.out
    subst hv2
    have kA := (HT.out.cell 0).trans rfl
    have gA := HT.out.free 0
    simp only [List.getElem?_toArray, List.getElem?_cons_zero] at kA
    go_simp
    clear kA gA
    refine hK.out _ _ trivial (fun hNext => ?_)
    clear hK K hHeld
    have hHeld := hNext
    clear hNext
    have hA2 := HT.out.set 0 (.slice A2 (l.length + 1) cap2)
    simp only [List.setIfInBounds_toArray, List.set_cons_zero] at hA2
    have hcs : Ch (· = B) u8 (u8.setCell ⟨B, 0, none⟩ (.slice A2 (l.length + 1) cap2)) := Ch.set u8 ⟨B, 0, none⟩ _
    have HR1 := Lib.hid hA2
    have HR2 := Lib.hid (hcs.own HO2.out (fun g hg e => by have e2 : g = B := e; subst e2; have := own_ge HO2.out hg; omega))
    have HR3 := Lib.hid (HM2.out.ch hcs (fun M' hM' e => by have e2 : w4.heap.size = M' := (by simpa [mBk] using hM'); subst e2; exact HNE.out.1 e))
    have HR4 : Hid (Ch (fun y => y = B ∨ sv.ownBlock = some y) wc (u8.setCell ⟨B, 0, none⟩ (.slice A2 (l.length + 1) cap2))) := (HC2.out.mono fun y _ hy => .inr hy).trans (hcs.mono fun y _ hy => .inl hy)
    clear hA2 hcs HT
    generalize u8.setCell ⟨B, 0, none⟩ (.slice A2 (l.length + 1) cap2) = u9 at HR1 HR2 HR3 HR4 ⊢
    try simp only [Act.put]
    refine wpAnyH_done (by kernel_rfl) ?_ _
    have HR := Lib.hid (And.intro HR1.out (And.intro HR2.out (And.intro HR3.out (And.intro HG2.out HR4.out))))
    go_wp2
    refine bodyPost_end (results_none rfl _ _ _) rfl ?_
    obtain ⟨r1, r2, r3, r4, r5⟩ := HR.out
    refine ⟨fun y => y = B ∨ some w4.heap.size = some y ∨ (Value.slice A2 (l.length + 1) cap2).ownBlock = some y, rfl, ⟨_, some w4.heap.size, r1, by rw [List.length_append]; exact r2, r3, fun M' hM' => ?_, fun _ => Iff.rfl⟩, fun y hy => ?_, ?_⟩
    · injection hM' with hM'
      subst hM'
      refine ⟨HMO.out.1, ?_⟩
      rcases r4 with h | ⟨k, h1, h2⟩
      · rw [h]; exact HMO.out.2
      · intro h
        rw [h1] at h
        injection h with h
        have := HCW9.out.size
        have := HLT.out
        omega
    · refine HNW.out y ?_
      rcases hy with h | h | h
      · exact .inl h
      · injection h with h; exact .inr (.inl h.symm)
      · rcases r4 with h1 | ⟨k, h1, h2⟩
        · exact .inr (.inr (.inl (by rw [← h1]; exact h)))
        · rw [h1] at h
          injection h with h
          have := HCW9.out.size
          have := HCW.out.size
          exact .inr (.inr (.inr (by omega)))
    · exact ch_thenD (ch_thenD HCW.out HCW9.out HCM.out) r5 HCO.out
theorem dadd_c (c : Cb) (B : Nat) (l : List Cb) (S : Nat → Prop) (w : World) (h : DsAt w B l S) (hlen : l.length ≤ 1099511627776) : Calls Try.prog 23 #[.pointer (some ⟨B, 0, none⟩), .agg #[.int .u64 (uv c.vh), .int .u64 (uv c.vl), .int .u64 (uv c.ch), .int .u64 (uv c.cl)]] w (DsTo w B (addC l c) S) := by
  have h0 := h
  obtain ⟨sv, mb, h1, h2, h3, h4, h5⟩ := h
  by_cases hc : c ∈ l
  · rw [addC_in hc]
    refine (dadd_there c B l sv mb w h1 h2 h3 (decide_eq_true hc)).mono ?_
    rintro e w' ⟨rfl, hb⟩
    exact ⟨S, rfl, h0.on hb, fun _ h => .inl h, Ch.of_below hb⟩
  · rw [addC_new hc]
    cases mb with
    | none => exact dadd_none c B l sv S w h1 h2 h3 (decide_eq_false hc) hlen h5
    | some M => exact dadd_some c B l sv M S w h1 h2 h3 (decide_eq_false hc) hlen (h4 M rfl).1 (h4 M rfl).2 h5
end Go.Proofs

namespace Go.Proofs.Hd
open Go.RowKit
theorem eTo_mem {T : List (List Pt)} {x : Rc} : x ∈ eTo T T.length ↔ ∃ L p, T[x.1]? = some L ∧ L[x.2]? = some p ∧ p.kind = 1 := by
  unfold eTo
  rw [List.mem_flatMap]
  constructor
  · rintro ⟨n, hn, hx⟩
    cases hT : T[n]? with
    | none => rw [hT] at hx; simp at hx
    | some L =>
      rw [hT] at hx
      simp only at hx
      unfold eUp at hx
      obtain ⟨i, hi, he⟩ := List.mem_filterMap.1 hx
      cases hp : L[i]? with
      | none => rw [hp] at he; cases he
      | some p =>
        rw [hp] at he
        simp only at he
        by_cases hk : p.kind = 1
        · rw [if_pos hk] at he
          injection he with he
          subst he
          exact ⟨L, p, hT, hp, hk⟩
        · rw [if_neg hk] at he; cases he
  · rintro ⟨L, p, hT, hp, hk⟩
    have h1 := (List.getElem?_eq_some_iff.1 hT).1
    have h2 := (List.getElem?_eq_some_iff.1 hp).1
    refine ⟨x.1, List.mem_range.2 h1, ?_⟩
    rw [hT]
    simp only
    unfold eUp
    refine List.mem_filterMap.2 ⟨x.2, List.mem_range.2 h2, ?_⟩
    rw [hp]
    simp only
    rw [if_pos hk]
theorem edgT_edge {T : List (List Pt)} {n i : Nat} {L : List Pt} {p : Pt} (hL : T[n]? = some L) (hp : L[i]? = some p) (hk : p.kind = 1) : edgT T n i = p.ten := by
  unfold edgT
  rw [ptAt_nat hL hp]
  simp only
  rw [if_pos hk]
/-- Is a policy of the right size, and are the edges' tenants there? -/
def szP (T : List (List Pt)) (ten : Int) (P : List (Int × Int)) (Q : List Wa) : Prop := ¬ (ten < 1 ∨ 4 < ten ∨ 16 < P.length ∨ 4 < Q.length ∨ ¬ okE T ten (eTo T T.length).length)
end Go.Proofs.Hd
namespace Go.Proofs
open Go.RowKit Go.Proofs.Hd Go.Lib
set_option maxRecDepth 100000 in
set_option maxHeartbeats 2000000 in
theorem csized_c (x : Bool) (pv wv tv : Value) (T : List (List Pt)) (ten : Int) (P : List (Int × Int)) (Q : List Wa) (w : World) (hT : PsT w tv T) (hP : Pe w pv P) (hQ : Wy w wv Q) (hn : ports T ≤ 2000000) (hx : x = true ↔ szP T ten P Q) : Calls Try.prog 39 #[.agg #[.int .i64 ten, pv, wv], .agg #[tv]] w fun e w' => e = .returned (.bool x) ∧ Below w.heap.size w w' := by
  have HT := Lib.hid hT
  obtain ⟨A, cap, rfl, htm, hTA⟩ := hT
  obtain ⟨pA, pc, rfl, hpm, -⟩ := hP
  obtain ⟨wA, wc, rfl, hwm, -⟩ := hQ
  have HTA := Lib.hid hTA
  have hpz : (P.length : Int) ≤ 9223372036854775807 := by unfold maxLen at hpm; omega
  have hwz : (Q.length : Int) ≤ 9223372036854775807 := by unfold maxLen at hwm; omega
  have B0 : Below w.heap.size w ((w.alloc (.cells #[.int .i64 ten, .slice pA P.length pc, .slice wA Q.length wc] 28)).alloc (.cells #[.slice A T.length cap] 24)) := below2 w _ _
  have M0 : Hid (Blk ((w.alloc (.cells #[.int .i64 ten, .slice pA P.length pc, .slice wA Q.length wc] 28)).alloc (.cells #[.slice A T.length cap] 24)) w.heap.size 28 #[.int .i64 ten, .slice pA P.length pc, .slice wA Q.length wc]) := (Blk.new w _ _).on (below1 _ _)
  have N0 : Hid (Blk ((w.alloc (.cells #[.int .i64 ten, .slice pA P.length pc, .slice wA Q.length wc] 28)).alloc (.cells #[.slice A T.length cap] 24)) (w.heap.size + 1) 24 #[.slice A T.length cap]) := Blk.new2 w _ _ _
  have bad : (ten < 1 ∨ 4 < ten ∨ 16 < P.length ∨ 4 < Q.length ∨ ¬ okE T ten (eTo T T.length).length) → x = false := fun h => by
    cases hxx : x with
    | false => rfl
    | true => exact absurd h (hx.1 hxx)
  have good : szP T ten P Q → x = true := hx.2
  clear hx hTA hpm hwm
  by_cases h1 : ten < 1
  · have HE := Lib.hid (bad (.inl h1))
    clear bad good M0 N0
    go_enter Try.func39, Try.ntmps39
    go_wp2
    go_ret
    exact ⟨by rw [HE.out]; rfl, B0⟩
  by_cases h2 : 4 < ten
  · have HE := Lib.hid (bad (.inr (.inl h2)))
    clear bad good M0 N0
    go_enter Try.func39, Try.ntmps39
    go_wp2
    go_ret
    exact ⟨by rw [HE.out]; rfl, B0⟩
  by_cases h3 : 16 < P.length
  · have HE := Lib.hid (bad (.inr (.inr (.inl h3))))
    have h3z : (16 : Int) < (P.length : Int) := by omega
    clear bad good M0 N0
    go_enter Try.func39, Try.ntmps39
    go_wp2
    go_ret
    exact ⟨by rw [HE.out]; rfl, B0⟩
  have h3z : ¬ (16 : Int) < (P.length : Int) := by omega
  by_cases h4 : 4 < Q.length
  · have HE := Lib.hid (bad (.inr (.inr (.inr (.inl h4)))))
    have h4z : (4 : Int) < (Q.length : Int) := by omega
    clear bad good M0 N0
    go_enter Try.func39, Try.ntmps39
    go_wp2
    go_ret
    exact ⟨by rw [HE.out]; rfl, B0⟩
  have h4z : ¬ (4 : Int) < (Q.length : Int) := by omega
  have BAD := Lib.hid bad
  have GOOD := Lib.hid good
  clear bad good
  go_enter Try.func39, Try.ntmps39
  go_wp2_with fail
  (with_reducible refine (edges_c _ T _ (HT.out.on B0) hn).mono ?_)
  rintro e w1 ⟨ev, rfl, OE, hb1⟩
  obtain ⟨EE, hEE⟩ : ∃ EE, Hid (eTo T T.length = EE) := ⟨_, rfl⟩
  have hEl : (eTo T T.length).length ≤ 2000000 := Nat.le_trans (eTo_len T T.length (Nat.le_refl _)) (Nat.le_trans (take_le T _) hn)
  rw [hEE.out] at OE hEl
  obtain ⟨eA, ec, rfl, hE⟩ := Spt.of OE
  have HES := Lib.hid hE
  have HB1 := Lib.hid (B0.trans (hb1.mono B0.size))
  have N1 := Lib.hid (N0.out.on hb1)
  have M1 := Lib.hid (M0.out.on hb1)
  have hEz : (EE.length : Int) ≤ 2000000 := by omega
  clear hb1 B0 N0 M0 OE hE
  go_wp2
  go_loopg [6, 30] EE.length (fun gk _ s30 wr => ∃ k : Nat, k ≤ EE.length ∧ gk = EE.length - k ∧ s30 = .int .i64 k ∧ Hid (okE T ten k) ∧ Hid (Below w1.heap.size w1 wr))
  case atStart => exact ⟨0, Nat.zero_le _, rfl, rfl, fun j x hj => absurd hj (Nat.not_lt_zero _), Below.refl _ _⟩
  case round =>
    obtain ⟨k, hk, rfl, rfl, HO, HW⟩ := hrel
    by_cases hlt : k < EE.length
    · have hltz : (k : Int) < (EE.length : Int) := by omega
      obtain ⟨y, hy⟩ : ∃ y, EE[k]? = some y := ⟨_, List.getElem?_eq_getElem hlt⟩
      obtain ⟨eb, rfl, hec⟩ := HES.out (by rintro rfl; simp at hlt)
      have x0 := on_some HW.out (hec k y hy).1
      have x1 := on_some HW.out (hec k y hy).2
      obtain ⟨L, p, hL, hp, hkd⟩ := eTo_mem.1 (by rw [hEE.out]; exact List.mem_of_getElem? hy)
      obtain ⟨xa, xb⟩ := y
      simp only at x0 x1 hL hp
      have HED := Lib.hid (edgT_edge hL hp hkd)
      have hxa := (List.getElem?_eq_some_iff.1 hL).1
      have hxb := (List.getElem?_eq_some_iff.1 hp).1
      obtain ⟨tb, tof, rfl, _, htc⟩ := HTA.out (by rintro rfl; simp at hxa)
      obtain ⟨s, hs, A3, c3, rfl, hLm, hA3⟩ := htc xa L hL
      obtain ⟨b3, o3, rfl, _, hpc⟩ := hA3 (by rintro rfl; simp at hxb)
      have hap := (hpc xb p hp).2.1
      have HBW := Lib.hid (HB1.out.trans (HW.out.mono HB1.out.size))
      have cs := on_some HBW.out hs
      have cp := on_some HBW.out hap
      obtain ⟨d0, d1, d2⟩ := (M1.out.on HW.out).three
      have t2 := (N1.out.on HW.out).single
      have HXX := Lib.hid hy
      have hxaz : (xa : Int) < (T.length : Int) := by omega
      have hxbz : (xb : Int) < (L.length : Int) := by omega
      clear hec hy hL hp htc hA3 hpc hs hap hkd
      have bS := below1 wr (.cells #[.int .i64 xa, .int .i64 xb] 56)
      have nS := Blk.new wr 56 #[.int .i64 xa, .int .i64 xb]
      obtain ⟨ten3, hten3⟩ : ∃ ten3, p.ten = ten3 := ⟨_, rfl⟩
      rw [hten3] at HED cp
      clear hten3
      go_upto_region 6 with (fail)
      generalize wr.alloc (.cells #[.int .i64 xa, .int .i64 xb] 56) = w5 at bS nS ⊢
      obtain ⟨s0, s1⟩ := nS.both
      have HB5 := Lib.hid (HW.out.trans (bS.mono HW.out.size))
      have cs := on_some bS cs
      have cp := on_some bS cp
      have d0 := on_some bS d0
      have t2 := on_some bS t2
      clear bS nS x0 x1 d1 d2
      cases hin : Hd.inB ten3 ten with
      | true =>
        have HO2 : Hid (okE T ten (k + 1)) := fun j z hj hz => by
          by_cases e : j = k
          · subst e
            rw [hEE.out, HXX.out] at hz
            injection hz with hz
            subst hz
            simp only
            rw [HED.out]
            exact hin
          · exact HO.out j z (by omega) hz
        go_wp2_with fail
        go_quiet ((go_at_call 57; with_reducible exact Calls.quiet_of_same (cwin_c true ten3 ten _ hin)))
        have HB6 := Lib.hid (bldrewN HB5.out nq)
        go_wp2
        go_roundg (EE.length - (k + 1))
        case measure => omega
        case rel => exact ⟨k + 1, by omega, rfl, by go_num, HO2, HB6⟩
      | false =>
        have HE : Hid (x = false) := BAD.out (.inr (.inr (.inr (.inr fun h => by
          rw [hEE.out] at h
          have := h k (xa, xb) hlt (by rw [hEE.out]; exact HXX.out)
          simp only at this
          rw [HED.out, hin] at this
          cases this))))
        go_wp2_with fail
        go_quiet ((go_at_call 57; with_reducible exact Calls.quiet_of_same (cwin_c false ten3 ten _ hin)))
        have HB6 := Lib.hid (bldrewN HB5.out nq)
        go_wp2
        go_ret
        exact ⟨by rw [HE.out]; rfl, HB1.out.trans (HB6.out.mono HB1.out.size)⟩
    · have hltz : ¬ (k : Int) < (EE.length : Int) := by omega
      obtain rfl : k = EE.length := by omega
      have HE : Hid (x = true) := GOOD.out (by
        rintro (h | h | h | h | h)
        · omega
        · omega
        · exact h3 h
        · exact h4 h
        · exact h (by rw [hEE.out]; exact HO.out))
      go_wp2
      go_ret
      exact ⟨by rw [HE.out]; rfl, HB1.out.trans (HW.out.mono HB1.out.size)⟩
end Go.Proofs
