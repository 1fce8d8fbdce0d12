/-
  Contract: Set of the reference of layer 2: a header some bits of which are set. No conditions.
  The law CubeSets returns true for all cubes and headers, and changes nothing that was there. No conditions.
  Plain mathematics: headers that are in the same ones of a list of cubes; setting what the list is closed under keeps them so. No program in sight. Conditions as each theorem lists them.
  What a call changes at most. No program in sight. No conditions.
  A set of cubes in memory (a map from cubes to nothing), as a list; what the operations on it do. Conditions as each theorem lists them.
  A row that grows, and where it lies then. No program in sight. No conditions.
  Plain mathematics on lists of cubes: which cubes are spare, and that a list without them has the same headers. No program in sight. Conditions as each theorem lists them.
  A slice of cubes in memory, wherever it lies; contracts of slices.IndexFunc and slices.ContainsFunc over cubes, and of pile.Sound and pile.Has. Conditions as each theorem lists them.
  Appending a slice of cubes, wherever it lies, to a row of the call's own; contracts of slices.Clone, slices.Grow (of nil) and slices.Concat (of two) over cubes. Conditions as each theorem lists them.
-/
import Derived.Test.YtanliiopdhjhjaaJ6
import Derived.Lib.Hide
import Derived.Maps.OwnSet
import Derived.DeepKeys4
import Derived.Test.YtanliiopdhjhjaaProg
import Derived.Deep.LoopGhost
import Derived.Shelf.GgClosure.Gives
import Derived.Maps.AppendAt
import Derived.Lib.AppendZeros
import Derived.Laws.AppendOwnNone
namespace Go.Proofs
open Go.RowKit Go.Proofs.Hd
attribute [local go_sem] uv_nonneg
def setB (hh hl svh svl sch scl : BitVec 64) : Nat → Bool := fun j => if hbit sch scl j = true then hbit svh svl j else hbit hh hl j
theorem setB_num (hh hl svh svl sch scl : BitVec 64) : num (setB hh hl svh svl sch scl) 64 64 = ((hh &&& ~~~sch) ||| (svh &&& sch)) ∧ num (setB hh hl svh svl sch scl) 0 64 = ((hl &&& ~~~scl) ||| (svl &&& scl)) :=
  num_of_bits fun j hj => by
    rw [hbit_or, hbit_andNot _ _ _ _ _ hj, hbit_and]
    unfold setB
    cases hbit sch scl j <;> cases hbit svh svl j <;> cases hbit hh hl j <;> rfl
theorem mix_stay (f g : Nat → Bool) (k : Nat) (h : g k = f k) : bl (mix f g k) = bl (mix f g (k + 1)) := bl_congr fun j _ => by
  unfold mix
  by_cases e : j = k
  · subst e; rw [if_neg (by omega), if_pos (by omega), h]
  · by_cases c : j < k
    · rw [if_pos c, if_pos (by omega)]
    · rw [if_neg c, if_neg (by omega)]
theorem z2far {w : World} {r : Nat} {p : Addr} {v : Value} (h : Zero2 w r) (hp : p.block ≠ r) : Zero2 (w.setCell p v) r := fun i hi =>
  ⟨(World.cell?_setCell_far w p ⟨r, i, none⟩ v hp).trans (h i hi).1, by rw [World.frozen?_setCell]; exact (h i hi).2⟩

set_option maxRecDepth 100000 in
set_option maxHeartbeats 4000000 in
theorem rset_c (hh hl svh svl sch scl : BitVec 64) (w : World) : Calls Try.prog 37 #[.agg #[.int .u64 (uv hh), .int .u64 (uv hl)], .agg #[.int .u64 (uv svh), .int .u64 (uv svl), .int .u64 (uv sch), .int .u64 (uv scl)]] w fun e w' => e = .returned (.agg #[.int .u64 (uv ((hh &&& ~~~sch) ||| (svh &&& sch))), .int .u64 (uv ((hl &&& ~~~scl) ||| (svl &&& scl)))]) ∧ Below w.heap.size w w' := by
  have S0 := below3 w (.cells #[.int .u64 (uv hh), .int .u64 (uv hl)] 41) (.cells #[.int .u64 (uv svh), .int .u64 (uv svl), .int .u64 (uv sch), .int .u64 (uv scl)] 43) (.cells #[.int .u64 0, .int .u64 0] 41)
  have Z0 := zero2_at ((w.alloc (.cells #[.int .u64 (uv hh), .int .u64 (uv hl)] 41)).alloc (.cells #[.int .u64 (uv svh), .int .u64 (uv svl), .int .u64 (uv sch), .int .u64 (uv scl)] 43)) (w.heap.size + 1 + 1) (by simp)
  go_enter Try.func37, Try.ntmps37
  go_upto_region 1 with (fail)
  refine set_region hh hl svh svl sch scl w _ _ ?_ ?_ ⟨S0, by go_simp, by go_simp, by go_simp, by go_simp, by go_simp, by go_simp⟩ Z0
  · intro c a d v w h; exact h
  intro b8 b9 b10 u BW ZW R8 R9 R10 g8 n1 n2 n3
  clear S0 Z0
  go_wp2_with fail
  go_loopg [8] 128 (fun g i wr => ∃ k : Nat, k ≤ 128 ∧ g = 128 - k ∧ i = .int .i64 k ∧ Below w.heap.size w wr ∧ Zero2 wr (w.heap.size + 1 + 1) ∧ Row wr b8 (mix (hbit hh hl) (setB hh hl svh svl sch scl) k) ∧ Row wr b9 (hbit svh svl) ∧ Row wr b10 (hbit sch scl))
  case atStart => exact ⟨0, by omega, rfl, rfl, BW, ZW, by rw [mix_zero]; exact R8, R9, R10⟩
  case round =>
    clear BW ZW R8 R9 R10
    obtain ⟨k, hk, rfl, rfl, BW, ZW, R8, R9, R10⟩ := hrel
    by_cases hlt : k < 128
    · have hlt' : (k : Int) < 128 := by omega
      have c8 := R8.cell hlt
      have f8 := R8.froz hlt
      have c9 := R9.cell hlt
      have c10 := R10.cell hlt
      cases hK : hbit sch scl k
      · have HN : Hid (setB hh hl svh svl sch scl k = hbit hh hl k) := Lib.hid (by unfold setB; rw [hK]; rfl)
        rw [hK] at c10
        clear hK
        go_wp2
        go_roundg (128 - (k + 1))
        case measure => omega
        case rel => exact ⟨k + 1, by omega, rfl, by go_num, BW, ZW, R8.congr (mix_stay _ _ k HN.out), R9, R10⟩
      · have HN : Hid (hbit svh svl k = setB hh hl svh svl sch scl k) := Lib.hid (by unfold setB; rw [hK]; rfl)
        rw [hK] at c10
        clear hK
        go_wp2
        go_roundg (128 - (k + 1))
        case measure => omega
        case rel => exact ⟨k + 1, by omega, rfl, by go_num, BW.setCell (by dsimp only; omega) _, z2far ZW (by dsimp only; omega), R8.set hlt (mix_set _ _ k _ HN.out), R9.far (by dsimp only; omega), R10.far (by dsimp only; omega)⟩
    · obtain rfl : k = 128 := by omega
      have RX := R8.congr (mix_all _ _)
      have hi1 : (Try.prog.info? 92).map (·.size) = some (bl (setB hh hl svh svl sch scl)).length := by rw [(zero_of_info info25).2, bl_len]
      have hN := Lib.hid (setB_num hh hl svh svl sch scl)
      clear R8 R9 R10
      go_wp2_with (refine wpList_load_mid rfl 92 (.tmp 5) rfl b8 0 rfl (bl (setB hh hl svh svl sch scl)) _ RX.1 Try.underlying92 rfl hi1 ?_)
      (with_reducible refine (rhead_is (setB hh hl svh svl sch scl) _ _ _ hN.out).mono ?_)
      rintro e w1 ⟨rfl, hb⟩
      have BE := BW.trans (hb.mono BW.size)
      have Y := (Zero2.on hb ZW).out
      clear hb RX BW ZW hi1
      go_wp2
      exact bodyPost_ret (v := .agg #[.int .u64 (uv ((hh &&& ~~~sch) ||| (svh &&& sch))), .int .u64 (uv ((hl &&& ~~~scl) ||| (svl &&& scl)))]) (by simp [results, Try.results37, go_sem, Y]) rfl ⟨rfl, BE.trans ((sets2 _ _ _ _).mono (by omega))⟩
end Go.Proofs

namespace Go.Proofs
open Go.RowKit Go.Proofs.Hd
attribute [local go_sem] uv_nonneg eq4_self eq2_self
attribute [local go_sem high] run_eq2 run_eq4
def Cb.bef (c d : Cb) : Cb := ⟨c.vh &&& (c.ch &&& ~~~d.ch), c.vl &&& (c.cl &&& ~~~d.cl), c.ch &&& ~~~d.ch, c.cl &&& ~~~d.cl⟩
theorem bef_V (c d : Cb) (j : Nat) (hj : j < 128) : (Cb.bef c d).V j = (c.V j && (c.K j && !d.K j)) := by
  unfold Cb.V Cb.bef; dsimp only; rw [hbit_and, hbit_andNot _ _ _ _ _ hj]; rfl
theorem bef_K (c d : Cb) (j : Nat) (hj : j < 128) : (Cb.bef c d).K j = (c.K j && !d.K j) := hbit_andNot _ _ _ _ _ hj
theorem g_bit (d : Cb) (hh hl : BitVec 64) (j : Nat) (hj : j < 128) : hbit ((hh &&& ~~~d.ch) ||| (d.vh &&& d.ch)) ((hl &&& ~~~d.cl) ||| (d.vl &&& d.cl)) j = ((hbit hh hl j && !d.K j) || (d.V j && d.K j)) := by
  rw [hbit_or, hbit_andNot _ _ _ _ _ hj, hbit_and]; rfl
theorem bef_snd (c d : Cb) : (Cb.bef c d).snd = true := by
  rw [Cb.snd_iff]
  intro j hj h
  rw [bef_V c d j hj] at h
  rw [bef_K c d j hj]
  revert h
  cases c.V j <;> cases c.K j <;> cases d.K j <;> simp
theorem bef_has (c d : Cb) (hh hl : BitVec 64) (hc : c.snd = true) (hg : c.agr d = true) : c.has ((hh &&& ~~~d.ch) ||| (d.vh &&& d.ch)) ((hl &&& ~~~d.cl) ||| (d.vl &&& d.cl)) = (Cb.bef c d).has hh hl := by
  rw [Bool.eq_iff_iff, has_match c _ _ hc, has_match _ _ _ (bef_snd c d)]
  rw [Cb.agr_iff] at hg
  constructor
  · intro H j hj hk
    rw [bef_K c d j hj] at hk
    have h1 := H j hj
    rw [g_bit d hh hl j hj] at h1
    rw [bef_V c d j hj]
    revert hk h1
    cases c.V j <;> cases c.K j <;> cases d.K j <;> cases d.V j <;> cases hbit hh hl j <;> simp
  · intro H j hj hk
    have h1 := H j hj
    rw [bef_K c d j hj, bef_V c d j hj] at h1
    have h2 := hg j hj hk
    rw [g_bit d hh hl j hj]
    revert hk h1 h2
    cases c.V j <;> cases c.K j <;> cases d.K j <;> cases d.V j <;> cases hbit hh hl j <;> simp
theorem bef_none (c d : Cb) (hh hl : BitVec 64) (hc : c.snd = true) (hg : c.agr d = false) : c.has ((hh &&& ~~~d.ch) ||| (d.vh &&& d.ch)) ((hl &&& ~~~d.cl) ||| (d.vl &&& d.cl)) = false := by
  cases e : c.has ((hh &&& ~~~d.ch) ||| (d.vh &&& d.ch)) ((hl &&& ~~~d.cl) ||| (d.vl &&& d.cl)) with
  | false => rfl
  | true =>
    have H := (has_match c _ _ hc).1 e
    have : c.agr d = true := (Cb.agr_iff c d).2 (fun j hj h1 h2 => by
      have h3 := H j hj h1
      rw [g_bit d hh hl j hj, h2] at h3
      simpa using h3.symm)
    rw [hg] at this; cases this
def Cb.zero : Cb := ⟨0#64, 0#64, 0#64, 0#64⟩
theorem cbef_t (c d : Cb) (w : World) (h1 : c.snd = true) (h3 : c.agr d = true) : Calls Try.prog 29 #[.agg #[.int .u64 (uv c.vh), .int .u64 (uv c.vl), .int .u64 (uv c.ch), .int .u64 (uv c.cl)], .agg #[.int .u64 (uv d.vh), .int .u64 (uv d.vl), .int .u64 (uv d.ch), .int .u64 (uv d.cl)]] w fun e w' => e = .returned (.tuple #[.agg #[.int .u64 (uv (c.vh &&& (c.ch &&& ~~~d.ch))), .int .u64 (uv (c.vl &&& (c.cl &&& ~~~d.cl))), .int .u64 (uv (c.ch &&& ~~~d.ch)), .int .u64 (uv (c.cl &&& ~~~d.cl))], .bool true]) ∧ Below w.heap.size w w' := before_yes _ _ _ _ _ _ _ _ w h1 h3
theorem cbef_f (c d : Cb) (w : World) (h : c.snd = false ∨ (c.snd = true ∧ c.agr d = false)) : Calls Try.prog 29 #[.agg #[.int .u64 (uv c.vh), .int .u64 (uv c.vl), .int .u64 (uv c.ch), .int .u64 (uv c.cl)], .agg #[.int .u64 (uv d.vh), .int .u64 (uv d.vl), .int .u64 (uv d.ch), .int .u64 (uv d.cl)]] w fun e w' => e = .returned (.tuple #[.agg #[.int .u64 0, .int .u64 0, .int .u64 0, .int .u64 0], .bool false]) ∧ Below w.heap.size w w' := by
  rcases h with h | ⟨h1, h2⟩
  · exact before_no1 _ _ _ _ _ _ _ _ w h
  · exact before_no2 _ _ _ _ _ _ _ _ w h1 h2
end Go.Proofs

namespace Go.Proofs.Hd
open Go.RowKit Go.Proofs
instance : DecidableEq Cb := fun a b => decidable_of_iff (a.vh = b.vh ∧ a.vl = b.vl ∧ a.ch = b.ch ∧ a.cl = b.cl) (by
  cases a; cases b; simp)
/-- The two headers are in the same ones of L. -/
def Alk (L : List Cb) (gh gl hh hl : BitVec 64) : Prop := ∀ c, c ∈ L → c.has gh gl = c.has hh hl
/-- What a cube asks ahead of a setting of d, if anything. -/
def bfC (c d : Cb) : Option Cb := if c.snd = true ∧ c.agr d = true then some (Cb.bef c d) else none
theorem bfC_some {c d : Cb} (h1 : c.snd = true) (h2 : c.agr d = true) : bfC c d = some (Cb.bef c d) := by unfold bfC; rw [if_pos ⟨h1, h2⟩]
theorem bfC_none {c d : Cb} (h : ¬ (c.snd = true ∧ c.agr d = true)) : bfC c d = none := by unfold bfC; rw [if_neg h]
theorem bfC_snd {c d p : Cb} (h : bfC c d = some p) : p.snd = true := by
  by_cases hc : c.snd = true ∧ c.agr d = true
  · rw [bfC_some hc.1 hc.2] at h
    cases h
    exact bef_snd c d
  · rw [bfC_none hc] at h; cases h
theorem Alk.at {L : List Cb} {gh gl hh hl : BitVec 64} (h : Alk L gh gl hh hl) {c : Cb} (hc : c ∈ L) : c.has gh gl = c.has hh hl := h c hc
/-- Setting what the list is closed under. -/
theorem Alk.set {L S : List Cb} {gh gl hh hl : BitVec 64} (hs : ∀ c, c ∈ L → c.snd = true) (hcl : ∀ c s p, c ∈ L → s ∈ S → bfC c s = some p → p ∈ L) {d : Cb} (hd : d ∈ S) (h : Alk L gh gl hh hl) :
    Alk L ((gh &&& ~~~d.ch) ||| (d.vh &&& d.ch)) ((gl &&& ~~~d.cl) ||| (d.vl &&& d.cl)) ((hh &&& ~~~d.ch) ||| (d.vh &&& d.ch)) ((hl &&& ~~~d.cl) ||| (d.vl &&& d.cl)) := by
  intro c hc
  cases hg : c.agr d with
  | true => rw [bef_has c d gh gl (hs c hc) hg, bef_has c d hh hl (hs c hc) hg, h _ (hcl c d _ hc hd (bfC_some (hs c hc) hg))]
  | false => rw [bef_none c d gh gl (hs c hc) hg, bef_none c d hh hl (hs c hc) hg]
theorem set_zero (x : BitVec 64) : (x &&& ~~~0#64) ||| (0#64 &&& 0#64) = x := by rw [BitVec.not_zero, BitVec.and_allOnes, BitVec.and_self, BitVec.or_zero]
/-- Setting nothing, or what the list is closed under. -/
theorem Alk.set0 {L S : List Cb} {gh gl hh hl : BitVec 64} (hs : ∀ c, c ∈ L → c.snd = true) (hcl : ∀ c s p, c ∈ L → s ∈ S → bfC c s = some p → p ∈ L) {d : Cb} (hd : d = Cb.zero ∨ d ∈ S) (h : Alk L gh gl hh hl) :
    Alk L ((gh &&& ~~~d.ch) ||| (d.vh &&& d.ch)) ((gl &&& ~~~d.cl) ||| (d.vl &&& d.cl)) ((hh &&& ~~~d.ch) ||| (d.vh &&& d.ch)) ((hl &&& ~~~d.cl) ||| (d.vl &&& d.cl)) := by
  rcases hd with rfl | hd
  · unfold Cb.zero
    rw [set_zero, set_zero, set_zero, set_zero]
    exact h
  · exact h.set hs hcl hd
end Go.Proofs.Hd

namespace Go.Proofs.Hd
open Go.RowKit
/-- From w to w' at most the blocks of S have changed, and new ones may be there. -/
structure Ch (S : Nat → Prop) (w w' : World) : Prop where
  os : w'.os = w.os
  tape : w'.tape = w.tape
  output : w'.output = w.output
  size : w.heap.size ≤ w'.heap.size
  block : ∀ k, k < w.heap.size → ¬ S k → w'.heap[k]? = w.heap[k]?
theorem Ch.refl (S : Nat → Prop) (w : World) : Ch S w w := ⟨rfl, rfl, rfl, Nat.le_refl _, fun _ _ _ => rfl⟩
theorem Ch.trans {S : Nat → Prop} {a b c : World} (h : Ch S a b) (k : Ch S b c) : Ch S a c :=
  ⟨k.os.trans h.os, k.tape.trans h.tape, k.output.trans h.output, Nat.le_trans h.size k.size, fun i hi hs => (k.block i (Nat.lt_of_lt_of_le hi h.size) hs).trans (h.block i hi hs)⟩
theorem Ch.mono {S S' : Nat → Prop} {w w' : World} (h : Ch S w w') (hs : ∀ k, k < w.heap.size → S k → S' k) : Ch S' w w' := ⟨h.os, h.tape, h.output, h.size, fun k hk hn => h.block k hk (fun c => hn (hs k hk c))⟩
theorem Ch.of_below {S : Nat → Prop} {w w' : World} (h : Below w.heap.size w w') : Ch S w w' := ⟨h.os, h.tape, h.output, h.size, fun k hk _ => h.block k hk⟩
theorem Ch.below {S : Nat → Prop} {B : Nat} {w w' : World} (h : Ch S w w') (hB : B ≤ w.heap.size) (hs : ∀ k, k < B → ¬ S k) : Below B w w' := ⟨h.os, h.tape, h.output, h.size, fun k hk => h.block k (by omega) (hs k hk)⟩
theorem Ch.set (w : World) (p : Addr) (u : Value) : Ch (· = p.block) w (w.setCell p u) := ⟨rfl, rfl, rfl, by simp [World.setCell], fun k _ hn => Below.heap_setCell _ _ _ _ hn⟩
theorem Ch.blk {S : Nat → Prop} {w w' : World} {g : Nat} {t : TypeId} {cs : Array Value} (h : Ch S w w') (b : Blk w g t cs) (hn : ¬ S g) : Blk w' g t cs := (h.block g b.lt hn).trans b
theorem Ch.tb {S : Nat → Prop} {w w' : World} {g : Nat} {t : TypeId} (h : Ch S w w') (b : TB w g t) (hn : ¬ S g) : TB w' g t := by
  obtain ⟨cs, fr, e⟩ := b; exact ⟨cs, fr, (h.block g (TB.lt ⟨cs, fr, e⟩) hn).trans e⟩
theorem Ch.cell {S : Nat → Prop} {w w' : World} {p : Addr} {v : Value} (h : Ch S w w') (hc : w.cell? p = some v) (hn : ¬ S p.block) : w'.cell? p = some v :=
  (World.cell?_of_block (h.block p.block (World.block_lt_of_cell? w p hc) hn)).trans hc
theorem Ch.own {S : Nat → Prop} {w w' : World} {base e size n : Nat} {v : Value} {xs : List Value} (h : Ch S w w') (r : w.ownsRow base e size v n xs) (hn : ∀ g, v.ownBlock = some g → ¬ S g) : w'.ownsRow base e size v n xs := by
  refine ⟨r.1, ?_⟩
  rcases r.2 with r | ⟨g, cap, cur, rfl, hb, hg, rest⟩
  · exact .inl r
  · exact .inr ⟨g, cap, cur, rfl, hb, (h.block g (Array.getElem?_eq_some_iff.1 hg).1 (hn g rfl)).trans hg, rest⟩
end Go.Proofs.Hd

namespace Go.Proofs.Hd
open Go.RowKit Go.Maps
/-- A cube as a value. -/
def cbV (c : Cb) : Value := .agg #[.int .u64 (uv c.vh), .int .u64 (uv c.vl), .int .u64 (uv c.ch), .int .u64 (uv c.cl)]
theorem uvK_wf (x : BitVec 64) : (Lit.int .u64 (uv x)).wf = true := by
  have h1 := uv_nonneg x
  have h2 := uv_lt x
  simp only [Lit.wf, Bool.and_eq_true, decide_eq_true_eq]
  exact ⟨h1, by show uv x ≤ 18446744073709551615; omega⟩
theorem cbV_inj {a b : Cb} (h : cbV a = cbV b) : a = b := by
  unfold cbV at h
  simp only [Value.agg.injEq, Array.mk.injEq, List.cons.injEq, Value.int.injEq, true_and, and_true] at h
  obtain ⟨h1, h2, h3, h4⟩ := h
  have uvi : ∀ {x y : BitVec 64}, uv x = uv y → x = y := fun {x y} e => by
    unfold uv at e
    exact BitVec.eq_of_toNat_eq (by omega)
  cases a; cases b
  simp only [Cb.mk.injEq]
  exact ⟨uvi h1, uvi h2, uvi h3, uvi h4⟩
end Go.Proofs.Hd
namespace Go.Proofs
open Go.RowKit Go.Proofs.Hd Go.Maps
theorem keyB_laid : laidOutB Try.prog = true := by kernel_rfl
theorem keyB_row : (43 : TypeId) < Try.prog.types.size := of_decide_eq_true (by kernel_rfl)
theorem keyB_type : Try.prog.keyType 43 = true := by kernel_rfl
theorem keyB_at : Try.prog.keyTypeAt 4 43 = true := by kernel_rfl
theorem keyB : Keyed Try.prog 43 := Keyed.of_law (deep_law_laid keyB_laid (m := 4) (by omega) keyB_row keyB_at (by kernel_rfl))
theorem kc1 : Try.prog.cellsOf 39 = 1 := by kernel_rfl
theorem kc2 : Try.prog.cellsOf 41 = 2 := by kernel_rfl
theorem kc4 : Try.prog.cellsOf 43 = 4 := by kernel_rfl
theorem kl1 (d : Nat) (x : BitVec 64) : Try.prog.keyLits (d + 1) 39 [.int .u64 (uv x)] = some [.int .u64 (uv x)] := by
  unfold Program.keyLits
  simp only [Try.underlying39]
  rw [if_pos ⟨trivial, uvK_wf x⟩]
theorem kl2 (d : Nat) (x y : BitVec 64) : Try.prog.keyLits (d + 1 + 1) 41 [.int .u64 (uv x), .int .u64 (uv y)] = some [.int .u64 (uv x), .int .u64 (uv y)] := by
  unfold Program.keyLits
  simp only [Try.underlying41, kc2]
  rw [if_pos ⟨rfl, by simp⟩]
  simp only [List.mapM_cons, List.mapM_nil, kc1]
  simp [kl1]
theorem kl4 (d : Nat) (x y z t : BitVec 64) : Try.prog.keyLits (d + 1 + 1 + 1) 43 [.int .u64 (uv x), .int .u64 (uv y), .int .u64 (uv z), .int .u64 (uv t)] = some [.int .u64 (uv x), .int .u64 (uv y), .int .u64 (uv z), .int .u64 (uv t)] := by
  unfold Program.keyLits
  simp only [Try.underlying43, kc4]
  rw [if_pos ⟨rfl, by simp⟩]
  simp only [List.mapM_cons, List.mapM_nil, kc2]
  simp [kl2]
theorem keyB_ok (c : Cb) : ∃ kl, keyOf Try.prog 43 (cbV c) = some kl := by
  have hs : Try.prog.types.size + 1 = (Try.prog.types.size - 2) + 1 + 1 + 1 := by
    have : 2 ≤ Try.prog.types.size := of_decide_eq_true (by kernel_rfl)
    omega
  unfold keyOf cbV
  simp only [Try.underlying43]
  rw [if_pos (by simp [keyB_type, Value.formed, Try.underlying43, kc4]), hs]
  simp only [Value.cells]
  rw [kl4]
  exact ⟨_, rfl⟩
end Go.Proofs
namespace Go.Proofs.Hd
open Go.RowKit Go.Maps
/-- What a cube reads as, as a key. -/
noncomputable def kyC (c : Cb) : Lit := (keyB_ok c).choose
theorem kyC_ok (c : Cb) : keyOf Try.prog 43 (cbV c) = some (kyC c) := (keyB_ok c).choose_spec
theorem kyC_ne {a b : Cb} (h : a ≠ b) : kyC a ≠ kyC b := fun e => h (cbV_inj (keyB.inj (kyC_ok a) (by rw [e]; exact kyC_ok b)))
/-- The block of a map. -/
def mBk : Value → Option Nat
  | .map b => b
  | _ => none
/-- v is a set of just the cubes of the list. -/
def StAt (w : World) (v : Value) (l : List Cb) : Prop :=
  (v = .map none ∧ l = []) ∨ ∃ M D, v = .map (some M) ∧ w.ownsMap Try.prog 43 (unitElem (H := Unit)) M l.length D ∧ ∀ c : Cb, Maps.has D (kyC c) = decide (c ∈ l)
theorem StAt.ch {Q : Nat → Prop} {w w' : World} {v : Value} {l : List Cb} (h : StAt w v l) (hc : Ch Q w w') (hn : ∀ M, mBk v = some M → ¬ Q M) : StAt w' v l := by
  rcases h with h | ⟨M, D, rfl, h1, h2⟩
  · exact .inl h
  · obtain ⟨es, clock, hb, r⟩ := h1
    exact .inr ⟨M, D, rfl, ⟨es, clock, (hc.block M (Array.getElem?_eq_some_iff.1 hb).1 (hn M rfl)).trans hb, r⟩, h2⟩
theorem StAt.lt {w : World} {v : Value} {l : List Cb} (h : StAt w v l) : ∀ M, mBk v = some M → M < w.heap.size := fun M hM => by
  rcases h with ⟨rfl, _⟩ | ⟨M', D, rfl, h1, _⟩
  · cases hM
  · have e : M' = M := by simpa [mBk] using hM
    subst e
    exact h1.lt
theorem StAt.form {w : World} {v : Value} {l : List Cb} (h : StAt w v l) : ∃ b, v = .map b := by
  rcases h with ⟨rfl, _⟩ | ⟨M', D, rfl, h1, _⟩
  · exact ⟨none, rfl⟩
  · exact ⟨some M', rfl⟩
theorem StAt.made (w : World) : StAt (w.alloc (.map #[] 0)) (.map (some w.heap.size)) [] := by
  refine .inr ⟨w.heap.size, .map [], rfl, World.ownsMap_made w _ _ _, fun c => ?_⟩
  simp [Maps.has]
end Go.Proofs.Hd
namespace Go.Proofs
open Go.RowKit Go.Proofs.Hd Go.Maps
theorem zeroUn (w : World) : (zeroValue 105).run Try.prog w = .ok (.agg #[]) w := Try.zeroValue105 w
theorem st_look {w : World} {v : Value} {l : List Cb} (c : Cb) (h : StAt w v l) : (Instr.lookup 70 v (cbV c) true).run Try.prog w = .ok (.tuple #[.agg #[], .bool (decide (c ∈ l))]) w := by
  rcases h with ⟨rfl, rfl⟩ | ⟨M, D, rfl, h1, h2⟩
  · have := Maps.look_nil true keyB Try.underlying70 (zeroUn w) (kyC_ok c)
    simpa using this
  · obtain ⟨u, ps, hr, hu⟩ := h1.look_ok keyB Try.underlying70 (zeroUn w) unitElem_mk (kyC_ok c)
    rw [hr, (unitElem_inv hu).1, h2]
theorem st_put {w : World} {M : Nat} {l : List Cb} {c : Cb} (h : StAt w (.map (some M)) l) (hm : c ∉ l) (hn : l.length < maxLen) :
    ∃ w', (Instr.mapUpdate 70 (.map (some M)) (cbV c) (.agg #[])).run Try.prog w = .ok () w' ∧ StAt w' (.map (some M)) (l ++ [c]) ∧ Ch (· = M) w w' := by
  rcases h with ⟨h, _⟩ | ⟨M', D, e, h1, h2⟩
  · cases h
  · injection e with e
    injection e with e
    subst e
    obtain ⟨w', hr, k1, k2⟩ := h1.update keyB Try.underlying70 hn (kyC_ok c) unitElem_mk
    have hk : WideAt.IsKeyLit (kyC c) := keyB.key (kyC_ok c)
    refine ⟨w', hr, .inr ⟨M, D.put (kyC c) (.agg []), rfl, ?_, fun y => ?_⟩, ⟨k2.os, k2.tape, k2.output, k2.size, fun k hk hn => k2.block k hk (fun e => hn (by injection e))⟩⟩
    · rw [List.length_append]; exact k1
    · by_cases e : y = c
      · subst e
        rw [has_put_same h1.isMap hk]
        simp
      · rw [has_put_other (kyC_ne e), h2]
        simp [e]
end Go.Proofs

namespace Go.Proofs.Hd
open Go.RowKit
/-- A row that lay at o has grown and lies at o' now: nothing else has changed. -/
def Grw (w w' : World) (o o' : Option Nat) : Prop := w.grownBy w' o ∧ (o' = o ∨ ∃ k, o' = some k ∧ w.heap.size ≤ k)
theorem Grw.refl (w : World) (o : Option Nat) : Grw w w o o := ⟨World.grownBy.refl w o, .inl rfl⟩
section
variable {P : Program} (w : World)
theorem run_app2 (base : Nat) (t ty e : TypeId) (i : TypeInfo) (z : Value) (size bytes : Nat) (ht : P.underlying t = some (.slice e)) (hi : P.info? e = some i) (hz : i.zero = some z)
    (hsize : i.size = size) (hby : i.bytes = bytes) (hzs : z.cells.size = size) (hsz : 0 < size) (v : Value) (n : Nat) (xs : List Value) (hown : w.ownsRow base e size v n xs)
    (x : Value) (m : Nat) (news : List Value) (hx : Src w size x m news) (h63 : n + m ≤ maxLen) (hbytes : (n + m) * bytes ≤ 140737488355328) (hbase : base ≤ w.heap.size) :
    ∃ v' w', (Builtin.append_ #[t, t] ty #[v, x]).run P w = .ok v' w' ∧ w'.ownsRow base e size v' (n + m) (xs ++ news) ∧ Grw w w' v.ownBlock v'.ownBlock := by
  obtain ⟨hl, h1, ⟨rfl, c, rfl⟩ | ⟨ad, c, rfl, hc⟩⟩ := hx
  · obtain rfl : news = [] := List.eq_nil_of_length_eq_zero (by simpa using hl)
    refine ⟨v, w, ?_, by simpa using hown, Grw.refl w _⟩
    rcases hown.2 with ⟨rfl, rfl⟩ | ⟨g, cap, cur, rfl, _, _, hnc, _⟩
    · simp [Builtin.append_, run_underlying ht, sizeOf, typeInfo, hi, Builtin.lenOf, Builtin.firstCells]
    · simp [Builtin.append_, run_underlying ht, sizeOf, typeInfo, hi, Builtin.lenOf, Builtin.firstCells, hnc, storeCells]
  · obtain ⟨v', w', hr, h2, h3, _, h5⟩ := run_append_own_at (P := P) w base t ty e i z size bytes ht hi hz hsize hby hzs hsz v n xs hown ad m c news hl hc h1 h63 hbytes hbase
    exact ⟨v', w', hr, h2, h3, h5.imp id fun h => ⟨_, h, Nat.le_refl _⟩⟩
end
end Go.Proofs.Hd

namespace Go.Proofs.Hd
open Go.RowKit
/-- How many bits a cube cares for. -/
def Cb.size (c : Cb) : Nat := cnt c.K 128
end Go.Proofs.Hd

namespace Go.Proofs.Hd
open Go.RowKit
/-- The four words of a cube lie in block b from place o on. -/
def At4 (w : World) (b o : Nat) (c : Cb) : Prop := w.cell? ⟨b, o, none⟩ = some (.int .u64 (uv c.vh)) ∧ w.cell? ⟨b, o + 1, none⟩ = some (.int .u64 (uv c.vl)) ∧ w.cell? ⟨b, o + 2, none⟩ = some (.int .u64 (uv c.ch)) ∧ w.cell? ⟨b, o + 3, none⟩ = some (.int .u64 (uv c.cl))
theorem At4.on {w w' : World} {b o : Nat} {c : Cb} (h : At4 w b o c) (hb : Below w.heap.size w w') : At4 w' b o c := ⟨on_some hb h.1, on_some hb h.2.1, on_some hb h.2.2.1, on_some hb h.2.2.2⟩
/-- v is a slice that reads as the cubes L. -/
def Pl (w : World) (v : Value) (L : List Cb) : Prop := (L = [] ∧ ∃ A cap, v = .slice A 0 cap) ∨ ∃ b off cap, v = .slice (some ⟨b, off, none⟩) L.length cap ∧ L.length ≤ maxLen ∧ b < w.heap.size ∧ ∀ k c, L[k]? = some c → At4 w b (off + k * 4) c
theorem Pl.on {w w' : World} {v : Value} {L : List Cb} (h : Pl w v L) (hb : Below w.heap.size w w') : Pl w' v L := by
  rcases h with h | ⟨b, off, cap, e, hl, hs, h⟩
  · exact .inl h
  · exact .inr ⟨b, off, cap, e, hl, Nat.lt_of_lt_of_le hs hb.size, fun k c hk => (h k c hk).on hb⟩
end Go.Proofs.Hd
namespace Go.Proofs
open Go.RowKit Go.Proofs.Hd Go.Shelf Go.Lib
attribute [local go_sem] uv_nonneg
end Go.Proofs

namespace Go.Proofs.Hd
open Go.RowKit
theorem flat_one (L : List Cb) : ∀ u ∈ flat L, u.oneCell' = true := by
  induction L with
  | nil => intro u hu; simp [flat] at hu
  | cons c L ih =>
    intro u hu
    have : u ∈ c.cells ++ flat L := by simpa [flat] using hu
    rcases List.mem_append.1 this with h | h
    · simp only [Cb.cells, List.mem_cons, List.not_mem_nil, or_false] at h
      rcases h with rfl | rfl | rfl | rfl <;> rfl
    · exact ih u h
theorem Pl.form {w : World} {v : Value} {L : List Cb} (h : Pl w v L) : ∃ A cap, v = .slice A L.length cap ∧ L.length ≤ maxLen ∧ (L ≠ [] → ∃ b off, A = some ⟨b, off, none⟩ ∧ b < w.heap.size ∧ ∀ (k : Nat) (c : Cb), L[k]? = some c → At4 w b (off + k * 4) c) := by
  rcases h with ⟨rfl, A, cap, rfl⟩ | ⟨b, off, cap, rfl, hlen, hb, hc⟩
  · exact ⟨A, cap, rfl, by simp [maxLen], fun h => absurd rfl h⟩
  · exact ⟨_, cap, rfl, hlen, fun _ => ⟨b, off, rfl, hb, hc⟩⟩
theorem Pl.take {w : World} {A : Option Addr} {cap : Nat} {L : List Cb} (h : Pl w (.slice A L.length cap) L) (n : Nat) : Pl w (.slice A (L.take n).length cap) (L.take n) := by
  rcases h with ⟨rfl, B, cap', e⟩ | ⟨b, off, cap', e, hlen, hb, hc⟩
  · exact .inl ⟨by simp, A, cap, by simp⟩
  · injection e with e1 e2 e3
    subst e1 e3
    refine .inr ⟨b, off, cap, rfl, Nat.le_trans (by simp; omega) hlen, hb, fun k c hk => hc k c ?_⟩
    have hkn := (List.getElem?_eq_some_iff.1 hk).1
    rw [List.getElem?_take_of_lt (by simp at hkn; omega)] at hk
    exact hk
end Go.Proofs.Hd
