/-
  What is set in a sound configuration, as a list: the stamps of the edges, then what rules set. No program is walked. Conditions as each theorem lists them.
  Contract of preds.Sets: what is set in a sound configuration, or why not. Conditions as each theorem lists them.
  Contract of preds.Sets: what is set in a sound configuration, or why not. Conditions as each theorem lists them.
  Plain mathematics on signs: a cube ahead of a setting, sign by sign, and how many signs are not x. No program in sight. Conditions as each theorem lists them.
  Plain mathematics of a stable sort by insertion and symmetric merging (as package slices does it): rows of elements that bear tags, the order by 'lt' and, where neither is less, by tags. No program in sight. No conditions.
  slices.SortStableFunc's family over elements of several cells: what a program must bear (StL), and the contract of slices.swapRangeCmpFunc. Conditions as each theorem lists them.
  The contract of slices.rotateCmpFunc. Conditions as the theorem lists them.
  The contract of slices.symMergeCmpFunc where one of the runs is a single element. Conditions as the theorems list them.
-/
import Derived.Test.YtanliiopdhjhjaaJ9
import Derived.Sort.LotA
import Derived.Test.YtanliiopdhjhjaaProg
import Derived.Shelf.SlSortCmp.KitK
import Derived.Sort.WalkB2
import Derived.Sort.WalkB12
import Derived.Deep.LoopGhost
namespace Go.Proofs.Hd
open Go Go.RowKit Go.Proofs
theorem cb_bits {a b : Cb} (hV : ∀ j, j < 128 → hbit a.vh a.vl j = hbit b.vh b.vl j) (hK : ∀ j, j < 128 → hbit a.ch a.cl j = hbit b.ch b.cl j) : a = b := by
  have h1 := (pair_bits a.vh a.vl b.vh b.vl).2 hV
  have h2 := (pair_bits a.ch a.cl b.ch b.cl).2 hK
  simp only [Bool.and_eq_true, beq_iff_eq] at h1 h2
  cases a; cases b
  simp only at h1 h2
  rw [h1.1, h1.2, h2.1, h2.2]
theorem stB_one {n m : Nat} {a b : Cb} (ha : StB n m 3 a.vh a.vl a.ch a.cl) (hb : StB n m 3 b.vh b.vl b.ch b.cl) : a = b :=
  cb_bits (fun j hj => (ha j hj).2.trans (hb j hj).2.symm) (fun j hj => (ha j hj).1.trans (hb j hj).1.symm)
theorem stB_ex (n m : Nat) : ∃ c : Cb, StB n m 3 c.vh c.vl c.ch c.cl := by
  have h0 := st_zero n m
  have h1 := (st_step (len := 24) (q := n + 1) h0 (fld_bits (stE 0) 24 (n + 1) (by decide) (by decide)) rfl (by decide) (fun i hi => by
    show _ = stF n m (88 + i)
    unfold stF
    rw [if_pos (by omega), Nat.add_sub_cancel_left])).2
  have h2 := (st_step (len := 8) (q := m) h1 (fld_bits (stE 1) 8 m (by decide) (by decide)) rfl (by decide) (fun i hi => by
    show _ = stF n m (112 + i)
    unfold stF
    rw [if_neg (by omega), if_pos (by omega), Nat.add_sub_cancel_left])).2
  have h3 := (st_step (len := 8) (q := 0) h2 (fld_bits (stE 2) 8 0 (by decide) (by decide)) rfl (by decide) (fun i hi => by
    show _ = stF n m (120 + i)
    unfold stF
    rw [if_neg (by omega), if_neg (by omega), Nat.zero_testBit])).2
  exact ⟨⟨_, _, _, _⟩, h3⟩
/-- The stamp of tenant n and version m. -/
noncomputable def stC (n m : Nat) : Cb := (stB_ex n m).choose
theorem stC_ok (n m : Nat) : StB n m 3 (stC n m).vh (stC n m).vl (stC n m).ch (stC n m).cl := (stB_ex n m).choose_spec
theorem stC_eq {n m : Nat} {vh vl ch cl : BitVec 64} (h : StB n m 3 vh vl ch cl) : (⟨vh, vl, ch, cl⟩ : Cb) = stC n m := stB_one (a := ⟨vh, vl, ch, cl⟩) h (stC_ok n m)
theorem care_bits : ∀ j, j < 128 → hbit 0xFFFFFFFFFF000000#64 0#64 j = (decide (88 ≤ j) && decide (j < 128)) := by decide +kernel
theorem stC_care (n m : Nat) : (stC n m).ch = 0xFFFFFFFFFF000000#64 ∧ (stC n m).cl = 0#64 := by
  have h := (pair_bits (stC n m).ch (stC n m).cl 0xFFFFFFFFFF000000#64 0#64).2 (fun j hj => ((stC_ok n m) j hj).1.trans (care_bits j hj).symm)
  simpa using h
theorem stC_snd (n m : Nat) : (stC n m).snd = true := by
  unfold Cb.snd
  rw [snd_bits]
  intro j hj h
  have h1 := (stC_ok n m) j hj
  rw [h1.2, Bool.and_eq_true] at h
  rw [h1.1]
  exact h.1
/-- Does a cube care for a bit? -/
def Cb.cares (d : Cb) : Bool := !((d.ch == 0#64) && (d.cl == 0#64))
theorem snd_zero {d : Cb} (h : d.snd = true) (hc : d.cares = false) : d = Cb.zero := by
  unfold Cb.cares at hc
  simp only [Bool.not_eq_false', Bool.and_eq_true, beq_iff_eq] at hc
  unfold Cb.snd sndB at h
  rw [hc.1, hc.2] at h
  simp only [BitVec.and_zero, Bool.and_eq_true, beq_iff_eq] at h
  cases d
  simp only at hc h
  unfold Cb.zero
  rw [hc.1, hc.2, ← h.1, ← h.2]
theorem zero_cares : Cb.zero.cares = false := rfl
theorem cares_iff {d : Cb} (h : d.snd = true) : d.cares = true ↔ d ≠ Cb.zero := by
  constructor
  · rintro hc rfl
    rw [zero_cares] at hc
    cases hc
  · intro hn
    cases hc : d.cares with
    | true => rfl
    | false => exact absurd (snd_zero h hc) hn
/-- What coming in sets: a stamp for each edge. -/
noncomputable def edL (T : List (List Pt)) (m : Nat) : List Cb := (eTo T T.length).map fun s => stC (edgT T s.1 s.2).toNat m
/-- What rules set. -/
def rsL (rs : List Rl) : List Cb := (rs.map Rl.s).filter Cb.cares
/-- All that is set, each once. -/
noncomputable def allS (T : List (List Pt)) (BB : List (List (List Rl))) (m : Nat) : List Cb := addsC (addsC [] (edL T m)) (rsL (rulL BB))
/-- The matches of all rules, each once. -/
def mtcL (BB : List (List (List Rl))) : List Cb := addsC [] ((rulL BB).map Rl.m)
theorem rsL_snoc (rs : List Rl) (r : Rl) : rsL (rs ++ [r]) = rsL rs ++ (if r.s.cares then [r.s] else []) := by
  unfold rsL
  rw [List.map_append, List.filter_append]
  cases h : r.s.cares <;> simp [h]
theorem edL_take {T : List (List Pt)} {m i : Nat} {x : Rc} (h : (eTo T T.length)[i]? = some x) : (edL T m).take (i + 1) = (edL T m).take i ++ [stC (edgT T x.1 x.2).toNat m] := by
  unfold edL
  rw [List.take_add_one, List.getElem?_map, h]
  rfl
theorem edL_len (T : List (List Pt)) (m : Nat) : (edL T m).length = (eTo T T.length).length := by unfold edL; rw [List.length_map]
/-- How many rules a sound configuration has. -/
theorem cnt3 : ∀ (B : List (List Rl)), B.length ≤ 3 → (∀ R ∈ B, R.length ≤ 1466015503658) → ((B.flatten.length : Nat) : Int) = cntT B B.length ∧ B.flatten.length ≤ B.length * 1466015503658 := by
  intro B h3 hl
  have key : ∀ k, k ≤ B.length → (((B.take k).flatten.length : Nat) : Int) = cntT B k ∧ (B.take k).flatten.length ≤ k * 1466015503658 := by
    intro k
    induction k with
    | zero => intro _; exact ⟨rfl, Nat.le_refl _⟩
    | succ k ih =>
      intro hk
      obtain ⟨h1, h2⟩ := ih (by omega)
      obtain ⟨R, hR⟩ : ∃ R, B[k]? = some R := ⟨_, List.getElem?_eq_getElem (by omega)⟩
      have hRl := hl R (List.mem_of_getElem? hR)
      rw [cntT_succ hR, flatten_take hR, List.length_append, ← h1]
      have hw : IntKind.i64.wrap ((((B.take k).flatten.length : Nat) : Int) + (R.length : Int)) = (((B.take k).flatten.length + R.length : Nat) : Int) := by
        rw [show ((((B.take k).flatten.length : Nat) : Int) + (R.length : Int)) = (((B.take k).flatten.length + R.length : Nat) : Int) by omega]
        rw [IntKind.wrap_i64]
        have : k < 3 := by omega
        have : k * 1466015503658 ≤ 3 * 1466015503658 := Nat.mul_le_mul_right _ (by omega)
        omega
      rw [hw]
      exact ⟨rfl, by omega⟩
  have := key B.length (Nat.le_refl _)
  rwa [List.take_length] at this
theorem tab_len {B : List (List Rl)} {K : List Int} (h : sT B K = 0) (hl : ∀ R ∈ B, R.length ≤ 1466015503658) : B.flatten.length ≤ 96 := by
  obtain ⟨_, h3, _⟩ := sT_zero h
  have hc := (cnt3 B h3 hl).1
  unfold sT at h
  split at h
  · cases h
  · split at h
    · cases h
    · rename_i h96
      rw [← hc] at h96
      omega
theorem flat_le : ∀ (BB : List (List (List Rl))), (∀ X ∈ BB, X.flatten.length ≤ 96) → (rulL BB).length ≤ BB.length * 96
  | [], _ => Nat.le_refl _
  | X :: BB, h => by
    have h1 := h X List.mem_cons_self
    have h2 := flat_le BB fun Y hY => h Y (List.mem_cons_of_mem _ hY)
    have e : rulL (X :: BB) = X.flatten ++ rulL BB := rfl
    rw [e, List.length_append, List.length_cons]
    omega
theorem rul_len {T : List (List Pt)} {ten : Int} {P : List (Int × Int)} {Q : List Wa} {BB : List (List (List Rl))} (h : cfgT T ten P Q BB = 0) (hl : ∀ X ∈ BB, ∀ R ∈ X, R.length ≤ 1466015503658) : (rulL BB).length ≤ 576 := by
  obtain ⟨h1, -, h3, h4⟩ := cfg_parts h
  obtain ⟨_, h6, _⟩ := szT_iff.1 (sTp_zero h1).1
  have := flat_le BB fun X hX => by
    obtain ⟨n, hn⟩ := List.mem_iff_getElem?.1 hX
    have hlt := (List.getElem?_eq_some_iff.1 hn).1
    obtain ⟨L, hL⟩ : ∃ L, T[n]? = some L := ⟨_, List.getElem?_eq_getElem (by omega)⟩
    exact tab_len (firT_zero h4 hn hL) (hl X hX)
  omega
theorem edge_len {T : List (List Pt)} (h : sTp T = 0) : (eTo T T.length).length ≤ 36 := by
  obtain ⟨_, h6, hl⟩ := szT_iff.1 (sTp_zero h).1
  have h1 := sum_le6 T hl
  have h2 := eTo_len T T.length (Nat.le_refl _)
  have h3 := take_le T T.length
  omega
theorem rul_snd {T : List (List Pt)} {ten : Int} {P : List (Int × Int)} {Q : List Wa} {BB : List (List (List Rl))} (h : cfgT T ten P Q BB = 0) {r : Rl} (hr : r ∈ rulL BB) : r.m.snd = true ∧ r.s.snd = true := by
  obtain ⟨h1, -, h3, h4⟩ := cfg_parts h
  obtain ⟨X, hX, R, hR, hr⟩ := rulL_mem.1 hr
  obtain ⟨n, hn⟩ := List.mem_iff_getElem?.1 hX
  have hlt := (List.getElem?_eq_some_iff.1 hn).1
  obtain ⟨L, hL⟩ : ∃ L, T[n]? = some L := ⟨_, List.getElem?_eq_getElem (by omega)⟩
  obtain ⟨t, ht⟩ := List.mem_iff_getElem?.1 hR
  obtain ⟨i, hi⟩ := List.mem_iff_getElem?.1 hr
  have := rule_leads h ⟨hL, X, hn, ht⟩ hi
  exact ⟨this.1, this.2.1⟩
theorem rsL_len (rs : List Rl) : (rsL rs).length ≤ rs.length := by
  unfold rsL
  refine Nat.le_trans (List.length_filter_le _ _) ?_
  rw [List.length_map]
  exact Nat.le_refl _
theorem allS_len {T : List (List Pt)} {ten : Int} {P : List (Int × Int)} {Q : List Wa} {BB : List (List (List Rl))} (h : cfgT T ten P Q BB = 0) (hl : ∀ X ∈ BB, ∀ R ∈ X, R.length ≤ 1466015503658) (m : Nat) : (allS T BB m).length ≤ 612 := by
  have h1 := addsC_len (rsL (rulL BB)) (addsC [] (edL T m))
  have h2 := addsC_len (edL T m) []
  have h3 := rul_len h hl
  have h4 := edge_len (cfg_parts h).1
  have h5 := rsL_len (rulL BB)
  rw [edL_len] at h2
  unfold allS
  simp only [List.length_nil] at h2
  omega
theorem mtcL_len {T : List (List Pt)} {ten : Int} {P : List (Int × Int)} {Q : List Wa} {BB : List (List (List Rl))} (h : cfgT T ten P Q BB = 0) (hl : ∀ X ∈ BB, ∀ R ∈ X, R.length ≤ 1466015503658) : (mtcL BB).length ≤ 576 := by
  have h1 := addsC_len ((rulL BB).map Rl.m) []
  have h3 := rul_len h hl
  rw [List.length_map] at h1
  unfold mtcL
  simp only [List.length_nil] at h1
  omega
theorem allS_snd {T : List (List Pt)} {ten : Int} {P : List (Int × Int)} {Q : List Wa} {BB : List (List (List Rl))} (h : cfgT T ten P Q BB = 0) {m : Nat} {c : Cb} (hc : c ∈ allS T BB m) : c.snd = true := by
  unfold allS at hc
  rcases addsC_mem.1 hc with hc | hc
  · rcases addsC_mem.1 hc with hc | hc
    · cases hc
    · unfold edL at hc
      obtain ⟨s, _, rfl⟩ := List.mem_map.1 hc
      exact stC_snd _ _
  · obtain ⟨hc, _⟩ := List.mem_filter.1 hc
    obtain ⟨r, hr, rfl⟩ := List.mem_map.1 hc
    exact (rul_snd h hr).2
theorem mtcL_snd {T : List (List Pt)} {ten : Int} {P : List (Int × Int)} {Q : List Wa} {BB : List (List (List Rl))} (h : cfgT T ten P Q BB = 0) {c : Cb} (hc : c ∈ mtcL BB) : c.snd = true := by
  unfold mtcL at hc
  rcases addsC_mem.1 hc with hc | hc
  · cases hc
  · obtain ⟨r, hr, rfl⟩ := List.mem_map.1 hc
    exact (rul_snd h hr).1
end Go.Proofs.Hd

namespace Go.Proofs.Hd
open Go Go.RowKit Go.Proofs
/-- What a configuration and a version say together. -/
def wrgZ (z ver : Int) : Int := if z = 0 then (if 0 ≤ ver ∧ ver ≤ 255 then 0 else 4) else z
/-- Cubes were returned, in memory of the call's own. -/
def GotCs (w : World) (l : List Cb) (e : Ending) (w' : World) : Prop := ∃ v, e = .returned (.tuple #[v, .int .i64 0]) ∧ w'.ownsRow w.heap.size 43 4 v l.length (flat l) ∧ Below w.heap.size w w'
/-- Since w4 nothing but block B turned, where the list lies, with blocks that are no others of w4's, and none of N. -/
def DsI (w4 : World) (B : Nat) (N : Nat → Prop) (l : List Cb) (wr : World) : Prop := ∃ S, DsAt wr B l S ∧ (∀ x, S x → (x = B ∨ w4.heap.size ≤ x) ∧ ¬ N x) ∧ Ch (· = B) w4 wr
theorem DsI.ch {w4 : World} {B : Nat} {N Q : Nat → Prop} {l : List Cb} {w w' : World} (h : DsI w4 B N l w) (hc : Ch Q w w') (hQ : ∀ x, Q x → N x ∧ w4.heap.size ≤ x) : DsI w4 B N l w' := by
  obtain ⟨S, h1, h2, h3⟩ := h
  refine ⟨S, h1.ch hc (fun x hx hq => (h2 x hx).2 (hQ x hq).1), h2, ch_thenD h3 hc (fun x hx hq => ?_)⟩
  have := (hQ x hq).2
  omega
theorem DsI.on {w4 : World} {B : Nat} {N : Nat → Prop} {l : List Cb} {w w' : World} (h : DsI w4 B N l w) (hb : Below w.heap.size w w') : DsI w4 B N l w' :=
  h.ch (Q := fun _ => False) (Ch.of_below hb) (fun _ h => h.elim)
theorem DsI.frame {w4 : World} {B : Nat} {N : Nat → Prop} {l : List Cb} {w : World} (h : DsI w4 B N l w) : Ch (· = B) w4 w := h.choose_spec.2.2
theorem DsI.avoid {w4 : World} {B : Nat} {N N' : Nat → Prop} {l : List Cb} {w : World} (h : DsI w4 B N l w) (hN : ∀ x, N' x → w.heap.size ≤ x) : DsI w4 B N' l w := by
  obtain ⟨S, h1, h2, h3⟩ := h
  refine ⟨S, h1, fun x hx => ⟨(h2 x hx).1, fun hn => ?_⟩, h3⟩
  have := (h1.ge hx).2
  have := hN x hn
  omega
/-- What a call of add does then. -/
def DsS (w4 : World) (B : Nat) (N : Nat → Prop) (l' : List Cb) (w : World) (e : Ending) (w' : World) : Prop := e = .returned (.tuple #[]) ∧ DsI w4 B N l' w' ∧ Ch (fun x => (x = B ∨ w4.heap.size ≤ x) ∧ ¬ N x) w w'
theorem DsI.step {w4 : World} {B : Nat} {N : Nat → Prop} {l' : List Cb} {w w' : World} {S : Nat → Prop} {e : Ending} (h2 : ∀ x, S x → (x = B ∨ w4.heap.size ≤ x) ∧ ¬ N x) (h3 : Ch (· = B) w4 w) (hN : ∀ x, N x → x < w.heap.size) (ht : DsTo w B l' S e w') : DsS w4 B N l' w e w' := by
  obtain ⟨S', rfl, k1, k2, k3⟩ := ht
  refine ⟨rfl, ⟨S', k1, fun x hx => ?_, ch_thenD h3 k3 (fun x hx hs => ?_)⟩, k3.mono fun x _ hx => h2 x hx⟩
  · rcases k2 x hx with hx | hx
    · exact h2 x hx
    · refine ⟨.inr (Nat.le_trans h3.size hx), fun hn => ?_⟩
      have := hN x hn
      omega
  · rcases (h2 x hs).1 with rfl | hge
    · rfl
    · omega
end Go.Proofs.Hd
namespace Go.Proofs
open Go.RowKit Go.Proofs.Hd Go.Lib Go.Shelf
theorem dadd_i (c : Cb) (w4 : World) (B : Nat) (N : Nat → Prop) (l : List Cb) (w : World) (h : DsI w4 B N l w) (hN : ∀ x, N x → x < w.heap.size) (hlen : l.length ≤ 1099511627776) : Calls Try.prog 23 #[.pointer (some ⟨B, 0, none⟩), .agg #[.int .u64 (uv c.vh), .int .u64 (uv c.vl), .int .u64 (uv c.ch), .int .u64 (uv c.cl)]] w (DsS w4 B N (addC l c) w) := by
  obtain ⟨S, h1, h2, h3⟩ := h
  refine (dadd_c c B l S w h1 hlen).mono ?_
  rintro e w' ht
  exact DsI.step h2 h3 hN ht
end Go.Proofs

namespace Go.Proofs.Hd
open Go Go.RowKit Go.Proofs
variable {P : Program} {F : Fence} {n : Nat} {fn : Func} {R : Ending → World → Prop}
theorem retM {a : Act} {w : World} {v : Value} (hr : (results fn a.tmps).run P w = .ok v w) (hd : a.defers = []) (hR : R (.returned v) w) : bodyPostM F n P fn R .ret a w := by
  show LeavesInM F n P fn a.tmps R a.defers .returning w
  rw [hd]
  exact ⟨v, hr, hR⟩
theorem retD {a : Act} {w : World} {v : Value} {D : Nat} (hd : a.defers = [{ target := .collected D, args := #[] }]) (hK : w.heap[D]? = some (.deferred (some []))) (hr : (results fn a.tmps).run P (w.putObj D (.deferred none)) = .ok v (w.putObj D (.deferred none))) (hR : R (.returned v) (w.putObj D (.deferred none))) : bodyPostM F n P fn R .ret a w := by
  show LeavesInM F n P fn a.tmps R a.defers .returning w
  rw [hd]
  exact ⟨by simp, .inl ⟨_, _, rfl, run_takeDeferred hK, v, hr, hR⟩⟩
theorem cares_eq2 (d : Cb) : eq2 (uv d.ch) (uv d.cl) 0 0 = !d.cares := by
  show eq2 (uv d.ch) (uv d.cl) (uv 0#64) (uv 0#64) = _
  rw [eq2_uv]
  unfold Cb.cares
  rw [Bool.not_not]
end Go.Proofs.Hd
namespace Go.Proofs
open Go.RowKit Go.Proofs.Hd Go.Lib Go.Shelf
attribute [local go_sem] uv_nonneg Oper.semAt_some
attribute [local go_sem high] run_eq2 run_eq4
set_option maxRecDepth 100000 in
set_option maxHeartbeats 4000000 in
theorem psets_ok (tv pv wv bv : Value) (T : List (List Pt)) (ten : Int) (P : List (Int × Int)) (Q : List Wa) (BB : List (List (List Rl))) (m : Nat) (w : World) (hT : PsT w tv T) (hP : Pe w pv P) (hQ : Wy w wv Q) (hB : RuQ w bv BB) (hc : cfgT T ten P Q BB = 0) (hm : m ≤ 255) (hz : ∀ X ∈ BB, ∀ R ∈ X, R.length ≤ 1466015503658) :
    Calls Try.prog 7 #[.agg #[tv, .int .i64 ten, pv, wv, bv], .int .i64 (m : Int)] w (GotCs w (allS T BB m)) := by
  have HT := Lib.hid hT
  have HP := Lib.hid hP
  have HQ := Lib.hid hQ
  have HBQ := Lib.hid hB
  have HZ := Lib.hid hc
  have HN := Lib.hid (ports_sound (cfg_parts hc).1)
  have HST := Lib.hid (cfg_parts hc).1
  have HE36 := Lib.hid (edge_len (cfg_parts hc).1)
  have H576 := Lib.hid (rul_len hc hz)
  obtain ⟨A, cap, rfl, -, -⟩ := hT
  obtain ⟨pA, pc, rfl, -, -⟩ := hP
  obtain ⟨wA, wc, rfl, -, -⟩ := hQ
  obtain ⟨bA, bc, rfl, -, -⟩ := hB
  have B0 := Lib.hid (below1 w (.cells #[.slice A T.length cap, .int .i64 ten, .slice pA P.length pc, .slice wA Q.length wc, .slice bA BB.length bc] 31))
  have N0 : Hid (Blk (w.alloc (.cells #[.slice A T.length cap, .int .i64 ten, .slice pA P.length pc, .slice wA Q.length wc, .slice bA BB.length bc] 31)) w.heap.size 31 #[.slice A T.length cap, .int .i64 ten, .slice pA P.length pc, .slice wA Q.length wc, .slice bA BB.length bc]) := Blk.new w _ _
  clear hc hz
  refine (callsIn_wide (n := 10)).1 ?_
  refine callsIn_of_wp_marks Try.func7 rfl trivial ?_
  simp only [Try.ntmps7, List.size_toArray, List.length_cons, List.length_nil, Nat.reduceAdd, Nat.reduceSub, Array.replicate_succ, Array.replicate_zero, List.push_toArray, List.append_toArray, List.nil_append, List.cons_append]
  refine wpIn_wide.2 ?_
  go_upto_region 1 with (fail)
  generalize (w.alloc (.cells #[.slice A T.length cap, .int .i64 ten, .slice pA P.length pc, .slice wA Q.length wc, .slice bA BB.length bc] 31)) = w1 at B0 N0 ⊢
  obtain ⟨d0, d1, d2, d3, d4⟩ := N0.out.five
  go_wp2_with fail
  (with_reducible refine (csound_c _ _ _ _ T ten P Q BB _ (HT.out.on B0.out) (HP.out.on B0.out) (HQ.out.on B0.out) (HBQ.out.on B0.out)).mono ?_)
  rintro e w2 ⟨rfl, hb2⟩
  rw [HZ.out]
  have B2 := Lib.hid (B0.out.trans (hb2.mono B0.out.size))
  have N2 := Lib.hid (N0.out.on hb2)
  clear hb2 B0 N0 d0 d1 d2 d3 d4
  have hv1 : ¬ ((m : Int) < 0) := by omega
  have hv2 : ¬ ((255 : Int) < (m : Int)) := by omega
  go_upto_region 7 with (fail)
  have HD := Lib.hid (DsAt.made w2)
  have hb3 := below1 w2 (.cells #[.slice none 0 0, .map none] 72)
  have HBS : Hid (w.heap.size ≤ w2.heap.size) := B2.out.size
  have B3 := Lib.hid (B2.out.trans (hb3.mono B2.out.size))
  have N3 := Lib.hid (N2.out.on hb3)
  have HNB : Hid (w.heap.size < w2.heap.size) := N2.out.lt
  generalize w2.alloc (.cells #[.slice none 0 0, .map none] 72) = w3 at HD B3 N3 ⊢
  generalize w2.heap.size = B at HD HBS HNB ⊢
  clear hb3 B2 N2
  obtain ⟨d0, d1, d2, d3, d4⟩ := N3.out.five
  go_wp2_with fail
  (with_reducible refine (edges_c _ T _ (HT.out.on B3.out) HN.out).mono ?_)
  rintro e w4 ⟨ev, rfl, OE, hb4⟩
  obtain ⟨eA, ec, rfl, hE⟩ := Spt.of OE
  obtain ⟨E, hEE⟩ : ∃ E, eTo T T.length = E := ⟨_, rfl⟩
  have HEE := Lib.hid hEE
  have HBL : Hid (B < w3.heap.size) := (HD.out.ge rfl).2
  have HOE := Lib.hid OE
  rw [hEE] at hE
  have HE := Lib.hid hE
  have B4 := Lib.hid (B3.out.trans (hb4.mono B3.out.size))
  have N4 := Lib.hid (N3.out.on hb4)
  have H34 : Hid (w3.heap.size ≤ w4.heap.size) := hb4.size
  have HI4 : Hid (DsI w4 B (fun _ => False) (addsC [] ((edL T m).take 0)) w4) := ⟨_, HD.out.on hb4, fun x hx => ⟨.inl hx, fun h => h⟩, Ch.refl _ _⟩
  rw [hEE]
  have h36 : E.length ≤ 36 := by rw [← hEE]; exact HE36.out
  clear hEE hb4 B3 N3 d0 d1 d2 d3 d4 HD OE hE hv1 hv2
  go_wp2
  go_loopg [9, 10, 11, 28] E.length (fun gk _ _ _ s28 wr => ∃ i, i ≤ E.length ∧ gk = E.length - i ∧ s28 = .int .i64 i ∧ Hid (DsI w4 B (fun _ => False) (addsC [] ((edL T m).take i)) wr))
  case atStart => exact ⟨0, Nat.zero_le _, rfl, by go_num, HI4⟩
  case round =>
    clear HI4
    obtain ⟨i, hi, rfl, rfl, HI⟩ := hrel
    by_cases hlt : i < E.length
    · have hltz : (i : Int) < (E.length : Int) := by omega
      obtain ⟨⟨xa, xb⟩, hx⟩ : ∃ x, E[i]? = some x := ⟨_, List.getElem?_eq_getElem hlt⟩
      obtain ⟨b, rfl, hcE⟩ := HE.out (by intro h; rw [h] at hlt; simp at hlt)
      obtain ⟨hx1, hx2⟩ := hcE i _ hx
      have hbE := HOE.out.lt b rfl
      have hbB : b ≠ B := by have := HBL.out; omega
      have e0 := HI.out.frame.cell hx1 hbB
      have e1 := HI.out.frame.cell hx2 hbB
      have BR : Hid (Below w.heap.size w wr) := B4.out.trans (HI.out.frame.below B4.out.size (fun x hx hB => by have := HBS.out; omega))
      have NR := Lib.hid (HI.out.frame.blk N4.out (by have := HNB.out; omega))
      obtain ⟨d0, d1, d2, d3, d4⟩ := NR.out.five
      have HX := Lib.hid hx
      clear hx hx1 hx2 hcE hbE hbB
      go_upto_region 10 with (fail)
      have hbx := below1 wr (.cells #[.int .i64 (xa : Int), .int .i64 (xb : Int)] 56)
      have HSX : Hid (Blk (wr.alloc (.cells #[.int .i64 (xa : Int), .int .i64 (xb : Int)] 56)) wr.heap.size 56 #[.int .i64 (xa : Int), .int .i64 (xb : Int)]) := Blk.new wr _ _
      have HI5 := Lib.hid (HI.out.on hbx)
      have B5 := Lib.hid (BR.out.trans (hbx.mono BR.out.size))
      have N5 := Lib.hid (NR.out.on hbx)
      clear HI BR NR d0 d1 d2 d3 d4 e0 e1
      generalize wr.alloc (.cells #[.int .i64 (xa : Int), .int .i64 (xb : Int)] 56) = w5 at HSX HI5 B5 N5 ⊢
      obtain ⟨d0, d1, d2, d3, d4⟩ := N5.out.five
      obtain ⟨e0, e1⟩ := HSX.out.both
      clear hbx
      go_wp2_with fail
      (with_reducible refine (stamp_c _ _ _ _ T ten P Q BB _ _ _ _ (HT.out.on B5.out) (HP.out.on B5.out) (HQ.out.on B5.out) (HBQ.out.on B5.out)).mono ?_)
      rintro e w6 ⟨hst, hb6⟩
      obtain ⟨L, p, hL, hp, hkd⟩ := eTo_mem.1 (by rw [HEE.out]; exact List.mem_of_getElem? HX.out : ((xa, xb) : Rc) ∈ eTo T T.length)
      simp only at hL hp
      obtain ⟨nt, hn3, hpt⟩ := edge_sound HST.out hL hp hkd
      have hed := (edgT_edge hL hp hkd).trans hpt
      obtain ⟨n', m', cvh, cvl, cch, ccl, _, _, hen, hme, rfl, hSB⟩ := hst.2.2.2 HZ.out ⟨by omega, by omega⟩ (by rw [hed]; omega)
      have hcS := stC_eq hSB
      have hmm : m' = m := by omega
      subst hmm
      have hnt : (edgT T (xa : Int) (xb : Int)).toNat = n' := by rw [hen]; rfl
      have HTK : Hid (addsC [] ((edL T m').take (i + 1)) = addC (addsC [] ((edL T m').take i)) ⟨cvh, cvl, cch, ccl⟩) := by
        show _ = _
        rw [edL_take (x := (xa, xb)) (by rw [HEE.out]; exact HX.out), addsC_snoc, hcS, hnt]
      have HI6 := Lib.hid (HI5.out.on hb6)
      have HLN : Hid ((addsC [] ((edL T m').take i)).length ≤ 1099511627776) := by
        show _ ≤ _
        have h1 := addsC_len ((edL T m').take i) []
        rw [List.length_take] at h1
        simp only [List.length_nil] at h1
        omega
      clear hst hb6 hL hp hkd hn3 hpt hed hen hme hSB hcS hnt HI5 HSX B5 N5 d0 d1 d2 d3 d4 e0 e1
      go_upto_region 13 with (fail)
      have hbx := below1 w6 (.cells #[.int .u64 (uv cvh), .int .u64 (uv cvl), .int .u64 (uv cch), .int .u64 (uv ccl)] 43)
      have HC : Hid (Blk (w6.alloc (.cells #[.int .u64 (uv cvh), .int .u64 (uv cvl), .int .u64 (uv cch), .int .u64 (uv ccl)] 43)) w6.heap.size 43 #[.int .u64 (uv cvh), .int .u64 (uv cvl), .int .u64 (uv cch), .int .u64 (uv ccl)]) := Blk.new w6 _ _
      have HI7 := Lib.hid (HI6.out.on hbx)
      clear HI6 hbx
      generalize w6.alloc (.cells #[.int .u64 (uv cvh), .int .u64 (uv cvl), .int .u64 (uv cch), .int .u64 (uv ccl)] 43) = w7 at HC HI7 ⊢
      obtain ⟨f0, f1, f2, f3⟩ := quad HC.out
      go_wp2_with fail
      (with_reducible refine (dadd_i ⟨cvh, cvl, cch, ccl⟩ w4 B _ _ _ HI7.out (fun _ h => h.elim) HLN.out).mono ?_)
      rintro e w8 ⟨rfl, HI8, hc8⟩
      rw [← HTK.out] at HI8
      have HI9 := Lib.hid HI8
      clear HI8 hc8 HI7 HC f0 f1 f2 f3
      go_wp2
      go_roundg (E.length - (i + 1))
      case measure => omega
      case rel => exact ⟨i + 1, by omega, rfl, by go_num, HI9⟩
    · have hltz : ¬ (i : Int) < (E.length : Int) := by omega
      obtain rfl : i = E.length := by omega
      have hta : (edL T m).take E.length = edL T m := by rw [← HEE.out, ← edL_len T m]; exact List.take_length
      rw [hta] at HI
      have BR : Hid (Below w.heap.size w wr) := B4.out.trans (HI.out.frame.below B4.out.size (fun x hx hB => by have := HBS.out; omega))
      have NR := Lib.hid (HI.out.frame.blk N4.out (by have := HNB.out; omega))
      have HLN : Hid ((addsC [] (edL T m)).length ≤ 36) := by
        show _ ≤ _
        have h1 := addsC_len (edL T m) []
        rw [edL_len, HEE.out] at h1
        simp only [List.length_nil] at h1
        omega
      obtain ⟨d0, d1, d2, d3, d4⟩ := NR.out.five
      clear hta hltz HEE HE HOE HST HN HZ h36 hi HE36
      go_wp2
      clear d0 d1 d2 d3 d4
      have hBD : B < wr.heap.size := by have h1 := HBL.out; have h2 := H34.out; have h3 := HI.out.frame.size; omega
      have hD4 : w4.heap.size ≤ wr.heap.size := HI.out.frame.size
      have hBw : w.heap.size ≤ B := HBS.out
      refine (wpIn_wide (n := 10)).1 ?_
      refine wpIn_rangeFunc_all (encs := fun x : Rl => #[.agg #[.int .i64 x.pri, .int .u64 (uv x.m.vh), .int .u64 (uv x.m.vl), .int .u64 (uv x.m.ch), .int .u64 (uv x.m.cl), .int .i64 x.kind, .int .i64 x.port, .int .i64 x.tab, .int .u64 (uv x.s.vh), .int .u64 (uv x.s.vl), .int .u64 (uv x.s.ch), .int .u64 (uv x.s.cl)]]) rfl (by decide) (gf := 24) (rv := .slice bA BB.length bc) rfl trivial (enters_of Try.func24 (by kernel_rfl) rfl) BR.out.size (rules_seq _ (by decide) _ BB w wr HBQ.out BR.out) (fun _ => rfl)
        (fun pre W => DsI w4 B (fun x => x = wr.heap.size ∨ x = wr.heap.size + 1) (addsC (addsC [] (edL T m)) (rsL pre)) W) ?hI ?h0 ?round ?done
      case hI =>
        intro s A' B' hs hc
        refine hs.ch hc (fun x hx => ⟨hx, ?_⟩)
        rcases hx with rfl | rfl <;> omega
      case h0 =>
        refine HI.out.avoid (fun x hx => ?_)
        rcases hx with rfl | rfl <;> omega
      case round =>
        intro l pre x W hWs hI hpre K hK
        have hIl : (addsC (addsC [] (edL T m)) (rsL pre)).length ≤ 1099511627776 := by
          have h1 := addsC_len (rsL pre) (addsC [] (edL T m))
          have h2 := HLN.out
          have h3 := rsL_len pre
          have h4 := hpre.length_le
          have h5 := H576.out
          rw [List.length_append] at h4
          simp only [List.length_cons, List.length_nil] at h4
          omega
        have HIL := Lib.hid hIl
        have HHI := Lib.hid hI
        have HWS := Lib.hid hWs
        have HK := Lib.hid hK
        clear hIl hI hWs hK hpre
        gi_wp2
        refine HK.out _ _ ⟨Ch.of_below (below1 W _), fun Wb hWb hcb => ?_⟩
        have hXb : Blk Wb W.heap.size 51 #[.int .i64 x.pri, .int .u64 (uv x.m.vh), .int .u64 (uv x.m.vl), .int .u64 (uv x.m.ch), .int .u64 (uv x.m.cl), .int .i64 x.kind, .int .i64 x.port, .int .i64 x.tab, .int .u64 (uv x.s.vh), .int .u64 (uv x.s.vl), .int .u64 (uv x.s.ch), .int .u64 (uv x.s.cl)] := hcb.blk (Blk.new W _ _) (by have := HWS.out; omega)
        have HIB : Hid (DsI w4 B (fun x => x = wr.heap.size ∨ x = wr.heap.size + 1) (addsC (addsC [] (edL T m)) (rsL pre)) Wb) := (HHI.out.on (below1 W _)).ch hcb (fun y hy => ⟨.inr hy, by rw [hy]; omega⟩)
        have HSB : Hid (wr.heap.size + 1 < Wb.heap.size) := by show _ < _; have h1 := HWS.out; rw [World.size_alloc] at hWb; omega
        have c8 : Wb.cell? ⟨W.heap.size, 8, none⟩ = some (.int .u64 (uv x.s.vh)) := (hXb.cell 8).trans rfl
        have c9 : Wb.cell? ⟨W.heap.size, 9, none⟩ = some (.int .u64 (uv x.s.vl)) := (hXb.cell 9).trans rfl
        have c10 : Wb.cell? ⟨W.heap.size, 10, none⟩ = some (.int .u64 (uv x.s.ch)) := (hXb.cell 10).trans rfl
        have c11 : Wb.cell? ⟨W.heap.size, 11, none⟩ = some (.int .u64 (uv x.s.cl)) := (hXb.cell 11).trans rfl
        have hcq := cares_eq2 x.s
        have HRL := Lib.hid (rsL_snoc pre x)
        generalize hbx : W.heap.size = bx at c8 c9 c10 c11 ⊢
        clear hXb hWb hcb HK hbx
        cases hcr : x.s.cares with
        | true =>
          rw [hcr] at hcq
          simp only [Bool.not_true] at hcq
          have HRS : Hid (addsC (addsC [] (edL T m)) (rsL (pre ++ [x])) = addC (addsC (addsC [] (edL T m)) (rsL pre)) x.s) := by
            show _ = _
            rw [HRL.out, hcr, if_pos rfl, addsC_snoc]
          clear HRL hcr
          gi_wp2
          refine ⟨trivial, ?_⟩
          refine (CallsIn.inRound l (callsIn_wide.2 (dadd_i x.s w4 B _ _ _ HIB.out (fun y hy => by have := HSB.out; rcases hy with rfl | rfl <;> omega) HIL.out))).mono ?_
          rintro e W3 ⟨rfl, hI3, hc3⟩
          rw [← HRS.out] at hI3
          have HI3 := Lib.hid hI3
          have HC3 := Lib.hid hc3
          clear hI3 hc3 HRS HIB HIL c8 c9 c10 c11 hcq
          gi_wp2
          refine ⟨HC3.out.block _ (by have := HSB.out; omega) (fun h => h.2 (.inl rfl)), HC3.out.block _ HSB.out (fun h => h.2 (.inr rfl)), HC3.out.below (by have := HSB.out; have := BR.out.size; omega) (fun k hk h => ?_), HI3.out⟩
          have h1 := BR.out.size
          rcases h.1 with rfl | h2
          · omega
          · have := B4.out.size
            omega
        | false =>
          rw [hcr] at hcq
          simp only [Bool.not_false] at hcq
          have HRS : Hid (addsC (addsC [] (edL T m)) (rsL (pre ++ [x])) = addsC (addsC [] (edL T m)) (rsL pre)) := by
            show _ = _
            rw [HRL.out, hcr, if_neg (by decide), List.append_nil]
          clear HRL hcr
          gi_wp2
          refine ⟨rfl, rfl, Below.refl _ _, ?_⟩
          show DsI _ _ _ _ _
          rw [HRS.out]
          exact HIB.out
      case done =>
        intro W hI hK
        have HI6 := Lib.hid hI
        have HK6 := Lib.hid hK
        obtain ⟨S, ⟨sv, mb, h1, h2, h3, h4, h5⟩, h6, h7⟩ := hI
        obtain ⟨e0, e1⟩ := h1.both
        obtain ⟨sA, sc, rfl⟩ := own_slD h2
        have HO := Lib.hid h2
        have H6 := Lib.hid h6
        have H7 := Lib.hid h7
        have H5 := Lib.hid h5
        clear h1 h2 h3 h4 h5 h6 h7 hK
        go_wp2
        refine retD (D := wr.heap.size) rfl HK6.out (v := .tuple #[.slice sA (allS T BB m).length sc, .int .i64 0]) (by simp [results, Try.results7, go_sem, allS]) ?_
        have hcD : Ch (fun k => k = wr.heap.size) W (W.putObj wr.heap.size (.deferred none)) := ⟨rfl, rfl, rfl, by simp, fun k _ hk => World.putObj_heap_other hk⟩
        have hsz := H7.out.size
        have hDW : wr.heap.size < W.heap.size := (Array.getElem?_eq_some_iff.1 HK6.out).1
        refine ⟨_, rfl, hcD.own (World.ownsRow.mono HO.out (by omega)) (fun g hg h => (H6.out g ((H5.out g).2 (.inr (.inr hg)))).2 (.inl h)), ?_⟩
        have h4 := B4.out.size
        exact B4.out.trans ((H7.out.below h4 (fun k hk h => by omega)).trans (hcD.below (by omega) (fun k hk h => by omega)))
set_option maxRecDepth 100000 in
set_option maxHeartbeats 4000000 in
theorem psets_bad (tv pv wv bv : Value) (T : List (List Pt)) (ten : Int) (P : List (Int × Int)) (Q : List Wa) (BB : List (List (List Rl))) (ver z : Int) (w : World) (hT : PsT w tv T) (hP : Pe w pv P) (hQ : Wy w wv Q) (hB : RuQ w bv BB) (hc : wrgZ (cfgT T ten P Q BB) ver = z) (hz : z ≠ 0) :
    Calls Try.prog 7 #[.agg #[tv, .int .i64 ten, pv, wv, bv], .int .i64 ver] w fun e w' => e = .returned (.tuple #[.slice none 0 0, .int .i64 z]) ∧ Below w.heap.size w w' := by
  have HT := Lib.hid hT
  have HP := Lib.hid hP
  have HQ := Lib.hid hQ
  have HBQ := Lib.hid hB
  have HZ := Lib.hid hc
  obtain ⟨A, cap, rfl, -, -⟩ := hT
  obtain ⟨pA, pc, rfl, -, -⟩ := hP
  obtain ⟨wA, wc, rfl, -, -⟩ := hQ
  obtain ⟨bA, bc, rfl, -, -⟩ := hB
  have B0 := Lib.hid (below1 w (.cells #[.slice A T.length cap, .int .i64 ten, .slice pA P.length pc, .slice wA Q.length wc, .slice bA BB.length bc] 31))
  have N0 : Hid (Blk (w.alloc (.cells #[.slice A T.length cap, .int .i64 ten, .slice pA P.length pc, .slice wA Q.length wc, .slice bA BB.length bc] 31)) w.heap.size 31 #[.slice A T.length cap, .int .i64 ten, .slice pA P.length pc, .slice wA Q.length wc, .slice bA BB.length bc]) := Blk.new w _ _
  clear hc
  refine (callsIn_wide (n := 10)).1 ?_
  refine callsIn_of_wp_marks Try.func7 rfl trivial ?_
  simp only [Try.ntmps7, List.size_toArray, List.length_cons, List.length_nil, Nat.reduceAdd, Nat.reduceSub, Array.replicate_succ, Array.replicate_zero, List.push_toArray, List.append_toArray, List.nil_append, List.cons_append]
  refine wpIn_wide.2 ?_
  go_upto_region 1 with (fail)
  generalize (w.alloc (.cells #[.slice A T.length cap, .int .i64 ten, .slice pA P.length pc, .slice wA Q.length wc, .slice bA BB.length bc] 31)) = w1 at B0 N0 ⊢
  obtain ⟨d0, d1, d2, d3, d4⟩ := N0.out.five
  go_wp2_with fail
  (with_reducible refine (csound_c _ _ _ _ T ten P Q BB _ (HT.out.on B0.out) (HP.out.on B0.out) (HQ.out.on B0.out) (HBQ.out.on B0.out)).mono ?_)
  rintro e w2 ⟨rfl, hb2⟩
  obtain ⟨y, hy⟩ : ∃ y, cfgT T ten P Q BB = y := ⟨_, rfl⟩
  rw [hy]
  have B2 := Lib.hid (B0.out.trans (hb2.mono B0.out.size))
  have HY := Lib.hid hy
  clear hb2 B0 N0 d0 d1 d2 d3 d4 hy
  by_cases hy0 : y = 0
  · subst hy0
    by_cases hv1 : ver < 0
    · have HR : Hid (z = 4) := by
        have h := HZ.out
        rw [HY.out] at h
        unfold wrgZ at h
        rw [if_pos rfl, if_neg (by omega)] at h
        exact h.symm
      go_wp2
      refine retM (v := .tuple #[.slice none 0 0, .int .i64 4]) (by simp [results, Try.results7, go_sem]) rfl ⟨by rw [HR.out], B2.out⟩
    · have hv2 : 255 < ver := by
        have h := HZ.out
        rw [HY.out] at h
        unfold wrgZ at h
        rw [if_pos rfl] at h
        by_cases hv : 0 ≤ ver ∧ ver ≤ 255
        · rw [if_pos hv] at h; exact absurd h.symm hz
        · omega
      have HR : Hid (z = 4) := by
        have h := HZ.out
        rw [HY.out] at h
        unfold wrgZ at h
        rw [if_pos rfl, if_neg (by omega)] at h
        exact h.symm
      clear hz
      go_wp2
      refine retM (v := .tuple #[.slice none 0 0, .int .i64 4]) (by simp [results, Try.results7, go_sem]) rfl ⟨by rw [HR.out], B2.out⟩
  · have HR : Hid (z = y) := by
      have h := HZ.out
      rw [HY.out] at h
      unfold wrgZ at h
      rw [if_neg hy0] at h
      exact h.symm
    clear hz
    go_wp2
    refine retM (v := .tuple #[.slice none 0 0, .int .i64 y]) (by simp [results, Try.results7, go_sem]) rfl ⟨by rw [HR.out], B2.out⟩
end Go.Proofs

namespace Go.Proofs.Hd
open Go.RowKit Go.Proofs
/-- Ahead of a setting a bit that is set is open, every other is as it was. -/
theorem bef_sign {c : Cb} (d : Cb) (hc : c.snd = true) {j : Nat} (hj : j < 128) : (d.K j = true → sgn (Cb.bef c d) j = 120) ∧ (d.K j = false → sgn (Cb.bef c d) j = sgn c j) := by
  have h1 := (Cb.snd_iff c).1 hc j hj
  unfold sgn
  rw [bef_V c d j hj, bef_K c d j hj]
  revert h1
  generalize c.K j = k1
  generalize d.K j = k2
  generalize c.V j = v1
  cases k1 <;> cases k2 <;> cases v1 <;> simp
/-- The first k signs are those ahead of the setting, the others those of the cube. -/
def mixB (c d : Cb) (k : Nat) : Nat → UInt8 := fun i => if i < k then sgn (Cb.bef c d) (127 - i) else sgn c (127 - i)
theorem mixB_zero (c d : Cb) (i : Nat) : mixB c d 0 i = sgn c (127 - i) := by simp [mixB]
theorem mixB_cur (c d : Cb) (k : Nat) : mixB c d k k = sgn c (127 - k) := by simp [mixB]
theorem mixB_far (c d : Cb) (k : Nat) : ∀ i, i < 128 → i ≠ k → mixB c d (k + 1) i = mixB c d k i := fun i _ h => by
  unfold mixB
  by_cases e : i < k
  · rw [if_pos e, if_pos (by omega)]
  · rw [if_neg e, if_neg (by omega)]
theorem mixB_at (c d : Cb) (k : Nat) : mixB c d (k + 1) k = sgn (Cb.bef c d) (127 - k) := by unfold mixB; rw [if_pos (by omega)]
theorem mixB_set {c : Cb} (d : Cb) (hc : c.snd = true) (k m : Nat) (hm : m + k = 127) (h : d.K m = true) : mixB c d (k + 1) k = 120 := by
  rw [mixB_at, show 127 - k = m by omega, (bef_sign d hc (by omega)).1 h]
theorem mixB_same {c : Cb} (d : Cb) (hc : c.snd = true) (k m : Nat) (hm : m + k = 127) (h : d.K m = false) : ∀ i, i < 128 → mixB c d (k + 1) i = mixB c d k i := fun i hi => by
  by_cases e : i = k
  · subst e
    rw [mixB_at, mixB_cur, show 127 - i = m by omega, (bef_sign d hc (by omega)).2 h]
  · exact mixB_far c d k i hi e
theorem mixB_all (c d : Cb) (i : Nat) (hi : i < 128) : mixB c d 128 i = sgn (Cb.bef c d) (127 - i) := by unfold mixB; rw [if_pos hi]
/-- What the signs say of agreement, as far as they were looked at: once all were, the cubes agree. -/
theorem agr_all {c d : Cb} (h : ∀ j, j < 128 → 128 ≤ j + 128 → c.K j = true → d.K j = true → c.V j = d.V j) : c.agr d = true := (Cb.agr_iff c d).2 fun j hj => h j hj (by omega)

/-! ### how many signs are not x -/
/-- The bits that a cube cares for. -/
def keyC (c : Cb) : Nat := ones c.ch + ones c.cl
theorem keyC_cnt (c : Cb) : keyC c = cnt c.K 128 := (cnt_128 c.ch c.cl).symm
theorem keyC_lt (c : Cb) : keyC c < 129 := by
  rw [keyC_cnt]
  have := cnt_le c.K 128
  omega
/-- Of the first k signs. -/
def topC (c : Cb) (k : Nat) : Nat := cnt (fun i => c.K (127 - i)) k
theorem topC_step (c : Cb) (k m : Nat) (hm : m + k = 127) : topC c (k + 1) = topC c k + (c.K m).toNat := by
  unfold topC
  rw [cnt, show 127 - k = m by omega]
theorem cnt_head (p : Nat → Bool) (n : Nat) : cnt p (n + 1) = (p 0).toNat + cnt (fun i => p (i + 1)) n := by
  induction n with
  | zero => simp [cnt]
  | succ n ih => rw [cnt, ih, cnt, Nat.add_assoc]
theorem cnt_rev (p : Nat → Bool) : ∀ n, cnt (fun i => p (n - 1 - i)) n = cnt p n
  | 0 => rfl
  | n + 1 => by
    rw [cnt_head]
    have e : cnt (fun i => p (n + 1 - 1 - (i + 1))) n = cnt (fun i => p (n - 1 - i)) n := cnt_congr n fun i _ => by rw [show n + 1 - 1 - (i + 1) = n - 1 - i by omega]
    rw [e, cnt_rev p n, cnt, Nat.add_comm]
    rfl
theorem topC_all (c : Cb) : topC c 128 = keyC c := by
  rw [keyC_cnt]
  exact cnt_rev c.K 128
theorem sgn_x {c : Cb} {j : Nat} : sgn c j = 120 ↔ c.K j = false := by
  unfold sgn
  cases c.K j <;> cases c.V j <;> simp
end Go.Proofs.Hd

namespace Go.Proofs.Hd
open Go.Sort
variable {α : Type}
/-- The order of a stable sort: by lt, and by tags where neither is less. -/
def tlB (lt : α → α → Bool) (tg : α → Nat) (x y : α) : Bool := lt x y || (!lt y x && decide (tg x < tg y))
variable {lt : α → α → Bool} {tg : α → Nat}
theorem tlB_false {x y : α} : tlB lt tg x y = false ↔ lt x y = false ∧ (lt y x = true ∨ tg y ≤ tg x) := by
  unfold tlB
  cases lt x y <;> cases lt y x <;> simp
theorem tlB_true {x y : α} : tlB lt tg x y = true ↔ lt x y = true ∨ (lt y x = false ∧ tg x < tg y) := by
  unfold tlB
  cases lt x y <;> cases lt y x <;> simp
theorem swo_tlB (h : SWO lt) (tg : α → Nat) : SWO (tlB lt tg) where
  irrefl x := by rw [tlB_false]; exact ⟨h.irrefl x, .inr (Nat.le_refl _)⟩
  trans x y z h1 h2 := by
    rw [tlB_true] at *
    rcases h1 with h1 | ⟨h1, t1⟩ <;> rcases h2 with h2 | ⟨h2, t2⟩
    · exact .inl (h.trans _ _ _ h1 h2)
    · left
      cases e : lt x z with
      | true => rfl
      | false => rw [h.ntrans _ _ _ e h2] at h1; cases h1
    · left
      cases e : lt x z with
      | true => rfl
      | false => rw [h.ntrans _ _ _ h1 e] at h2; cases h2
    · exact .inr ⟨h.ntrans _ _ _ h2 h1, Nat.lt_trans t1 t2⟩
  ntrans x y z h1 h2 := by
    rw [tlB_false] at *
    obtain ⟨h1, t1⟩ := h1
    obtain ⟨h2, t2⟩ := h2
    refine ⟨h.ntrans _ _ _ h1 h2, ?_⟩
    cases e : lt z x with
    | true => exact .inl rfl
    | false =>
      right
      rcases t1 with t1 | t1
      · rw [h.ntrans _ _ _ h2 e] at t1; cases t1
      · rcases t2 with t2 | t2
        · rw [h.ntrans _ _ _ e h1] at t2; cases t2
        · omega
/-- What bears the lesser tag stands first unless the other is less. -/
theorem tlB_lr {x y : α} (ht : tg x < tg y) (h : lt y x = false) : tlB lt tg y x = false := tlB_false.2 ⟨h, .inr (by omega)⟩
theorem tlB_rl (hS : SWO lt) {x y : α} (h : lt y x = true) : tlB lt tg x y = false := tlB_false.2 ⟨hS.asymmA h, .inl h⟩
theorem lt_of_tlB {x y : α} (h : tlB lt tg x y = false) : lt x y = false := (tlB_false.1 h).1
/-- What is less than x, and y is no less than .. -/
theorem lt_trans_n (hS : SWO lt) {x y z : α} (h1 : lt x y = true) (h2 : lt z y = false) : lt x z = true := by
  cases e : lt x z with
  | true => rfl
  | false => rw [hS.ntrans _ _ _ e h2] at h1; cases h1
theorem lt_ntrans (hS : SWO lt) {x y z : α} (h1 : lt y x = false) (h2 : lt y z = true) : lt x z = true := by
  cases e : lt x z with
  | true => rfl
  | false => rw [hS.ntrans _ _ _ h1 e] at h2; cases h2

/-! ### rotations, as functions of places -/
def rotF (f : Nat → α) (a m b x : Nat) : α := if a ≤ x ∧ x < a + (b - m) then f (x + (m - a)) else if a + (b - m) ≤ x ∧ x < b then f (x - (b - m)) else f x
def swpR (f : Nat → α) (a b n x : Nat) : α := if a ≤ x ∧ x < a + n then f (x + (b - a)) else if b ≤ x ∧ x < b + n then f (x - (b - a)) else f x
theorem rot_more (f : Nat → α) (m i j x : Nat) (hij : j < i) (him : i ≤ m) : rotF (swpR f (m - i) m j) (m - (i - j)) m (m + j) x = rotF f (m - i) m (m + j) x := by
  unfold rotF swpR
  repeat' split
  all_goals first | rfl | (exfalso; omega) | (congr 1; omega)
theorem rot_less (f : Nat → α) (m i j x : Nat) (hij : i < j) (him : i ≤ m) : rotF (swpR f (m - i) (m + j - i) i) (m - i) m (m + (j - i)) x = rotF f (m - i) m (m + j) x := by
  unfold rotF swpR
  repeat' split
  all_goals first | rfl | (exfalso; omega) | (congr 1; omega)
theorem rot_same (f : Nat → α) (m i x : Nat) (him : i ≤ m) : swpR f (m - i) m i x = rotF f (m - i) m (m + i) x := by
  unfold rotF swpR
  repeat' split
  all_goals first | rfl | (exfalso; omega) | (congr 1; omega)
theorem rotF_congr {f g : Nat → α} (h : ∀ x, f x = g x) (a m b x : Nat) : rotF f a m b x = rotF g a m b x := by unfold rotF; simp only [h]
theorem rot_none1 (f : Nat → α) (a b x : Nat) : rotF f a a b x = f x := by
  unfold rotF
  repeat' split
  all_goals first | rfl | (exfalso; omega) | (congr 1; omega)
theorem rot_none2 (f : Nat → α) (a m x : Nat) : rotF f a m m x = f x := by
  unfold rotF
  repeat' split
  all_goals first | rfl | (exfalso; omega) | (congr 1; omega)

/-- Two sorted runs, the second one's tags above the first one's, parted at s and e: what stands left of both cuts goes ahead of all else. -/
theorem cross (hS : SWO lt) (f : Nat → α) (a m b s e : Nat) (h1 : a ≤ s) (h2 : s ≤ m) (h3 : m ≤ e) (h4 : e ≤ b)
    (hl : ∀ i j, a ≤ i → i < j → j < m → tlB lt tg (f j) (f i) = false) (hr : ∀ i j, m ≤ i → i < j → j < b → tlB lt tg (f j) (f i) = false)
    (ht : ∀ i j, a ≤ i → i < m → m ≤ j → j < b → tg (f i) < tg (f j))
    (c1 : s < m → m < e → lt (f (e - 1)) (f s) = true) (c2 : a < s → e < b → lt (f e) (f (s - 1)) = false) :
    ∀ i j, a ≤ i → i < s + (e - m) → s + (e - m) ≤ j → j < b → tlB lt tg (rotF f s m e j) (rotF f s m e i) = false := by
  intro i j hi hi2 hj hj2
  have hT := swo_tlB hS tg
  have L : ∀ x y, a ≤ x → x ≤ y → y < m → tlB lt tg (f y) (f x) = false := fun x y q1 q2 q3 => by
    rcases Nat.lt_or_ge x y with h | h
    · exact hl x y q1 h q3
    · rw [show x = y by omega]; exact hT.irrefl _
  have R : ∀ x y, m ≤ x → x ≤ y → y < b → tlB lt tg (f y) (f x) = false := fun x y q1 q2 q3 => by
    rcases Nat.lt_or_ge x y with h | h
    · exact hr x y q1 h q3
    · rw [show x = y by omega]; exact hT.irrefl _
  -- right of the cuts
  have J : (∃ y, s ≤ y ∧ y < m ∧ rotF f s m e j = f y) ∨ (∃ y, e ≤ y ∧ y < b ∧ rotF f s m e j = f y) := by
    unfold rotF
    rw [if_neg (by omega)]
    by_cases he : j < e
    · rw [if_pos ⟨hj, he⟩]; exact .inl ⟨_, by omega, by omega, rfl⟩
    · rw [if_neg (by omega)]; exact .inr ⟨_, by omega, hj2, rfl⟩
  have I : (∃ x, a ≤ x ∧ x < s ∧ rotF f s m e i = f x) ∨ (∃ x, m ≤ x ∧ x < e ∧ rotF f s m e i = f x) := by
    unfold rotF
    by_cases hs : i < s
    · rw [if_neg (by omega), if_neg (by omega)]; exact .inl ⟨_, hi, hs, rfl⟩
    · rw [if_pos ⟨by omega, hi2⟩]; exact .inr ⟨_, by omega, by omega, rfl⟩
  rcases I with ⟨x, x1, x2, ex⟩ | ⟨x, x1, x2, ex⟩ <;> rcases J with ⟨y, y1, y2, ey⟩ | ⟨y, y1, y2, ey⟩ <;> rw [ex, ey]
  · exact L x y x1 (by omega) y2
  · refine tlB_lr (ht x y x1 (by omega) (by omega) y2) ?_
    have q1 := lt_of_tlB (R e y (by omega) y1 y2)
    have q2 := c2 (by omega) (by omega)
    have q3 := lt_of_tlB (L x (s - 1) x1 (by omega) (by omega))
    exact hS.ntrans _ _ _ (hS.ntrans _ _ _ q1 q2) q3
  · refine tlB_rl hS ?_
    have q1 := lt_of_tlB (R x (e - 1) x1 (by omega) (by omega))
    have q2 := c1 (by omega) (by omega)
    have q3 := lt_of_tlB (L s y h1 y1 y2)
    exact lt_ntrans hS q1 (lt_trans_n hS q2 q3)
  · exact R x y x1 (by omega) y2
/-- .. and the two sides are two sorted runs each. -/
theorem sides (f : Nat → α) (a m b s e : Nat) (h1 : a ≤ s) (h2 : s ≤ m) (h3 : m ≤ e) (h4 : e ≤ b)
    (hl : ∀ i j, a ≤ i → i < j → j < m → tlB lt tg (f j) (f i) = false) (hr : ∀ i j, m ≤ i → i < j → j < b → tlB lt tg (f j) (f i) = false)
    (ht : ∀ i j, a ≤ i → i < m → m ≤ j → j < b → tg (f i) < tg (f j)) :
    ((∀ i j, a ≤ i → i < j → j < s → tlB lt tg (rotF f s m e j) (rotF f s m e i) = false) ∧ (∀ i j, s ≤ i → i < j → j < s + (e - m) → tlB lt tg (rotF f s m e j) (rotF f s m e i) = false) ∧
      (∀ i j, a ≤ i → i < s → s ≤ j → j < s + (e - m) → tg (rotF f s m e i) < tg (rotF f s m e j))) ∧
    ((∀ i j, s + (e - m) ≤ i → i < j → j < e → tlB lt tg (rotF f s m e j) (rotF f s m e i) = false) ∧ (∀ i j, e ≤ i → i < j → j < b → tlB lt tg (rotF f s m e j) (rotF f s m e i) = false) ∧
      (∀ i j, s + (e - m) ≤ i → i < e → e ≤ j → j < b → tg (rotF f s m e i) < tg (rotF f s m e j))) := by
  have A : ∀ x, x < s → rotF f s m e x = f x := fun x hx => by unfold rotF; rw [if_neg (by omega), if_neg (by omega)]
  have B : ∀ x, s ≤ x → x < s + (e - m) → rotF f s m e x = f (x + (m - s)) := fun x q1 q2 => by unfold rotF; rw [if_pos ⟨q1, q2⟩]
  have C : ∀ x, s + (e - m) ≤ x → x < e → rotF f s m e x = f (x - (e - m)) := fun x q1 q2 => by unfold rotF; rw [if_neg (by omega), if_pos ⟨q1, q2⟩]
  have D : ∀ x, e ≤ x → rotF f s m e x = f x := fun x hx => by unfold rotF; rw [if_neg (by omega), if_neg (by omega)]
  refine ⟨⟨fun i j q1 q2 q3 => ?_, fun i j q1 q2 q3 => ?_, fun i j q1 q2 q3 q4 => ?_⟩, ⟨fun i j q1 q2 q3 => ?_, fun i j q1 q2 q3 => ?_, fun i j q1 q2 q3 q4 => ?_⟩⟩
  · rw [A i (by omega), A j q3]; exact hl i j q1 q2 (by omega)
  · rw [B i q1 (by omega), B j (by omega) q3]; exact hr _ _ (by omega) (by omega) (by omega)
  · rw [A i q2, B j q3 q4]; exact ht _ _ (by omega) (by omega) (by omega) (by omega)
  · rw [C i q1 (by omega), C j (by omega) q3]; exact hl _ _ (by omega) (by omega) (by omega)
  · rw [D i q1, D j (by omega)]; exact hr _ _ (by omega) q2 q3
  · rw [C i q1 q2, D j q3]; exact ht _ _ (by omega) (by omega) (by omega) (by omega)

/-! ### rows -/
variable [Inhabited α]
theorem glue {a mid b : Nat} {d1 d2 d3 : Array α} (h1 : a ≤ mid) (h2 : mid ≤ b) (hb : b ≤ d1.size) (P1 : PermIn a mid d1 d2) (P2 : PermIn mid b d2 d3) (S1 : SortedIn (tlB lt tg) a mid d2) (S2 : SortedIn (tlB lt tg) mid b d3)
    (X : ∀ i j, a ≤ i → i < mid → mid ≤ j → j < b → tlB lt tg d1[j]! d1[i]! = false) : SortedIn (tlB lt tg) a b d3 ∧ PermIn a b d1 d3 := by
  refine ⟨fun i j q1 q2 q3 => ?_, permIn_trans _ _ _ _ _ (permIn_mono _ _ _ _ _ _ (Nat.le_refl _) h2 hb P1) (permIn_mono _ _ _ _ _ _ h1 (Nat.le_refl _) (by rw [P1.1]; exact hb) P2)⟩
  by_cases hj : j < mid
  · rw [P2.2.1 j (.inl hj), P2.2.1 i (.inl (by omega))]; exact S1 i j q1 q2 hj
  · by_cases hi : mid ≤ i
    · exact S2 i j hi q2 q3
    · have K1 : ∀ i, a ≤ i → i < mid → (∀ j, mid ≤ j → j < b → tlB lt tg d1[j]! d2[i]! = false) := permIn_all d1 d2 a mid (fun x => ∀ j, mid ≤ j → j < b → tlB lt tg d1[j]! x = false) (by omega) P1 (fun i q1 q2 j q3 q4 => X i j q1 q2 q3 q4)
      have K2 := permIn_all d2 d3 mid b (fun x => tlB lt tg x d2[i]! = false) (by rw [P1.1]; exact hb) P2 (fun j q3 q4 => by rw [P1.2.1 j (.inr q3)]; exact K1 i q1 (by omega) j q3 q4)
      rw [P2.2.1 i (.inl (by omega))]
      exact K2 j (by omega) q3
theorem sorted_two {a mid b : Nat} {d : Array α} (S1 : SortedIn (tlB lt tg) a mid d) (S2 : SortedIn (tlB lt tg) mid b d) (X : ∀ i j, a ≤ i → i < mid → mid ≤ j → j < b → tlB lt tg d[j]! d[i]! = false) : SortedIn (tlB lt tg) a b d := by
  intro i j q1 q2 q3
  by_cases hj : j < mid
  · exact S1 i j q1 q2 hj
  · by_cases hi : mid ≤ i
    · exact S2 i j hi q2 q3
    · exact X i j q1 (by omega) (by omega) q3
/-- What a merge of [a, m) and [m, b) is told. -/
structure Runs (lt : α → α → Bool) (tg : α → Nat) (a m b : Nat) (d : Array α) : Prop where
  l : SortedIn (tlB lt tg) a m d
  r : SortedIn (tlB lt tg) m b d
  t : ∀ i j, a ≤ i → i < m → m ≤ j → j < b → tg d[i]! < tg d[j]!
/-- Behind the rotation. -/
theorem Runs.rot {a m b s e : Nat} {d d' : Array α} (hS : SWO lt) (h : Runs lt tg a m b d) (h1 : a ≤ s) (h2 : s ≤ m) (h3 : m ≤ e) (h4 : e ≤ b) (hd : ∀ x, d'[x]! = rotF (fun x => d[x]!) s m e x)
    (c1 : s < m → m < e → lt d[e - 1]! d[s]! = true) (c2 : a < s → e < b → lt d[e]! d[s - 1]! = false) :
    Runs lt tg a s (s + (e - m)) d' ∧ Runs lt tg (s + (e - m)) e b d' ∧ ∀ i j, a ≤ i → i < s + (e - m) → s + (e - m) ≤ j → j < b → tlB lt tg d'[j]! d'[i]! = false := by
  have X := cross hS (fun x => d[x]!) a m b s e h1 h2 h3 h4 h.l h.r h.t c1 c2
  have S := sides (lt := lt) (tg := tg) (fun x => d[x]!) a m b s e h1 h2 h3 h4 h.l h.r h.t
  obtain ⟨⟨s1, s2, s3⟩, s4, s5, s6⟩ := S
  refine ⟨⟨fun i j q1 q2 q3 => ?_, fun i j q1 q2 q3 => ?_, fun i j q1 q2 q3 q4 => ?_⟩, ⟨fun i j q1 q2 q3 => ?_, fun i j q1 q2 q3 => ?_, fun i j q1 q2 q3 q4 => ?_⟩, fun i j q1 q2 q3 q4 => ?_⟩ <;> rw [hd, hd]
  · exact s1 i j q1 q2 q3
  · exact s2 i j q1 q2 q3
  · exact s3 i j q1 q2 q3 q4
  · exact s4 i j q1 q2 q3
  · exact s5 i j q1 q2 q3
  · exact s6 i j q1 q2 q3 q4
  · exact X i j q1 q2 q3 q4
/-- A run of one element goes into the run behind it. -/
theorem Runs.one_left {a b e : Nat} {d d' : Array α} (hS : SWO lt) (h : Runs lt tg a (a + 1) b d) (h3 : a + 1 ≤ e) (h4 : e ≤ b) (hd : ∀ x, d'[x]! = rotF (fun x => d[x]!) a (a + 1) e x)
    (c1 : a + 1 < e → lt d[e - 1]! d[a]! = true) (c2 : e < b → lt d[e]! d[a]! = false) : SortedIn (tlB lt tg) a b d' := by
  obtain ⟨r1, r2, X⟩ := h.rot hS (Nat.le_refl a) (by omega) h3 h4 hd (fun _ => c1) (fun q => by omega)
  refine sorted_two r1.r (sorted_two r2.l r2.r fun i j q1 q2 q3 q4 => ?_) X
  have ei : d'[i]! = d[a]! := by rw [hd]; unfold rotF; rw [if_neg (by omega), if_pos ⟨q1, q2⟩]; simp only; congr 1; omega
  have ej : d'[j]! = d[j]! := by rw [hd]; unfold rotF; rw [if_neg (by omega), if_neg (by omega)]
  rw [ei, ej]
  refine tlB_lr (h.t a j (Nat.le_refl _) (by omega) (by omega) q4) ?_
  have c := c2 (by omega)
  rcases Nat.lt_or_ge e j with he | he
  · exact hS.ntrans _ _ _ (lt_of_tlB (h.r e j (by omega) he q4)) c
  · rw [show j = e by omega]; exact c
/-- A run of one element goes into the run ahead of it. -/
theorem Runs.one_right {a m s : Nat} {d d' : Array α} (hS : SWO lt) (h : Runs lt tg a m (m + 1) d) (h1 : a ≤ s) (h2 : s ≤ m) (hd : ∀ x, d'[x]! = rotF (fun x => d[x]!) s m (m + 1) x)
    (c1 : s < m → lt d[m]! d[s]! = true) (c2 : a < s → lt d[m]! d[s - 1]! = false) : SortedIn (tlB lt tg) a (m + 1) d' := by
  obtain ⟨r1, r2, X⟩ := h.rot hS h1 h2 (Nat.le_succ m) (Nat.le_refl _) hd (fun q _ => c1 q) (fun _ q => by omega)
  refine sorted_two (sorted_two r1.l r1.r fun i j q1 q2 q3 q4 => ?_) r2.l X
  have ej : d'[j]! = d[m]! := by rw [hd]; unfold rotF; rw [if_pos ⟨q3, q4⟩]; simp only; congr 1; omega
  have ei : d'[i]! = d[i]! := by rw [hd]; unfold rotF; rw [if_neg (by omega), if_neg (by omega)]
  rw [ei, ej]
  refine tlB_lr (h.t i m q1 (by omega) (Nat.le_refl _) (by omega)) ?_
  have c := c2 (by omega)
  rcases Nat.lt_or_ge i (s - 1) with he | he
  · exact hS.ntrans _ _ _ c (lt_of_tlB (h.l i (s - 1) q1 he (by omega)))
  · rw [show i = s - 1 by omega]; exact c

/-! ### insertion -/
theorem insInner_perm (lt : α → α → Bool) (a b : Nat) : ∀ (j : Nat) (d : Array α), a ≤ j → j < b → b ≤ d.size → PermIn a b d (insInner lt a j d)
  | 0, d, _, _, _ => by unfold insInner; exact permIn_refl _ _ _
  | j + 1, d, h1, h2, h3 => by
    unfold insInner
    split
    · rename_i hc
      simp only [Bool.and_eq_true, decide_eq_true_eq] at hc
      exact permIn_trans _ _ _ _ _ (swp_permIn d a b (j + 1) j h1 h2 (by omega) (by omega) h3) (insInner_perm lt a b j _ (by omega) (by omega) (by rw [swp_size]; exact h3))
    · exact permIn_refl _ _ _
theorem insInner_tag (lt : α → α → Bool) (tg : α → Nat) (a : Nat) : ∀ (j : Nat) (d : Array α), j < d.size → (∀ y, a ≤ y → y < j → tg d[y]! < tg d[j]!) → insInner lt a j d = insInner (tlB lt tg) a j d
  | 0, d, _, _ => by unfold insInner; rfl
  | j + 1, d, hs, h => by
    unfold insInner
    by_cases ha : j + 1 > a
    · have e : tlB lt tg d[j + 1]! d[j]! = lt d[j + 1]! d[j]! := by
        have := h j (by omega) (by omega)
        unfold tlB
        rw [show decide (tg d[j + 1]! < tg d[j]!) = false by simp; omega]
        simp
      rw [e]
      split
      · refine insInner_tag lt tg a j _ (by rw [swp_size]; omega) fun y q1 q2 => ?_
        rw [swp_get d hs (by omega), swp_get d hs (by omega), if_neg (by omega), if_neg (by omega), if_pos rfl]
        exact h y q1 (by omega)
      · rfl
    · rw [show decide (j + 1 > a) = false by simp; omega]; simp
theorem insOuter_tag (lt : α → α → Bool) (tg : α → Nat) (a b : Nat) : ∀ (n i : Nat) (d : Array α), b - i = n → a < i → b ≤ d.size → (∀ q, i ≤ q → q < b → ∀ y, a ≤ y → y < q → tg d[y]! < tg d[q]!) → insOuter lt a b i d = insOuter (tlB lt tg) a b i d
  | 0, i, d, hn, _, _, _ => by rw [insOuter, if_neg (by omega), insOuter, if_neg (by omega)]
  | n + 1, i, d, hn, hi, hb, h => by
    have e1 : ∀ l : α → α → Bool, insOuter l a b i d = insOuter l a b (i + 1) (insInner l a i d) := fun l => by rw [insOuter, if_pos (by omega)]
    rw [e1 lt, e1 (tlB lt tg), ← insInner_tag lt tg a i d (by omega) (fun y q1 q2 => h i (Nat.le_refl _) (by omega) y q1 q2)]
    have P := insInner_perm lt a (i + 1) i d (by omega) (by omega) (by omega)
    refine insOuter_tag lt tg a b n (i + 1) _ (by omega) (by omega) (by rw [P.1]; exact hb) fun q q1 q2 y y1 y2 => ?_
    rw [P.2.1 q (.inr q1)]
    by_cases hy : y < i + 1
    · exact permIn_all d _ a (i + 1) (fun x => tg x < tg d[q]!) (by omega) P (fun z z1 z2 => h q (by omega) q2 z z1 (by omega)) y y1 hy
    · rw [P.2.1 y (.inr (by omega))]; exact h q (by omega) q2 y y1 y2
theorem insertion_stable (hS : SWO lt) (d : Array α) (a b : Nat) (hab : a ≤ b) (hb : b ≤ d.size) (h : ∀ i j, a ≤ i → i < j → j < b → tg d[i]! < tg d[j]!) :
    PermIn a b d (insertionSort lt d a b) ∧ SortedIn (tlB lt tg) a b (insertionSort lt d a b) := by
  have e : insertionSort lt d a b = insertionSort (tlB lt tg) d a b := by
    unfold insertionSort
    exact insOuter_tag lt tg a b _ (a + 1) d rfl (by omega) hb fun q q1 q2 y y1 y2 => h y q y1 y2 q2
  rw [e]
  exact insertionSort_holds (swo_tlB hS tg) d a b hab hb

/-! ### blocks -/
theorem dvd_lt {s c a : Nat} (h1 : s ∣ c) (h2 : s ∣ a) (h : c < a) : c + s ≤ a := by
  obtain ⟨u, rfl⟩ := h1
  obtain ⟨v, rfl⟩ := h2
  have : u < v := Nat.lt_of_mul_lt_mul_left h
  calc s * u + s = s * (u + 1) := by rw [Nat.mul_add, Nat.mul_one]
    _ ≤ s * v := Nat.mul_le_mul_left _ this
/-- From lo to hi, in blocks of s from multiples of s on: each is sorted, and its tags are its own places. -/
def Bl (lt : α → α → Bool) (tg : α → Nat) (s lo hi : Nat) (d : Array α) : Prop :=
  ∀ c, s ∣ c → lo ≤ c → c < hi → (∀ i, c ≤ i → i < c + s → i < hi → c ≤ tg d[i]! ∧ tg d[i]! < c + s) ∧ SortedIn (tlB lt tg) c (min (c + s) hi) d
theorem Bl.none (lt : α → α → Bool) (tg : α → Nat) (s a : Nat) (d : Array α) : Bl lt tg s a a d := fun c _ h1 h2 => by omega
theorem Bl.snoc {s a b : Nat} {d d' : Array α} (h : Bl lt tg s 0 a d) (hs : s ∣ a) (hab : a < b) (hbs : b ≤ a + s) (hb : b ≤ d.size) (P : PermIn a b d d') (S : SortedIn (tlB lt tg) a b d') (T : ∀ i, a ≤ i → i < b → a ≤ tg d[i]! ∧ tg d[i]! < a + s) : Bl lt tg s 0 b d' := by
  intro c h1 _ h3
  rcases Nat.lt_or_ge c a with hc | hc
  · have hca := dvd_lt h1 hs hc
    obtain ⟨q1, q2⟩ := h c h1 (Nat.zero_le _) hc
    rw [show min (c + s) a = c + s by omega] at q2
    rw [show min (c + s) b = c + s by omega]
    exact ⟨fun i z1 z2 z3 => by rw [P.2.1 i (.inl (by omega))]; exact q1 i z1 z2 (by omega), fun i j z1 z2 z3 => by rw [P.2.1 i (.inl (by omega)), P.2.1 j (.inl (by omega))]; exact q2 i j z1 z2 z3⟩
  · have hca : c = a := by
      rcases Nat.lt_or_ge a c with h | h
      · have := dvd_lt hs h1 h; omega
      · omega
    subst hca
    rw [show min (c + s) b = b by omega]
    exact ⟨fun i z1 z2 z3 => permIn_all d d' c b (fun x => c ≤ tg x ∧ tg x < c + s) hb P T i z1 z3, S⟩
theorem Bl.rest {s a b n : Nat} {d d' : Array α} (h : Bl lt tg s a n d) (hab : a ≤ b) (P : PermIn a b d d') : Bl lt tg s b n d' := by
  intro c h1 h2 h3
  obtain ⟨q1, q2⟩ := h c h1 (by omega) h3
  exact ⟨fun i z1 z2 z3 => by rw [P.2.1 i (.inr (by omega))]; exact q1 i z1 z2 z3, fun i j z1 z2 z3 => by rw [P.2.1 i (.inr (by omega)), P.2.1 j (.inr (by omega))]; exact q2 i j z1 z2 z3⟩
/-- Two blocks side by side are two runs. -/
theorem Bl.two {s a b n : Nat} {d : Array α} (h : Bl lt tg s a n d) (hs : s ∣ a) (h1 : a + s < b) (h2 : b ≤ a + 2 * s) (h3 : b ≤ n) : Runs lt tg a (a + s) b d ∧ ∀ i, a ≤ i → i < b → a ≤ tg d[i]! ∧ tg d[i]! < a + 2 * s := by
  obtain ⟨p1, p2⟩ := h a hs (Nat.le_refl _) (by omega)
  obtain ⟨q1, q2⟩ := h (a + s) ((Nat.dvd_add_right hs).2 (Nat.dvd_refl s)) (by omega) (by omega)
  rw [show min (a + s) n = a + s by omega] at p2
  refine ⟨⟨p2, fun i j z1 z2 z3 => q2 i j z1 z2 (by omega), fun i j z1 z2 z3 z4 => ?_⟩, fun i z1 z2 => ?_⟩
  · have := p1 i z1 z2 (by omega); have := q1 j z3 (by omega) (by omega); omega
  · rcases Nat.lt_or_ge i (a + s) with hi | hi
    · have := p1 i z1 hi (by omega); omega
    · have := q1 i hi (by omega) (by omega); omega
/-- One block and no more. -/
theorem Bl.last {s a n : Nat} {d : Array α} (h : Bl lt tg s a n d) (hs : s ∣ a) (h1 : a < n) (h2 : n ≤ a + s) : SortedIn (tlB lt tg) a n d ∧ ∀ i, a ≤ i → i < n → a ≤ tg d[i]! ∧ tg d[i]! < a + 2 * s := by
  obtain ⟨p1, p2⟩ := h a hs (Nat.le_refl _) h1
  rw [show min (a + s) n = n by omega] at p2
  exact ⟨p2, fun i z1 z2 => by have := p1 i z1 (by omega) z2; omega⟩
theorem Bl.all {s n : Nat} {d : Array α} (h : Bl lt tg s 0 n d) (hn : n ≤ s) : SortedIn (tlB lt tg) 0 n d := by
  rcases Nat.eq_zero_or_pos n with rfl | hp
  · intro i j _ _ h3; omega
  · have := (h 0 (Nat.dvd_zero s) (Nat.le_refl _) hp).2
    rwa [show min (0 + s) n = n by omega] at this
attribute [irreducible] tlB
end Go.Proofs.Hd

namespace Go.Proofs
open Go.Shelf Go.RowKit Go.Lib Go.Sort Go.Proofs.Hd
/-- How the library's numbers are called here. -/
def Try.stR : Go.Shelf.Ren := ⟨fun | 20 => 69 | n => n, fun | 22 => 32 | 24 => 43 | 25 => 83 | 3 => 3 | 0 => 0 | 4 => 4 | n => n, fun | n => n⟩
/-- A program bears the family's functions and types; an element is of k cells. -/
structure StL (P : Program) (k : Nat) : Prop where
  mixed : P.follows .mixedOrders = true
  fSwap : P.funcs[89]? = some Try.f89
  fRot : P.funcs[80]? = some Try.f80
  fSym : P.funcs[70]? = some Try.f70
  fStb : P.funcs[51]? = some Try.f51
  fTop : P.funcs[30]? = some Try.f30
  ins : SlLaysF0.n20 P Try.stR
  t0 : P.underlying 0 = some (TypeDesc.tuple #[])
  a0 : ∀ w, (isAgg 0).run P w = .ok false w
  z0 : ∀ w, (Go.sizeOf 0).run P w = .ok 1 w
  v0 : ∀ w, (zeroValue 0).run P w = .ok (Value.tuple #[]) w
  t3 : P.underlying 3 = some (TypeDesc.int IntKind.i64)
  a3 : ∀ w, (isAgg 3).run P w = .ok false w
  z3 : ∀ w, (Go.sizeOf 3).run P w = .ok 1 w
  v3 : ∀ w, (zeroValue 3).run P w = .ok (Value.int IntKind.i64 0) w
  t4 : P.underlying 4 = some TypeDesc.bool
  a4 : ∀ w, (isAgg 4).run P w = .ok false w
  z4 : ∀ w, (Go.sizeOf 4).run P w = .ok 1 w
  v4 : ∀ w, (zeroValue 4).run P w = .ok (Value.bool false) w
  tS : P.underlying 32 = some (TypeDesc.slice 43)
  aS : ∀ w, (isAgg 32).run P w = .ok false w
  zS : ∀ w, (Go.sizeOf 32).run P w = .ok 1 w
  vS : ∀ w, (zeroValue 32).run P w = .ok (Value.slice none 0 0) w
  tC : P.underlying 83 = some (TypeDesc.func #[43, 43] #[3] false)
  aC : ∀ w, (isAgg 83).run P w = .ok false w
  zC : ∀ w, (Go.sizeOf 83).run P w = .ok 1 w
  vC : ∀ w, (zeroValue 83).run P w = .ok Value.nilFunc w
  tU : P.underlying 117 = some (TypeDesc.int IntKind.u64)
  aU : ∀ w, (isAgg 117).run P w = .ok false w
  zU : ∀ w, (Go.sizeOf 117).run P w = .ok 1 w
  vU : ∀ w, (zeroValue 117).run P w = .ok (Value.int IntKind.u64 0) w
  aE : ∀ w, (isAgg 43).run P w = .ok true w
  zE : ∀ w, (Go.sizeOf 43).run P w = .ok k w
set_option maxRecDepth 100000 in
theorem Try.stL : StL Try.prog 4 := {
  mixed := by kernel_rfl
  fSwap := Try.func89
  fRot := Try.func80
  fSym := Try.func70
  fStb := Try.func51
  fTop := Try.func30
  ins := {
    mixed := by kernel_rfl
    f20 := ⟨Try.f69.name, by decide, Try.func69.trans (congrArg some (by kernel_rfl))⟩
    t0 := by kernel_rfl
    a0 := fun _ => rfl
    z0 := fun _ => rfl
    v0 := fun _ => rfl
    t3 := by kernel_rfl
    a3 := fun _ => rfl
    z3 := fun _ => rfl
    v3 := fun _ => rfl
    t4 := by kernel_rfl
    a4 := fun _ => rfl
    z4 := fun _ => rfl
    v4 := fun _ => rfl
    t22 := by kernel_rfl
    a22 := fun _ => rfl
    z22 := fun _ => rfl
    v22 := fun _ => rfl
    t25 := by kernel_rfl
    a25 := fun _ => rfl
    z25 := fun _ => rfl
    v25 := fun _ => rfl }
  t0 := by kernel_rfl
  a0 := fun _ => rfl
  z0 := fun _ => rfl
  v0 := fun _ => rfl
  t3 := by kernel_rfl
  a3 := fun _ => rfl
  z3 := fun _ => rfl
  v3 := fun _ => rfl
  t4 := by kernel_rfl
  a4 := fun _ => rfl
  z4 := fun _ => rfl
  v4 := fun _ => rfl
  tS := by kernel_rfl
  aS := fun _ => rfl
  zS := fun _ => rfl
  vS := fun _ => rfl
  tC := by kernel_rfl
  aC := fun _ => rfl
  zC := fun _ => rfl
  vC := fun _ => rfl
  tU := by kernel_rfl
  aU := fun _ => rfl
  zU := fun _ => rfl
  vU := fun _ => rfl
  aE := fun _ => rfl
  zE := fun _ => rfl }

variable {P : Program} {k : Nat} {α : Type} [Inhabited α]
theorem swpR_step {d dk : Array α} {a b n i : Nat} (hab : a + n ≤ b) (hb : b + n ≤ d.size) (hi : i < n) (hs : dk.size = d.size) (h : ∀ x, dk[x]! = swpR (fun x => d[x]!) a b i x) : ∀ x, (swp dk (a + i) (b + i))[x]! = swpR (fun x => d[x]!) a b (i + 1) x := by
  intro x
  rw [swp_get dk (by omega) (by omega), h, h, h]
  unfold swpR
  repeat' split
  all_goals first | rfl | (exfalso; omega) | (simp only; congr 1; omega)

set_option maxHeartbeats 4000000 in
set_option maxRecDepth 1000000 in
/-- slices.swapRangeCmpFunc: two ranges that do not overlap change places. -/
theorem swapRange_c (L : StL P k) (enc : α → List Value) (g : Nat) (cb : Array Value) (blk off cap N a b n : Nat) (d0 d : Array α) (w0 w : World)
    (R : RowK enc k w0 blk off d0) (h0 : d0.size = N) (hN : d.size = N) (S : SWK enc k w0 blk off d w) (hab : a + n ≤ b) (hb : b + n ≤ N) (hsz : N < 1152921504606846976) :
    Calls P 89 #[.slice (some ⟨blk, off, none⟩) N cap, .int .i64 a, .int .i64 b, .int .i64 n, .func (.func g) #[] cb] w fun e w' =>
      e = .returned (.tuple #[]) ∧ ∃ d', SWK enc k w0 blk off d' w' ∧ PermIn a (b + n) d d' ∧ ∀ x, d'[x]! = swpR (fun x => d[x]!) a b n x := by
  have mixed := L.mixed; have t0 := L.t0; have a0 := L.a0; have z0 := L.z0; have v0 := L.v0; have t3 := L.t3; have a3 := L.a3; have z3 := L.z3; have v3 := L.v3; have t4 := L.t4; have a4 := L.a4; have z4 := L.z4; have v4 := L.v4; have t22 := L.tS; have a22 := L.aS; have z22 := L.zS; have v22 := L.vS; have t25 := L.tC; have a25 := L.aC; have z25 := L.zC; have v25 := L.vC
  have aE := L.aE; have zE := L.zE
  have FG := L.fSwap
  have S0 : Aside (SWK enc k w0 blk off d w) := S
  have N0 : Hid (∀ x, d[x]! = swpR (fun x => d[x]!) a b 0 x) := fun x => by unfold swpR; rw [if_neg (by omega), if_neg (by omega)]
  have Q0 : Hid (PermIn a (b + n) d d) := permIn_refl _ _ _
  clear S L
  go_enter FG, Try.ntmps89
  go_wp2
  go_loopg [10] n (fun kx s10 wr => ∃ (i : Nat) (dk : Array α), s10 = .int .i64 i ∧ i ≤ n ∧ n - i ≤ kx ∧ dk.size = N ∧ Aside (SWK enc k w0 blk off dk wr) ∧ Hid (PermIn a (b + n) d dk) ∧ Hid (∀ x, dk[x]! = swpR (fun x => d[x]!) a b i x))
  case atStart => exact ⟨0, d, rfl, Nat.zero_le _, by omega, hN, S0, Q0, N0⟩
  case round =>
    clear S0 Q0 N0
    obtain ⟨i, dk, rfl, hin, hkx, hds, S1, Q1, N1⟩ := hrel
    by_cases hlt : i < n
    · have hltz : (i : Int) < (n : Int) := by omega
      go_wp2_with fail
      have ea44 : ((a : Int) + (i : Int)).toNat = a + i := by omega
      have pa44 : (0 : Int) ≤ (a : Int) + (i : Int) := by omega
      have ba44 : (a : Int) + (i : Int) < (N : Int) := by omega
      have ra44 : IntKind.i64.wrap ((a : Int) + (i : Int)) = (a : Int) + (i : Int) := by rw [IntKind.wrap_i64]; omega
      have ec44 : ((b : Int) + (i : Int)).toNat = b + i := by omega
      have pc44 : (0 : Int) ≤ (b : Int) + (i : Int) := by omega
      have bc44 : (b : Int) + (i : Int) < (N : Int) := by omega
      have rc44 : IntKind.i64.wrap ((b : Int) + (i : Int)) = (b : Int) + (i : Int) := by rw [IntKind.wrap_i64]; omega
      have S2 : Aside (SWK enc k w0 blk off (swp dk (a + i) (b + i)) ((wr.drew.setCells blk (off + (a + i) * k) (enc dk[b + i]!)).setCells blk (off + (b + i) * k) (enc dk[a + i]!))) := S1.out.swapped R (a + i) (b + i) (by omega) (by omega)
      have l44a := S1.out.ld1 R (by omega) P (a + i) (by omega)
      have l44b := S1.out.ld1 R (by omega) P (b + i) (by omega)
      have s44a := S1.out.st1 R (by omega) P (a + i) (by omega) dk[b + i]!
      have s44b := S1.out.st2 R (by omega) P (a + i) (b + i) (by omega) (by omega) dk[b + i]! dk[a + i]!
      have n44a : (enc dk[a + i]!).length = k := R.hk _
      have n44b : (enc dk[b + i]!).length = k := R.hk _
      generalize enc dk[a + i]! = cI44 at S2 l44a s44b n44a
      generalize enc dk[b + i]! = cJ44 at S2 l44b s44a s44b n44b
      clear S1
      go_wp2_with fail
      go_big_region_o
      clear l44a l44b s44a s44b
      generalize (wr.drew.setCells blk (off + (a + i) * k) cJ44).setCells blk (off + (b + i) * k) cI44 = w2 at S2 ⊢
      go_wp2
      go_roundg (n - (i + 1))
      case measure => omega
      case rel =>
        exact ⟨i + 1, swp dk (a + i) (b + i), by go_num, by omega, Nat.le_refl _, by rw [size_swp]; exact hds, S2,
          permIn_trans _ _ _ _ _ Q1.out (swp_permIn dk a (b + n) (a + i) (b + i) (by omega) (by omega) (by omega) (by omega) (by omega)), swpR_step hab (by omega) hlt (hds.trans hN.symm) N1.out⟩
    · have hltz : ¬ (i : Int) < (n : Int) := by omega
      obtain rfl : i = n := by omega
      go_wp2
      go_end0
      exact ⟨rfl, dk, S1.out, Q1.out, N1.out⟩
end Go.Proofs

namespace Go.Proofs
open Go.Shelf Go.RowKit Go.Lib Go.Sort Go.Proofs.Hd
variable {P : Program} {k : Nat} {α : Type} [Inhabited α]
set_option maxHeartbeats 4000000 in
set_option maxRecDepth 1000000 in
/-- slices.rotateCmpFunc: the two parts of a range change places. -/
theorem rotate_c (L : StL P k) (enc : α → List Value) (g : Nat) (cb : Array Value) (blk off cap N a m b : Nat) (d0 d : Array α) (w0 w : World)
    (R : RowK enc k w0 blk off d0) (h0 : d0.size = N) (hN : d.size = N) (S : SWK enc k w0 blk off d w) (ham : a < m) (hmb : m < b) (hb : b ≤ N) (hsz : N < 1152921504606846976) :
    Calls P 80 #[.slice (some ⟨blk, off, none⟩) N cap, .int .i64 a, .int .i64 m, .int .i64 b, .func (.func g) #[] cb] w fun e w' =>
      e = .returned (.tuple #[]) ∧ ∃ d', SWK enc k w0 blk off d' w' ∧ PermIn a b d d' ∧ ∀ x, d'[x]! = rotF (fun x => d[x]!) a m b x := by
  have mixed := L.mixed; have t0 := L.t0; have a0 := L.a0; have z0 := L.z0; have v0 := L.v0; have t3 := L.t3; have a3 := L.a3; have z3 := L.z3; have v3 := L.v3; have t4 := L.t4; have a4 := L.a4; have z4 := L.z4; have v4 := L.v4; have t22 := L.tS; have a22 := L.aS; have z22 := L.zS; have v22 := L.vS; have t25 := L.tC; have a25 := L.aC; have z25 := L.zC; have v25 := L.vC
  have FG := L.fRot
  have S0 : Aside (SWK enc k w0 blk off d w) := S
  obtain ⟨i0, hi0⟩ : ∃ i0, a + i0 = m := ⟨m - a, by omega⟩
  obtain ⟨j0, hj0⟩ : ∃ j0, m + j0 = b := ⟨b - m, by omega⟩
  have r1 : IntKind.i64.wrap ((m : Int) - (a : Int)) = (i0 : Int) := by rw [IntKind.wrap_i64]; omega
  have r2 : IntKind.i64.wrap ((b : Int) - (m : Int)) = (j0 : Int) := by rw [IntKind.wrap_i64]; omega
  have N0 : Hid (∀ x, rotF (fun x => d[x]!) (m - i0) m (m + j0) x = rotF (fun x => d[x]!) a m b x) := fun x => by rw [hj0, show m - i0 = a by omega]
  have Q0 : Hid (PermIn a b d d) := permIn_refl _ _ _
  have CALL : Aside (∀ (dk : Array α) (wr : World) (x y n : Nat), dk.size = N → SWK enc k w0 blk off dk wr → x + n ≤ y → y + n ≤ N → Calls P 89 #[.slice (some ⟨blk, off, none⟩) N cap, .int .i64 x, .int .i64 y, .int .i64 n, .func (.func g) #[] cb] wr fun e w' =>
      e = .returned (.tuple #[]) ∧ ∃ d', SWK enc k w0 blk off d' w' ∧ PermIn x (y + n) dk d' ∧ ∀ z, d'[z]! = swpR (fun z => dk[z]!) x y n z) :=
    fun dk wr x y n q1 q2 q3 q4 => swapRange_c L enc g cb blk off cap N x y n d0 dk w0 wr R h0 q1 q2 q3 q4 hsz
  have eg : ∀ args w, (callFunc 89 args).run P w = .ok (.enter 89 args) w := enters_of L.fSwap (by kernel_rfl) rfl
  clear S L
  go_enter FG, Try.ntmps80
  go_wp2
  go_loopg [10, 11] (i0 + j0) (fun kx s10 s11 wr => ∃ (i j : Nat) (dk : Array α), s10 = .int .i64 i ∧ s11 = .int .i64 j ∧ 0 < i ∧ 0 < j ∧ a + i ≤ m ∧ m + j ≤ b ∧ i + j ≤ kx ∧ dk.size = N ∧ Aside (SWK enc k w0 blk off dk wr) ∧ Hid (PermIn a b d dk) ∧
    Hid (∀ x, rotF (fun x => dk[x]!) (m - i) m (m + j) x = rotF (fun x => d[x]!) a m b x))
  case atStart => exact ⟨i0, j0, d, by go_num, by go_num, by omega, by omega, by omega, by omega, Nat.le_refl _, hN, S0, Q0, N0⟩
  case round =>
    clear S0 Q0 N0 r1 r2 hi0 hj0
    obtain ⟨i, j, dk, rfl, rfl, hi, hj, him, hjb, hkx, hds, S1, Q1, N1⟩ := hrel
    obtain ⟨x, hx⟩ : ∃ x, x + i = m := ⟨m - i, by omega⟩
    have r1 : IntKind.i64.wrap ((m : Int) - (i : Int)) = (x : Int) := by rw [IntKind.wrap_i64]; omega
    have r1' : (m : Int) - (i : Int) = (x : Int) := by omega
    rcases Nat.lt_trichotomy i j with hij | hij | hij
    · -- the second part is longer
      have c1 : ¬ (i : Int) = (j : Int) := by omega
      have c2 : ¬ (j : Int) < (i : Int) := by omega
      obtain ⟨y, hy⟩ : ∃ y, y + i = m + j := ⟨m + j - i, by omega⟩
      obtain ⟨j', hj'⟩ : ∃ j', j' + i = j := ⟨j - i, by omega⟩
      have r2 : IntKind.i64.wrap ((m : Int) + (j : Int) - (i : Int)) = (y : Int) := by rw [IntKind.wrap_i64]; omega
      have r2' : (m : Int) + (j : Int) - (i : Int) = (y : Int) := by omega
      have r3 : IntKind.i64.wrap ((j : Int) - (i : Int)) = (j' : Int) := by rw [IntKind.wrap_i64]; omega
      have r4 : IntKind.i64.wrap ((m : Int) + (j : Int)) = (m : Int) + (j : Int) := by rw [IntKind.wrap_i64]; omega
      have hcon := CALL.out dk wr x y i hds S1.out (by omega) (by omega)
      go_wp2_with (go_at_call 89; refine hcon.mono ?_; rintro e w' ⟨rfl, d', S2, Q2, N2⟩)
      go_roundg (i + j')
      case measure => omega
      case rel =>
        refine ⟨i, j', d', rfl, by first | rfl | go_num | (congr 1; omega), hi, by omega, him, by omega, Nat.le_refl _, by rw [Q2.1]; exact hds, S2, (show PermIn a b d d' from ?_), fun z => ?_⟩
        · exact permIn_trans _ _ _ _ _ Q1.out (permIn_mono _ _ _ _ _ _ (by omega) (by omega) (by omega) Q2)
        · rw [← N1.out z, rotF_congr N2]
          have := rot_less (fun z => dk[z]!) m i j z hij (by omega)
          rw [show m - i = x by omega, show m + j - i = y by omega, show j - i = j' by omega] at this
          rw [show m - i = x by omega]
          exact this
    · -- they are of one length
      subst hij
      have hcon := CALL.out dk wr x m i hds S1.out (by omega) (by omega)
      go_wp2_with (go_at_call 89; refine hcon.mono ?_; rintro e w' ⟨rfl, d', S2, Q2, N2⟩)
      go_end0
      refine ⟨rfl, d', S2, permIn_trans _ _ _ _ _ Q1.out (permIn_mono _ _ _ _ _ _ (by omega) (by omega) (by omega) Q2), fun z => ?_⟩
      rw [← N1.out z, N2 z]
      have := rot_same (fun z => dk[z]!) m i z (by omega)
      rw [show m - i = x by omega] at this ⊢
      exact this
    · -- the first part is longer
      have c1 : ¬ (i : Int) = (j : Int) := by omega
      have c2 : (j : Int) < (i : Int) := by omega
      obtain ⟨i', hi'⟩ : ∃ i', i' + j = i := ⟨i - j, by omega⟩
      have r3 : IntKind.i64.wrap ((i : Int) - (j : Int)) = (i' : Int) := by rw [IntKind.wrap_i64]; omega
      have hcon := CALL.out dk wr x m j hds S1.out (by omega) (by omega)
      go_wp2_with (go_at_call 89; refine hcon.mono ?_; rintro e w' ⟨rfl, d', S2, Q2, N2⟩)
      go_roundg (i' + j)
      case measure => omega
      case rel =>
        refine ⟨i', j, d', by first | rfl | go_num | (congr 1; omega), rfl, by omega, hj, by omega, hjb, Nat.le_refl _, by rw [Q2.1]; exact hds, S2, (show PermIn a b d d' from ?_), fun z => ?_⟩
        · exact permIn_trans _ _ _ _ _ Q1.out (permIn_mono _ _ _ _ _ _ (by omega) (by omega) (by omega) Q2)
        · rw [← N1.out z, rotF_congr N2]
          have := rot_more (fun z => dk[z]!) m i j z hij (by omega)
          rw [show m - i = x by omega, show i - j = i' by omega] at this
          rw [show m - i = x by omega]
          exact this
end Go.Proofs

namespace Go.Proofs.Hd
open Go.Sort
variable {α : Type} [Inhabited α]
theorem rot_up {d dk : Array α} {a x : Nat} (hx : a ≤ x) (hs : dk.size = d.size) (hb : x + 1 < d.size) (h : ∀ y, dk[y]! = rotF (fun y => d[y]!) a (a + 1) (x + 1) y) : ∀ y, (swp dk x (x + 1))[y]! = rotF (fun y => d[y]!) a (a + 1) (x + 1 + 1) y := by
  intro y
  rw [swp_get dk (by omega) (by omega), h, h, h]
  unfold rotF
  repeat' split
  all_goals first | rfl | (exfalso; omega) | (simp only; congr 1; omega)
theorem rot_down {d dk : Array α} {m x : Nat} (hx : x + 1 ≤ m) (hs : dk.size = d.size) (hb : m < d.size) (h : ∀ y, dk[y]! = rotF (fun y => d[y]!) (x + 1) m (m + 1) y) : ∀ y, (swp dk (x + 1) x)[y]! = rotF (fun y => d[y]!) x m (m + 1) y := by
  intro y
  rw [swp_get dk (by omega) (by omega), h, h, h]
  unfold rotF
  repeat' split
  all_goals first | rfl | (exfalso; omega) | (simp only; congr 1; omega)
end Go.Proofs.Hd
namespace Go.Proofs
open Go.Shelf Go.RowKit Go.Lib Go.Sort Go.Proofs.Hd
variable {P : Program} {k : Nat} {α : Type} [Inhabited α]
set_option maxHeartbeats 8000000 in
set_option maxRecDepth 1000000 in
theorem sym_left (L : StL P k) (enc : α → List Value) (cf : α → α → Int) (tg : α → Nat) (g : Nat) (cb : Array Value) (blk off cap N a m b : Nat) (d0 d : Array α) (w0 w : World)
    (eg : ∀ args w, (callFunc g args).run P w = .ok (.enter g args) w) (hcmp : CmpLays P g cb enc k cf blk off N w0) (hS : SWO (ltOf cf)) (R : RowK enc k w0 blk off d0) (h0 : d0.size = N) (hN : d.size = N) (S : SWK enc k w0 blk off d w)
    (U : Runs (ltOf cf) tg a m b d) (ham : a < m) (hmb : m < b) (hb : b ≤ N) (hsz : N < 1152921504606846976) (hone : m = a + 1) :
    Calls P 70 #[.slice (some ⟨blk, off, none⟩) N cap, .int .i64 a, .int .i64 m, .int .i64 b, .func (.func g) #[] cb] w fun e w' =>
      e = .returned (.tuple #[]) ∧ ∃ d', SWK enc k w0 blk off d' w' ∧ PermIn a b d d' ∧ SortedIn (tlB (ltOf cf) tg) a b d' := by
  have mixed := L.mixed; have t0 := L.t0; have a0 := L.a0; have z0 := L.z0; have v0 := L.v0; have t3 := L.t3; have a3 := L.a3; have z3 := L.z3; have v3 := L.v3; have t4 := L.t4; have a4 := L.a4; have z4 := L.z4; have v4 := L.v4; have t22 := L.tS; have a22 := L.aS; have z22 := L.zS; have v22 := L.vS; have t25 := L.tC; have a25 := L.aC; have z25 := L.zC; have v25 := L.vC; have tU := L.tU; have aU := L.aU; have zU := L.zU; have vU := L.vU
  have aE := L.aE; have zE := L.zE
  have FG := L.fSym
  have HC : Aside _ := hcmp
  have S0 : Aside (SWK enc k w0 blk off d w) := S
  have r0 : IntKind.i64.wrap ((m : Int) - (a : Int)) = 1 := by rw [IntKind.wrap_i64]; omega
  have r0' : (m : Int) - (a : Int) = 1 := by omega
  have HU : Hid (Runs (ltOf cf) tg a m b d) := U
  have HS : Hid (SWO (ltOf cf)) := hS
  have N0 : Hid (∀ y, d[y]! = rotF (fun y => d[y]!) a (a + 1) (a + 1) y) := fun y => (rot_none2 _ _ _ _).symm
  have Q0 : Hid (PermIn a b d d) := permIn_refl _ _ _
  have HO : Hid (m = a + 1) := hone
  clear S L hcmp U hS hone
  go_enter FG, Try.ntmps70
  go_wp2
  go_loopg [10, 11] (b - m) (fun kx si sj wr => ∃ (i j : Nat), si = .int .i64 i ∧ sj = .int .i64 j ∧ m ≤ i ∧ i ≤ j ∧ j ≤ b ∧ j - i ≤ kx ∧ Aside (SWK enc k w0 blk off d wr) ∧ Hid (m < i → ltOf cf d[i - 1]! d[a]! = true) ∧ Hid (j < b → ltOf cf d[j]! d[a]! = false))
  case atStart => exact ⟨m, b, by first | rfl | go_num, by first | rfl | go_num, Nat.le_refl _, by omega, Nat.le_refl _, Nat.le_refl _, S0, fun h => by omega, fun h => by omega⟩
  case round =>
    clear S0
    obtain ⟨i, j, rfl, rfl, hli, hij, hjh, hkx, S1, I1, J1⟩ := hrel
    by_cases hlt : i < j
    · have hltz : (i : Int) < (j : Int) := by omega
      obtain ⟨h, hh⟩ : ∃ h, h = (i + j) / 2 := ⟨_, rfl⟩
      have hz : ((i : Int) + (j : Int)) / 2 = (h : Int) := by omega
      have hi1 : i ≤ h := by omega
      have hj1 : h < j := by omega
      have rij : IntKind.i64.wrap ((i : Int) + (j : Int)) = (i : Int) + (j : Int) := by rw [IntKind.wrap_i64]; omega
      clear hh
      cases hL : ltOf cf d[h]! d[a]! with
      | true =>
        have ea8 : ((h : Int)).toNat = h := by omega
        have pa8 : (0 : Int) ≤ (h : Int) := by omega
        have ba8 : (h : Int) < (N : Int) := by omega
        have ra8 : IntKind.i64.wrap ((h : Int)) = (h : Int) := by rw [IntKind.wrap_i64]; omega
        have ec8 : ((a : Int)).toNat = a := by omega
        have pc8 : (0 : Int) ≤ (a : Int) := by omega
        have bc8 : (a : Int) < (N : Int) := by omega
        have rc8 : IntKind.i64.wrap ((a : Int)) = (a : Int) := by rw [IntKind.wrap_i64]; omega
        obtain ⟨x8, hx8⟩ : ∃ x, x = d[h]! := ⟨_, rfl⟩
        obtain ⟨y8, hy8⟩ : ∃ x, x = d[a]! := ⟨_, rfl⟩
        have l8a := S1.out.ld R (by omega) P (h) (by omega)
        have l8b := S1.out.ld R (by omega) P (a) (by omega)
        rw [← hx8] at l8a
        rw [← hy8] at l8b
        have hc8 := S1.out.cmp HC.out (by omega) x8 y8
        have hv8 : cf x8 y8 < 0 := by rw [hx8, hy8]; exact of_decide_eq_true hL
        have hd8 : decide (cf x8 y8 < 0) = true := decide_eq_true hv8
        clear hx8 hy8
        go_wp2_with fail
        go_quiet_grown (first | (go_at_fn g; refine Calls.grown_of (hc8 _ _)))
        have S2 : Aside (SWK enc k w0 blk off d (grow (wr.drewN nq) osq)) := S1.out.grown nq osq
        clear l8a l8b hc8 S1
        generalize grow (wr.drewN nq) osq = w2 at S2 ⊢
        clear nq osq
        go_wp2
        go_roundg (j - (h + 1))
        case measure => omega
        case rel => exact ⟨h + 1, j, by first | rfl | go_num | (congr 1; omega), rfl, by omega, by omega, hjh, Nat.le_refl _, S2, fun _ => by simpa using hL, J1⟩
      | false =>
        have ea8 : ((h : Int)).toNat = h := by omega
        have pa8 : (0 : Int) ≤ (h : Int) := by omega
        have ba8 : (h : Int) < (N : Int) := by omega
        have ra8 : IntKind.i64.wrap ((h : Int)) = (h : Int) := by rw [IntKind.wrap_i64]; omega
        have ec8 : ((a : Int)).toNat = a := by omega
        have pc8 : (0 : Int) ≤ (a : Int) := by omega
        have bc8 : (a : Int) < (N : Int) := by omega
        have rc8 : IntKind.i64.wrap ((a : Int)) = (a : Int) := by rw [IntKind.wrap_i64]; omega
        obtain ⟨x8, hx8⟩ : ∃ x, x = d[h]! := ⟨_, rfl⟩
        obtain ⟨y8, hy8⟩ : ∃ x, x = d[a]! := ⟨_, rfl⟩
        have l8a := S1.out.ld R (by omega) P (h) (by omega)
        have l8b := S1.out.ld R (by omega) P (a) (by omega)
        rw [← hx8] at l8a
        rw [← hy8] at l8b
        have hc8 := S1.out.cmp HC.out (by omega) x8 y8
        have hv8 : ¬ cf x8 y8 < 0 := by rw [hx8, hy8]; exact of_decide_eq_false hL
        have hd8 : decide (cf x8 y8 < 0) = false := decide_eq_false hv8
        clear hx8 hy8
        go_wp2_with fail
        go_quiet_grown (first | (go_at_fn g; refine Calls.grown_of (hc8 _ _)))
        have S2 : Aside (SWK enc k w0 blk off d (grow (wr.drewN nq) osq)) := S1.out.grown nq osq
        clear l8a l8b hc8 S1
        generalize grow (wr.drewN nq) osq = w2 at S2 ⊢
        clear nq osq
        go_wp2
        go_roundg (h - i)
        case measure => omega
        case rel => exact ⟨i, h, rfl, by first | rfl | go_num | (congr 1; omega), hli, hi1, by omega, Nat.le_refl _, S2, I1, fun _ => hL⟩
    · have hltz : ¬ (i : Int) < (j : Int) := by omega
      obtain rfl : i = j := by omega
      obtain ⟨u, hu⟩ : ∃ u, u + 1 = i := ⟨i - 1, by omega⟩
      have ru : IntKind.i64.wrap ((i : Int) - 1) = (u : Int) := by rw [IntKind.wrap_i64]; omega
      have ru' : (i : Int) - 1 = (u : Int) := by omega
      go_wp2
      go_loopg [13] (u - a) (fun kx sk wr2 => ∃ (x : Nat) (dk : Array α), sk = .int .i64 x ∧ a ≤ x ∧ x ≤ u ∧ u - x ≤ kx ∧ dk.size = N ∧ Aside (SWK enc k w0 blk off dk wr2) ∧ Hid (PermIn a b d dk) ∧ Hid (∀ y, dk[y]! = rotF (fun y => d[y]!) a (a + 1) (x + 1) y))
      case atStart => exact ⟨a, d, rfl, Nat.le_refl _, by omega, Nat.le_refl _, hN, S1, Q0, N0⟩
      case round =>
        clear S1 Q0 N0
        obtain ⟨x, dk, rfl, hax, hxu, hkx2, hds, S2, Q2, N2⟩ := hrel
        by_cases hxl : x < u
        · have hxz : (x : Int) < (u : Int) := by omega
          have ea9 : ((x : Int)).toNat = x := by omega
          have pa9 : (0 : Int) ≤ (x : Int) := by omega
          have ba9 : (x : Int) < (N : Int) := by omega
          have ra9 : IntKind.i64.wrap ((x : Int)) = (x : Int) := by rw [IntKind.wrap_i64]; omega
          have ec9 : ((x : Int) + 1).toNat = x + 1 := by omega
          have pc9 : (0 : Int) ≤ (x : Int) + 1 := by omega
          have bc9 : (x : Int) + 1 < (N : Int) := by omega
          have rc9 : IntKind.i64.wrap ((x : Int) + 1) = (x : Int) + 1 := by rw [IntKind.wrap_i64]; omega
          have S3 : Aside (SWK enc k w0 blk off (swp dk (x) (x + 1)) ((wr.drew.setCells blk (off + (x) * k) (enc dk[x + 1]!)).setCells blk (off + (x + 1) * k) (enc dk[x]!))) := S2.out.swapped R (x) (x + 1) (by omega) (by omega)
          have l9a := S2.out.ld1 R (by omega) P (x) (by omega)
          have l9b := S2.out.ld1 R (by omega) P (x + 1) (by omega)
          have s9a := S2.out.st1 R (by omega) P (x) (by omega) dk[x + 1]!
          have s9b := S2.out.st2 R (by omega) P (x) (x + 1) (by omega) (by omega) dk[x + 1]! dk[x]!
          have n9a : (enc dk[x]!).length = k := R.hk _
          have n9b : (enc dk[x + 1]!).length = k := R.hk _
          generalize enc dk[x]! = cI9 at S3 l9a s9b n9a
          generalize enc dk[x + 1]! = cJ9 at S3 l9b s9a s9b n9b
          clear S2
          go_wp2_with fail
          go_big_region_o
          clear l9a l9b s9a s9b
          generalize (wr.drew.setCells blk (off + (x) * k) cJ9).setCells blk (off + (x + 1) * k) cI9 = w3 at S3 ⊢
          go_wp2
          go_roundg (u - (x + 1))
          case measure => omega
          case rel => exact ⟨x + 1, swp dk x (x + 1), by first | rfl | go_num, by omega, by omega, Nat.le_refl _, by rw [size_swp]; exact hds, S3, permIn_trans _ _ _ _ _ Q2.out (swp_permIn dk a b x (x + 1) hax (by omega) (by omega) (by omega) (by omega)), rot_up hax (hds.trans hN.symm) (by omega) N2.out⟩
        · have hxz : ¬ (x : Int) < (u : Int) := by omega
          obtain rfl : x = u := by omega
          go_wp2
          refine bodyPost_ret (v := .tuple #[]) (results_none Try.results70 _ _ _) rfl ?_
          refine ⟨rfl, dk, S2.out, Q2.out, ?_⟩
          have hU := HU.out
          have hone := HO.out
          subst hone
          rw [hu] at N2
          exact hU.one_left HS.out (by omega) (by omega) N2.out (fun q => by have := I1.out (by omega); exact this) (fun q => J1.out q)
set_option maxHeartbeats 8000000 in
set_option maxRecDepth 1000000 in
theorem sym_right (L : StL P k) (enc : α → List Value) (cf : α → α → Int) (tg : α → Nat) (g : Nat) (cb : Array Value) (blk off cap N a m b : Nat) (d0 d : Array α) (w0 w : World)
    (eg : ∀ args w, (callFunc g args).run P w = .ok (.enter g args) w) (hcmp : CmpLays P g cb enc k cf blk off N w0) (hS : SWO (ltOf cf)) (R : RowK enc k w0 blk off d0) (h0 : d0.size = N) (hN : d.size = N) (S : SWK enc k w0 blk off d w)
    (U : Runs (ltOf cf) tg a m b d) (hmb : m < b) (hb : b ≤ N) (hsz : N < 1152921504606846976) (hone : b = m + 1) (hn1 : a + 1 < m) :
    Calls P 70 #[.slice (some ⟨blk, off, none⟩) N cap, .int .i64 a, .int .i64 m, .int .i64 b, .func (.func g) #[] cb] w fun e w' =>
      e = .returned (.tuple #[]) ∧ ∃ d', SWK enc k w0 blk off d' w' ∧ PermIn a b d d' ∧ SortedIn (tlB (ltOf cf) tg) a b d' := by
  have mixed := L.mixed; have t0 := L.t0; have a0 := L.a0; have z0 := L.z0; have v0 := L.v0; have t3 := L.t3; have a3 := L.a3; have z3 := L.z3; have v3 := L.v3; have t4 := L.t4; have a4 := L.a4; have z4 := L.z4; have v4 := L.v4; have t22 := L.tS; have a22 := L.aS; have z22 := L.zS; have v22 := L.vS; have t25 := L.tC; have a25 := L.aC; have z25 := L.zC; have v25 := L.vC; have tU := L.tU; have aU := L.aU; have zU := L.zU; have vU := L.vU
  have aE := L.aE; have zE := L.zE
  have FG := L.fSym
  have HC : Aside _ := hcmp
  have S0 : Aside (SWK enc k w0 blk off d w) := S
  obtain ⟨zz, hzz⟩ : ∃ z, z + a = m := ⟨m - a, by omega⟩
  have r1 : IntKind.i64.wrap ((m : Int) - (a : Int)) = (zz : Int) := by rw [IntKind.wrap_i64]; omega
  have r1' : (m : Int) - (a : Int) = (zz : Int) := by omega
  have r1n : ¬ (zz : Int) = 1 := by omega
  have r1m : ¬ zz = 1 := by omega
  have r1b : ((zz : Int) == 1) = false := by rw [beq_eq_false_iff_ne]; omega
  have r0 : IntKind.i64.wrap ((b : Int) - (m : Int)) = 1 := by rw [IntKind.wrap_i64]; omega
  have r0' : (b : Int) - (m : Int) = 1 := by omega
  have HU : Hid (Runs (ltOf cf) tg a m b d) := U
  have HS : Hid (SWO (ltOf cf)) := hS
  have N0 : Hid (∀ y, d[y]! = rotF (fun y => d[y]!) m m (m + 1) y) := fun y => (rot_none1 _ _ _ _).symm
  have Q0 : Hid (PermIn a b d d) := permIn_refl _ _ _
  have HO : Hid (b = m + 1) := hone
  clear S L hcmp U hS hone
  go_enter FG, Try.ntmps70
  go_wp2
  go_loopg [14, 15] (m - a) (fun kx si sj wr => ∃ (i j : Nat), si = .int .i64 i ∧ sj = .int .i64 j ∧ a ≤ i ∧ i ≤ j ∧ j ≤ m ∧ j - i ≤ kx ∧ Aside (SWK enc k w0 blk off d wr) ∧ Hid (a < i → ltOf cf d[m]! d[i - 1]! = false) ∧ Hid (j < m → ltOf cf d[m]! d[j]! = true))
  case atStart => exact ⟨a, m, by first | rfl | go_num, by first | rfl | go_num, Nat.le_refl _, by omega, Nat.le_refl _, Nat.le_refl _, S0, fun h => by omega, fun h => by omega⟩
  case round =>
    clear S0
    obtain ⟨i, j, rfl, rfl, hli, hij, hjh, hkx, S1, I1, J1⟩ := hrel
    by_cases hlt : i < j
    · have hltz : (i : Int) < (j : Int) := by omega
      obtain ⟨h, hh⟩ : ∃ h, h = (i + j) / 2 := ⟨_, rfl⟩
      have hz : ((i : Int) + (j : Int)) / 2 = (h : Int) := by omega
      have hi1 : i ≤ h := by omega
      have hj1 : h < j := by omega
      have rij : IntKind.i64.wrap ((i : Int) + (j : Int)) = (i : Int) + (j : Int) := by rw [IntKind.wrap_i64]; omega
      clear hh
      cases hL : ltOf cf d[m]! d[h]! with
      | true =>
        have ea8 : ((m : Int)).toNat = m := by omega
        have pa8 : (0 : Int) ≤ (m : Int) := by omega
        have ba8 : (m : Int) < (N : Int) := by omega
        have ra8 : IntKind.i64.wrap ((m : Int)) = (m : Int) := by rw [IntKind.wrap_i64]; omega
        have ec8 : ((h : Int)).toNat = h := by omega
        have pc8 : (0 : Int) ≤ (h : Int) := by omega
        have bc8 : (h : Int) < (N : Int) := by omega
        have rc8 : IntKind.i64.wrap ((h : Int)) = (h : Int) := by rw [IntKind.wrap_i64]; omega
        obtain ⟨x8, hx8⟩ : ∃ x, x = d[m]! := ⟨_, rfl⟩
        obtain ⟨y8, hy8⟩ : ∃ x, x = d[h]! := ⟨_, rfl⟩
        have l8a := S1.out.ld R (by omega) P (m) (by omega)
        have l8b := S1.out.ld R (by omega) P (h) (by omega)
        rw [← hx8] at l8a
        rw [← hy8] at l8b
        have hc8 := S1.out.cmp HC.out (by omega) x8 y8
        have hv8 : cf x8 y8 < 0 := by rw [hx8, hy8]; exact of_decide_eq_true hL
        have hd8 : decide (cf x8 y8 < 0) = true := decide_eq_true hv8
        clear hx8 hy8
        go_wp2_with fail
        go_quiet_grown (first | (go_at_fn g; refine Calls.grown_of (hc8 _ _)))
        have S2 : Aside (SWK enc k w0 blk off d (grow (wr.drewN nq) osq)) := S1.out.grown nq osq
        clear l8a l8b hc8 S1
        generalize grow (wr.drewN nq) osq = w2 at S2 ⊢
        clear nq osq
        go_wp2
        go_roundg (h - i)
        case measure => omega
        case rel => exact ⟨i, h, rfl, by first | rfl | go_num | (congr 1; omega), hli, hi1, by omega, Nat.le_refl _, S2, I1, fun _ => hL⟩
      | false =>
        have ea8 : ((m : Int)).toNat = m := by omega
        have pa8 : (0 : Int) ≤ (m : Int) := by omega
        have ba8 : (m : Int) < (N : Int) := by omega
        have ra8 : IntKind.i64.wrap ((m : Int)) = (m : Int) := by rw [IntKind.wrap_i64]; omega
        have ec8 : ((h : Int)).toNat = h := by omega
        have pc8 : (0 : Int) ≤ (h : Int) := by omega
        have bc8 : (h : Int) < (N : Int) := by omega
        have rc8 : IntKind.i64.wrap ((h : Int)) = (h : Int) := by rw [IntKind.wrap_i64]; omega
        obtain ⟨x8, hx8⟩ : ∃ x, x = d[m]! := ⟨_, rfl⟩
        obtain ⟨y8, hy8⟩ : ∃ x, x = d[h]! := ⟨_, rfl⟩
        have l8a := S1.out.ld R (by omega) P (m) (by omega)
        have l8b := S1.out.ld R (by omega) P (h) (by omega)
        rw [← hx8] at l8a
        rw [← hy8] at l8b
        have hc8 := S1.out.cmp HC.out (by omega) x8 y8
        have hv8 : ¬ cf x8 y8 < 0 := by rw [hx8, hy8]; exact of_decide_eq_false hL
        have hd8 : decide (cf x8 y8 < 0) = false := decide_eq_false hv8
        clear hx8 hy8
        go_wp2_with fail
        go_quiet_grown (first | (go_at_fn g; refine Calls.grown_of (hc8 _ _)))
        have S2 : Aside (SWK enc k w0 blk off d (grow (wr.drewN nq) osq)) := S1.out.grown nq osq
        clear l8a l8b hc8 S1
        generalize grow (wr.drewN nq) osq = w2 at S2 ⊢
        clear nq osq
        go_wp2
        go_roundg (j - (h + 1))
        case measure => omega
        case rel => exact ⟨h + 1, j, by first | rfl | go_num | (congr 1; omega), rfl, by omega, by omega, hjh, Nat.le_refl _, S2, fun _ => by simpa using hL, J1⟩
    · have hltz : ¬ (i : Int) < (j : Int) := by omega
      obtain rfl : i = j := by omega
      go_wp2
      go_loopg [17] (m - i) (fun kx sk wr2 => ∃ (x : Nat) (dk : Array α), sk = .int .i64 x ∧ i ≤ x ∧ x ≤ m ∧ x - i ≤ kx ∧ dk.size = N ∧ Aside (SWK enc k w0 blk off dk wr2) ∧ Hid (PermIn a b d dk) ∧ Hid (∀ y, dk[y]! = rotF (fun y => d[y]!) x m (m + 1) y))
      case atStart => exact ⟨m, d, rfl, by omega, Nat.le_refl _, Nat.le_refl _, hN, S1, Q0, N0⟩
      case round =>
        clear S1 Q0 N0
        obtain ⟨x, dk, rfl, hax, hxu, hkx2, hds, S2, Q2, N2⟩ := hrel
        by_cases hxl : i < x
        · obtain ⟨y, rfl⟩ : ∃ y, x = y + 1 := ⟨x - 1, by omega⟩
          have hxz : (i : Int) < ((y + 1 : Nat) : Int) := by omega
          have hxz2 : (i : Int) < (y : Int) + 1 := by omega
          have ry : IntKind.i64.wrap ((y : Int) + 1) = (y : Int) + 1 := by rw [IntKind.wrap_i64]; omega
          have ea9 : ((y : Int) + 1).toNat = y + 1 := by omega
          have pa9 : (0 : Int) ≤ (y : Int) + 1 := by omega
          have ba9 : (y : Int) + 1 < (N : Int) := by omega
          have ra9 : IntKind.i64.wrap ((y : Int) + 1) = (y : Int) + 1 := by rw [IntKind.wrap_i64]; omega
          have ec9 : ((y : Int)).toNat = y := by omega
          have pc9 : (0 : Int) ≤ (y : Int) := by omega
          have bc9 : (y : Int) < (N : Int) := by omega
          have rc9 : IntKind.i64.wrap ((y : Int)) = (y : Int) := by rw [IntKind.wrap_i64]; omega
          have S3 : Aside (SWK enc k w0 blk off (swp dk (y + 1) (y)) ((wr.drew.setCells blk (off + (y + 1) * k) (enc dk[y]!)).setCells blk (off + (y) * k) (enc dk[y + 1]!))) := S2.out.swapped R (y + 1) (y) (by omega) (by omega)
          have l9a := S2.out.ld1 R (by omega) P (y + 1) (by omega)
          have l9b := S2.out.ld1 R (by omega) P (y) (by omega)
          have s9a := S2.out.st1 R (by omega) P (y + 1) (by omega) dk[y]!
          have s9b := S2.out.st2 R (by omega) P (y + 1) (y) (by omega) (by omega) dk[y]! dk[y + 1]!
          have n9a : (enc dk[y + 1]!).length = k := R.hk _
          have n9b : (enc dk[y]!).length = k := R.hk _
          generalize enc dk[y + 1]! = cI9 at S3 l9a s9b n9a
          generalize enc dk[y]! = cJ9 at S3 l9b s9a s9b n9b
          clear S2
          go_wp2_with fail
          go_big_region_o
          clear l9a l9b s9a s9b
          generalize (wr.drew.setCells blk (off + (y + 1) * k) cJ9).setCells blk (off + (y) * k) cI9 = w3 at S3 ⊢
          go_wp2
          go_roundg (y - i)
          case measure => omega
          case rel => exact ⟨y, swp dk (y + 1) y, by first | rfl | go_num | (congr 1; omega), by omega, by omega, Nat.le_refl _, by rw [size_swp]; exact hds, S3, permIn_trans _ _ _ _ _ Q2.out (swp_permIn dk a b (y + 1) y (by omega) (by omega) (by omega) (by omega) (by omega)), rot_down hxu (hds.trans hN.symm) (by omega) N2.out⟩
        · have hxz : ¬ (i : Int) < (x : Int) := by omega
          obtain rfl : x = i := by omega
          go_wp2
          refine bodyPost_ret (v := .tuple #[]) (results_none Try.results70 _ _ _) rfl ?_
          refine ⟨rfl, dk, S2.out, Q2.out, ?_⟩
          have hU := HU.out
          have hone := HO.out
          subst hone
          exact hU.one_right HS.out hli hjh N2.out (fun q => J1.out q) (fun q => I1.out q)
end Go.Proofs
