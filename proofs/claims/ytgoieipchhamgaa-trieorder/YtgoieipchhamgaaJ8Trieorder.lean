/-
  The row of customhouselaw12.TrieOrder: for every input it returns true, and each argument reads as it did. No conditions.
  Contract of the reference's Ints over numbers in memory. Conditions as each theorem lists them.
  One trie, and two side by side, while other memory is kept. Conditions as each theorem lists them.
  Appending a slice of cubes, wherever it lies, to a row of the call's own; contracts of slices.Clone, slices.Grow (of nil) and slices.Concat (of two) over cubes. Conditions as each theorem lists them.
  The law TrieOrder: what is found does not hang on the order, nor on what came and went. Conditions as each theorem lists them.
-/
import Derived.Test.YtgoieipchhamgaaJ7
import Derived.Maps.AppendAt
import Derived.Lib.AppendZeros
import Derived.Laws.AppendOwnNone
import Derived.Test.YtgoieipchhamgaaRows
import Derived.Below
namespace Go.Proofs.Hd
open Go.RowKit
theorem take_eq_of {A B : List Int} {k : Nat} {x : Int} (h : A.take k = B.take k) (ha : A[k]? = some x) (hb : B[k]? = some x) : A.take (k + 1) = B.take (k + 1) := by
  rw [List.take_add_one, List.take_add_one, ha, hb, h]
end Go.Proofs.Hd
namespace Go.Proofs
open Go.RowKit Go.Proofs.Hd Go.Lib
attribute [local go_sem] uv_nonneg
set_option maxHeartbeats 2000000 in
theorem rintg_c (v u : Value) (A B : List Int) (w : World) (hl : A.length ≤ 4611686018427387904) (hm : B.length ≤ 4611686018427387904) (ha : Nm w v A) (hb : Nm w u B) : Calls Try.prog 14 #[v, u] w fun e w' => e = .returned (.bool (decide (A = B))) ∧ Below w.heap.size w w' := by
  obtain ⟨A1, c1, rfl, _, _, h3⟩ := ha
  obtain ⟨A2, c2, rfl, _, _, h4⟩ := hb
  have hlz : (A.length : Int) ≤ 4611686018427387904 := by omega
  have hmz : (B.length : Int) ≤ 4611686018427387904 := by omega
  obtain ⟨r, hr⟩ : ∃ r, decide (A = B) = r := ⟨_, rfl⟩
  rw [hr]
  by_cases hab : A.length = B.length
  · have habz : (A.length : Int) = (B.length : Int) := by omega
    rcases h3 with rfl | ⟨b, o, rfl, hb, hc⟩
    · obtain rfl : B = [] := List.eq_nil_of_length_eq_zero hab.symm
      obtain rfl : r = true := by rw [← hr]; simp
      clear hr h4
      go_enter Try.func14, Try.ntmps14
      go_wp2
      refine wp_loop_rounds 1 ?_
      rw [rounds_succ]
      go_wp2
      go_ret
      exact ⟨rfl, Below.refl _ _⟩
    rcases h4 with rfl | ⟨b2, o2, rfl, hb2, hc2⟩
    · obtain rfl : A = [] := List.eq_nil_of_length_eq_zero hab
      obtain rfl : r = true := by rw [← hr]; simp
      clear hr hc
      go_enter Try.func14, Try.ntmps14
      go_wp2
      refine wp_loop_rounds 1 ?_
      rw [rounds_succ]
      go_wp2
      go_ret
      exact ⟨rfl, Below.refl _ _⟩
    have HC := Lib.hid hc
    have HD := Lib.hid hc2
    have HR := Lib.hid hr
    have HAB := Lib.hid hab
    generalize hBn : B.length = n at hmz habz HAB
    have HBN := Lib.hid hBn
    clear hc hc2 hr hab hm hBn
    go_enter Try.func14, Try.ntmps14
    go_wp2
    go_loopg [5] A.length (fun gk s5 wr => ∃ k : Nat, k ≤ A.length ∧ gk = A.length - k ∧ s5 = .int .i64 k ∧ Hid (Below w.heap.size w wr) ∧ Hid (A.take k = B.take k))
    case atStart => exact ⟨0, Nat.zero_le _, rfl, rfl, Below.refl _ _, by show _ = _; simp⟩
    case round =>
      obtain ⟨k, hk, rfl, rfl, HB, HI⟩ := hrel
      by_cases hlt : k < A.length
      · have hltz : (k : Int) < (A.length : Int) := by omega
        have hltz2 : (k : Int) < (n : Int) := by omega
        obtain ⟨y, hy⟩ : ∃ y, A[k]? = some y := ⟨_, List.getElem?_eq_getElem hlt⟩
        obtain ⟨z, hz⟩ : ∃ z, B[k]? = some z := ⟨_, List.getElem?_eq_getElem (by have := HAB.out; have := HBN.out; omega)⟩
        have d1 := on_some HB.out (HC.out k y hy)
        have d2 := on_some HB.out (HD.out k z hz)
        have HY := Lib.hid hy
        have HZ := Lib.hid hz
        clear hy hz
        by_cases hyz : y = z
        · have hd : (y == z) = true := by simpa using hyz
          have st := Lib.hid (take_eq_of HI.out HY.out (by rw [hyz]; exact HZ.out))
          have E := Lib.hid hyz
          clear hyz
          go_wp2_with fail
          go_quiet (fail)
          have HB2 := Lib.hid (bdn HB.out nq)
          clear d1 d2 HB
          generalize wr.drewN nq = w2 at HB2 ⊢
          go_wp2
          go_roundg (A.length - (k + 1))
          case measure => omega
          case rel => exact ⟨k + 1, by omega, rfl, by go_num, HB2, st⟩
        · have hd : (y == z) = false := by simpa using hyz
          have hrf : r = false := by
            rw [← HR.out]
            simp only [decide_eq_false_iff_not]
            intro e
            have h1 := HY.out
            rw [e, HZ.out] at h1
            injection h1 with h1
            exact hyz h1.symm
          subst hrf
          have E := Lib.hid hyz
          clear hyz
          go_wp2_with fail
          go_quiet (fail)
          have HB2 := Lib.hid (bdn HB.out nq)
          clear d1 d2 HB
          generalize wr.drewN nq = w2 at HB2 ⊢
          go_wp2
          go_ret
          exact ⟨rfl, HB2.out⟩
      · have hltz : ¬ (k : Int) < (A.length : Int) := by omega
        have hrt : r = true := by
          have h1 := HI.out
          rw [List.take_of_length_le (by omega), List.take_of_length_le (by have := HAB.out; have := HBN.out; omega)] at h1
          rw [← HR.out]
          simpa using h1
        subst hrt
        go_wp2
        go_ret
        exact ⟨rfl, HB.out⟩
  · have habz : ¬ (A.length : Int) = (B.length : Int) := by omega
    obtain rfl : r = false := by
      rw [← hr]
      simp only [decide_eq_false_iff_not]
      intro e
      exact hab (congrArg List.length e)
    clear hr h3 h4
    go_enter Try.func14, Try.ntmps14
    go_wp2
    go_ret
    exact ⟨rfl, Below.refl _ _⟩
end Go.Proofs

namespace Go.Proofs.Hd
open Go.RowKit Go.Lib
/-- A trie whose blocks lie from n on. -/
structure One (n : Nat) (w : World) (B : Nat) (l : List (Int × Cb)) (S : Nat → Prop) : Prop where
  at_ : TrieAt w B l S
  lo : ∀ y, S y → n ≤ y
theorem One.on {n : Nat} {w w' : World} {B : Nat} {l : List (Int × Cb)} {S : Nat → Prop} (h : One n w B l S) (hb : Below w.heap.size w w') : One n w' B l S := ⟨h.at_.on hb, h.lo⟩
theorem One.step {n : Nat} {w w' : World} {B : Nat} {l l' : List (Int × Cb)} {S S' : Nat → Prop} (h : One n w B l S) (hn : n ≤ w.heap.size) (ht : TrieAt w' B l' S') (hw : Nw w S S') (hc : Ch S w w') : One n w' B l' S' ∧ Below n w w' :=
  ⟨⟨ht, fun y hy => (hw y hy).elim (h.lo y) (fun h => by omega)⟩, hc.below hn fun k hk hs => by have := h.lo k hs; omega⟩
structure Two (n : Nat) (w : World) (B1 B2 : Nat) (la lb : List (Int × Cb)) (Sa Sb : Nat → Prop) : Prop where
  a : One n w B1 la Sa
  b : One n w B2 lb Sb
  dis : ∀ y, Sa y → ¬ Sb y
theorem Two.on {n : Nat} {w w' : World} {B1 B2 : Nat} {la lb : List (Int × Cb)} {Sa Sb : Nat → Prop} (h : Two n w B1 B2 la lb Sa Sb) (hb : Below w.heap.size w w') : Two n w' B1 B2 la lb Sa Sb := ⟨h.a.on hb, h.b.on hb, h.dis⟩
theorem Two.stepA {n : Nat} {w w' : World} {B1 B2 : Nat} {la lb l' : List (Int × Cb)} {Sa Sb S' : Nat → Prop} (h : Two n w B1 B2 la lb Sa Sb) (hn : n ≤ w.heap.size) (ht : TrieAt w' B1 l' S') (hw : Nw w Sa S') (hc : Ch Sa w w') : Two n w' B1 B2 l' lb S' Sb ∧ Below n w w' := by
  obtain ⟨h1, h2⟩ := h.a.step hn ht hw hc
  refine ⟨⟨h1, ⟨h.b.at_.ch hc fun y hy hs => h.dis y hs hy, h.b.lo⟩, fun y hy hs => ?_⟩, h2⟩
  rcases hw y hy with h3 | h3
  · exact h.dis y h3 hs
  · have := h.b.at_.lt y hs; omega
theorem Two.stepB {n : Nat} {w w' : World} {B1 B2 : Nat} {la lb l' : List (Int × Cb)} {Sa Sb S' : Nat → Prop} (h : Two n w B1 B2 la lb Sa Sb) (hn : n ≤ w.heap.size) (ht : TrieAt w' B2 l' S') (hw : Nw w Sb S') (hc : Ch Sb w w') : Two n w' B1 B2 la l' Sa S' ∧ Below n w w' := by
  obtain ⟨h1, h2⟩ := h.b.step hn ht hw hc
  refine ⟨⟨⟨h.a.at_.ch hc fun y hy hs => h.dis y hy hs, h.a.lo⟩, h1, fun y hy hs => ?_⟩, h2⟩
  rcases hw y hs with h3 | h3
  · exact h.dis y hy h3
  · have := h.a.at_.lt y hy; omega
theorem wf_small {x : Int} (h1 : 0 ≤ x) (h2 : x ≤ 1000) : (Lit.int .i64 x).wf = true := WalkArith.wf_i64 (by omega)
end Go.Proofs.Hd
namespace Go.Proofs
open Go.RowKit Go.Proofs.Hd Go.Lib
theorem rint_same (v u : Value) (A B : List Int) (w : World) (e : A = B) (hl : A.length ≤ 4611686018427387904) (ha : Nm w v A) (hb : Nm w u B) : Calls Try.prog 14 #[v, u] w fun e w' => e = .returned (.bool true) ∧ Below w.heap.size w w' := by
  subst e
  have h := rintg_c v u A A w hl hl ha hb
  rw [decide_eq_true (rfl : A = A)] at h
  exact h
end Go.Proofs

namespace Go.Proofs.Hd
open Go.RowKit
theorem flat_one (L : List Cb) : ∀ u ∈ flat L, u.oneCell' = true := by
  induction L with
  | nil => intro u hu; simp [flat] at hu
  | cons c L ih =>
    intro u hu
    have : u ∈ c.cells ++ flat L := by simpa [flat] using hu
    rcases List.mem_append.1 this with h | h
    · simp only [Cb.cells, List.mem_cons, List.not_mem_nil, or_false] at h
      rcases h with rfl | rfl | rfl | rfl <;> rfl
    · exact ih u h
theorem Pl.src {w : World} {v : Value} {L : List Cb} (h : Pl w v L) : Src w 4 v L.length (flat L) := by
  refine ⟨flat_len L, flat_one L, ?_⟩
  rcases h with ⟨rfl, A, cap, rfl⟩ | ⟨b, off, cap, rfl, hlen, hb, hc⟩
  · cases A with
    | none => exact .inl ⟨rfl, cap, rfl⟩
    | some ad => exact .inr ⟨ad, cap, rfl, fun j u hu => by simp [flat] at hu⟩
  · refine .inr ⟨_, cap, rfl, fun j u hu => ?_⟩
    have hj : j < L.length * 4 := by rw [← flat_len]; exact (List.getElem?_eq_some_iff.1 hu).1
    have hk : j / 4 < L.length := by omega
    have hg := flat_get L (j / 4) hk (j % 4) (Nat.mod_lt _ (by omega))
    rw [show j / 4 * 4 + j % 4 = j by omega, hu] at hg
    have h4 := hc (j / 4) _ (List.getElem?_eq_getElem hk)
    have e : (⟨b, off, none⟩ : Addr).add j = ⟨b, off + j / 4 * 4 + j % 4, none⟩ := by
      unfold Addr.add
      by_cases h0 : j = 0
      · subst h0; rfl
      · rw [if_neg h0]; simp; omega
    rw [e]
    obtain ⟨h0, h1, h2, h3⟩ := h4
    have hm : j % 4 = 0 ∨ j % 4 = 1 ∨ j % 4 = 2 ∨ j % 4 = 3 := by omega
    rcases hm with hm | hm | hm | hm <;> rw [hm] at hg ⊢
    · rw [Nat.add_zero, h0]; exact hg.symm
    · rw [h1]; exact hg.symm
    · rw [h2]; exact hg.symm
    · rw [h3]; exact hg.symm
theorem Pl.form {w : World} {v : Value} {L : List Cb} (h : Pl w v L) : ∃ A cap, v = .slice A L.length cap ∧ L.length ≤ maxLen ∧ (L ≠ [] → ∃ b off, A = some ⟨b, off, none⟩ ∧ b < w.heap.size ∧ ∀ (k : Nat) (c : Cb), L[k]? = some c → At4 w b (off + k * 4) c) := by
  rcases h with ⟨rfl, A, cap, rfl⟩ | ⟨b, off, cap, rfl, hlen, hb, hc⟩
  · exact ⟨A, cap, rfl, by simp [maxLen], fun h => absurd rfl h⟩
  · exact ⟨_, cap, rfl, hlen, fun _ => ⟨b, off, rfl, hb, hc⟩⟩
theorem Pl.take {w : World} {A : Option Addr} {cap : Nat} {L : List Cb} (h : Pl w (.slice A L.length cap) L) (n : Nat) : Pl w (.slice A (L.take n).length cap) (L.take n) := by
  rcases h with ⟨rfl, B, cap', e⟩ | ⟨b, off, cap', e, hlen, hb, hc⟩
  · exact .inl ⟨by simp, A, cap, by simp⟩
  · injection e with e1 e2 e3
    subst e1 e3
    refine .inr ⟨b, off, cap, rfl, Nat.le_trans (by simp; omega) hlen, hb, fun k c hk => hc k c ?_⟩
    have hkn := (List.getElem?_eq_some_iff.1 hk).1
    rw [List.getElem?_take_of_lt (by simp at hkn; omega)] at hk
    exact hk
theorem own_Pl {w : World} {base : Nat} {v : Value} {L : List Cb} (h : w.ownsRow base 27 4 v L.length (flat L)) : Pl w v L := by
  rcases h.2 with ⟨rfl, h0⟩ | ⟨g, cap, cur, hv, hge, hheap, hlc, hcm, _⟩
  · exact .inl ⟨List.eq_nil_of_length_eq_zero h0, _, _, rfl⟩
  · subst hv
    refine .inr ⟨g, 0, cap, rfl, Nat.le_trans hlc hcm, (h.lt g rfl).2, fun k c hc => ?_⟩
    rw [Nat.zero_add]
    exact ⟨own_at h k hc 0 (by omega), own_at h k hc 1 (by omega), own_at h k hc 2 (by omega), own_at h k hc 3 (by omega)⟩
theorem ne_nil_of {α : Type} {L : List α} {k : Nat} {c : α} (h : L[k]? = some c) : L ≠ [] := fun e => by rw [e] at h; simp at h
end Go.Proofs.Hd

namespace Go.Proofs.Hd
open Go.RowKit Go.Lib
theorem mtT_len (l : List (Int × Cb)) (x y : BitVec 64) : (mtT l x y).length ≤ l.length := by
  have h1 := setI_len (tIds (l.filter fun p => p.2.has x y))
  have h2 : (tIds (l.filter fun p => p.2.has x y)).length ≤ l.length := by
    unfold tIds
    rw [List.length_map]
    exact List.length_filter_le _ _
  unfold mtT
  omega
theorem one_len (g : Cb) : (addT [] 100 g).length ≤ 0 + 1 := addT_len
end Go.Proofs.Hd
namespace Go.Proofs
open Go.RowKit Go.Proofs.Hd Go.Lib
attribute [local go_sem] uv_nonneg
set_option maxRecDepth 100000 in
set_option maxHeartbeats 8000000 in
theorem trorder_c (A : Option Addr) (cap : Nat) (cs : List Cb) (g : Cb) (hh hl : BitVec 64) (c : Cb) (w : World) (hcap : cs.length ≤ cap) (hmx : cap ≤ maxLen) (hv : Pl w (.slice A cs.length cap) cs) :
    Calls Try.prog 6 #[.slice A cs.length cap, .agg #[.int .u64 (uv g.vh), .int .u64 (uv g.vl), .int .u64 (uv g.ch), .int .u64 (uv g.cl)], .agg #[.int .u64 (uv hh), .int .u64 (uv hl)], .agg #[.int .u64 (uv c.vh), .int .u64 (uv c.vl), .int .u64 (uv c.ch), .int .u64 (uv c.cl)]] w fun e w' => e = .returned (.bool true) ∧ Below w.heap.size w w' := by
  have hb0 := below3 w (.cells #[.int .u64 (uv g.vh), .int .u64 (uv g.vl), .int .u64 (uv g.ch), .int .u64 (uv g.cl)] 27) (.cells #[.int .u64 (uv hh), .int .u64 (uv hl)] 25) (.cells #[.int .u64 (uv c.vh), .int .u64 (uv c.vl), .int .u64 (uv c.ch), .int .u64 (uv c.cl)] 27)
  have HBW := Lib.hid hb0
  have HG : Hid (Blk (((w.alloc (.cells #[.int .u64 (uv g.vh), .int .u64 (uv g.vl), .int .u64 (uv g.ch), .int .u64 (uv g.cl)] 27)).alloc (.cells #[.int .u64 (uv hh), .int .u64 (uv hl)] 25)).alloc (.cells #[.int .u64 (uv c.vh), .int .u64 (uv c.vl), .int .u64 (uv c.ch), .int .u64 (uv c.cl)] 27)) w.heap.size 27 #[.int .u64 (uv g.vh), .int .u64 (uv g.vl), .int .u64 (uv g.ch), .int .u64 (uv g.cl)]) := (Blk.new w _ _).on ((below1 _ _).trans ((below1 _ _).mono (by simp)))
  have HH : Hid (Blk (((w.alloc (.cells #[.int .u64 (uv g.vh), .int .u64 (uv g.vl), .int .u64 (uv g.ch), .int .u64 (uv g.cl)] 27)).alloc (.cells #[.int .u64 (uv hh), .int .u64 (uv hl)] 25)).alloc (.cells #[.int .u64 (uv c.vh), .int .u64 (uv c.vl), .int .u64 (uv c.ch), .int .u64 (uv c.cl)] 27)) (w.heap.size + 1) 25 #[.int .u64 (uv hh), .int .u64 (uv hl)]) := by
    have h := (Blk.new (w.alloc (.cells #[.int .u64 (uv g.vh), .int .u64 (uv g.vl), .int .u64 (uv g.ch), .int .u64 (uv g.cl)] 27)) 25 #[.int .u64 (uv hh), .int .u64 (uv hl)]).on (below1 _ (.cells #[.int .u64 (uv c.vh), .int .u64 (uv c.vl), .int .u64 (uv c.ch), .int .u64 (uv c.cl)] 27))
    show Blk _ _ _ _
    simpa using h
  have HC : Hid (Blk (((w.alloc (.cells #[.int .u64 (uv g.vh), .int .u64 (uv g.vl), .int .u64 (uv g.ch), .int .u64 (uv g.cl)] 27)).alloc (.cells #[.int .u64 (uv hh), .int .u64 (uv hl)] 25)).alloc (.cells #[.int .u64 (uv c.vh), .int .u64 (uv c.vl), .int .u64 (uv c.ch), .int .u64 (uv c.cl)] 27)) (w.heap.size + 1 + 1) 27 #[.int .u64 (uv c.vh), .int .u64 (uv c.vl), .int .u64 (uv c.ch), .int .u64 (uv c.cl)]) := by
    have h := Blk.new ((w.alloc (.cells #[.int .u64 (uv g.vh), .int .u64 (uv g.vl), .int .u64 (uv g.ch), .int .u64 (uv g.cl)] 27)).alloc (.cells #[.int .u64 (uv hh), .int .u64 (uv hl)] 25)) 27 #[.int .u64 (uv c.vh), .int .u64 (uv c.vl), .int .u64 (uv c.ch), .int .u64 (uv c.cl)]
    show Blk _ _ _ _
    simpa using h
  have HVV := Lib.hid (hv.on hb0)
  clear hb0 hv
  go_enter Try.func6, Try.ntmps6
  go_upto_region 1 with (fail)
  generalize (((w.alloc (.cells #[.int .u64 (uv g.vh), .int .u64 (uv g.vl), .int .u64 (uv g.ch), .int .u64 (uv g.cl)] 27)).alloc (.cells #[.int .u64 (uv hh), .int .u64 (uv hl)] 25)).alloc (.cells #[.int .u64 (uv c.vh), .int .u64 (uv c.vl), .int .u64 (uv c.ch), .int .u64 (uv c.cl)] 27)) = wb at HBW HG HH HC HVV ⊢
  generalize w.heap.size + 1 + 1 = bc at HC ⊢
  generalize w.heap.size + 1 = bh at HH ⊢
  generalize w.heap.size = bg at HG ⊢
  go_wp2_with fail
  (with_reducible refine (new_c wb).mono ?_)
  rintro e w1 ⟨B1, rfl, hT1, hB1, hb1⟩
  have HT1 := Lib.hid hT1
  have H1 := Lib.hid (And.intro hB1 hb1)
  clear hT1 hB1 hb1
  go_wp2_with fail
  (with_reducible refine (new_c w1).mono ?_)
  rintro e w2 ⟨B2, rfl, hT2, hB2, hb2⟩
  obtain ⟨Sa, hSa⟩ : ∃ S : Nat → Prop, S = fun y => y = B1 := ⟨_, rfl⟩
  obtain ⟨Sb, hSb⟩ : ∃ S : Nat → Prop, S = fun y => y = B2 := ⟨_, rfl⟩
  have HTW : Hid (Two wb.heap.size w2 B1 B2 [] [] Sa Sb) := by
    subst hSa hSb
    have hlt := HT1.out.lt B1 rfl
    refine ⟨⟨HT1.out.on hb2, fun y hy => ?_⟩, ⟨hT2, fun y hy => ?_⟩, fun y hy hy2 => ?_⟩
    · have : y = B1 := hy
      have := H1.out.1
      omega
    · have : y = B2 := hy
      have := H1.out.2.size
      omega
    · have : y = B1 := hy
      have : y = B2 := hy2
      omega
  have HB2 := Lib.hid (H1.out.2.trans (hb2.mono H1.out.2.size))
  clear hT2 hB2 hb2 H1 HT1 hSa hSb
  go_wp2_with fail
  (with_reducible refine (awake12_c w2).mono ?_)
  rintro e w4 ⟨rfl, hb4⟩
  have HT := Lib.hid (HTW.out.on hb4)
  have HB := Lib.hid (HB2.out.trans (hb4.mono HB2.out.size))
  clear hb4 HTW HB2
  have hcz : (cs.length : Int) ≤ (cap : Int) := by omega
  have hmz : (cap : Int) ≤ 9223372036854775807 := by unfold maxLen at hmx; omega
  by_cases h40 : cs.length ≤ 40
  · have hz : ¬ (40 : Int) < (cs.length : Int) := by omega
    have HV : Hid (cs ≠ [] → ∃ b off, A = some ⟨b, off, none⟩ ∧ ∀ (k : Nat) (c : Cb), cs[k]? = some c → At4 wb b (off + k * 4) c) := fun h => by
      obtain ⟨A', cap', e, _, h2⟩ := HVV.out.form
      obtain ⟨b, off, h3, _, h4⟩ := h2 h
      injection e with e1 _ _
      exact ⟨b, off, by rw [e1, h3], h4⟩
    have HN : Hid (cs.length = cs.length ∧ cs.length ≤ 40) := ⟨rfl, h40⟩
    clear HVV hcap hmx
    go_upto_region 6 with (fail)
    clear hz
    obtain ⟨L, hL⟩ : ∃ L, cs = L := ⟨_, rfl⟩
    obtain ⟨n, hn⟩ : ∃ n, cs.length = n := ⟨_, rfl⟩
    rw [hn] at HN hcz h40 ⊢
    rw [hL] at HV hn
    have HN : Hid (L.length = n ∧ n ≤ 40) := ⟨hn, HN.out.2⟩
    have hnz : (n : Int) ≤ 40 := by omega
    clear hL hn h40 hcz
    have hl0 := one_len g
    have hcall := add_c 100 g B2 [] Sb w4 (by decide) (by simp) HT.out.b.at_
    have x0 := ((HG.out.on HB.out).cell 0).trans rfl
    have x1 := ((HG.out.on HB.out).cell 1).trans rfl
    have x2 := ((HG.out.on HB.out).cell 2).trans rfl
    have x3 := ((HG.out.on HB.out).cell 3).trans rfl
    simp only [List.getElem?_toArray, List.getElem?_cons_succ, List.getElem?_cons_zero] at x0 x1 x2 x3
    go_wp2_with fail
    (with_reducible refine hcall.mono ?_)
    rintro e w5 ⟨S5, rfl, q1, q2, q3⟩
    obtain ⟨hT5, hb5⟩ := HT.out.stepB HB.out.size q1 q2 q3
    have HT5 := Lib.hid hT5
    have HB5 := Lib.hid (HB.out.trans hb5)
    clear q1 q2 q3 hT5 hb5 hcall x0 x1 x2 x3 HT HB
    have HL0 := Lib.hid hl0
    clear hl0
    go_wp2
    go_loopg [11, 12] n (fun gk s11 s12 wr => ∃ (k : Nat) (la lb : List (Int × Cb)) (Sa' Sb' : Nat → Prop), gk + k = n ∧ s11 = .int .i64 k ∧ (∃ x, s12 = x) ∧ Hid (Below wb.heap.size wb wr) ∧ Hid (Two wb.heap.size wr B1 B2 la lb Sa' Sb') ∧ Hid (HsT L 0 k [] la ∧ HsT L (n - k) n (addT [] 100 g) lb ∧ la.length ≤ k ∧ lb.length ≤ k + 1))
    case atStart => exact ⟨0, [], addT [] 100 g, Sa, S5, by omega, rfl, ⟨_, rfl⟩, HB5, HT5, ⟨HsT.start L 0 [], HsT.start L n _, by simp, HL0.out⟩⟩
    case round =>
      clear HT5 HB5
      obtain ⟨k, la, lb, Sa', Sb', hk, rfl, ⟨y12, rfl⟩, HB, HT, HS⟩ := hrel
      by_cases hlt : k < n
      · have hltz : (k : Int) < (n : Int) := by omega
        obtain ⟨m, hm⟩ : ∃ m, m + k + 1 = n := ⟨n - 1 - k, by omega⟩
        have e1 : (n : Int) - 1 - (k : Int) = (m : Int) := by omega
        have hmz : (m : Int) < (n : Int) := by omega
        obtain ⟨ck, hck⟩ : ∃ ck, L[k]? = some ck := ⟨_, List.getElem?_eq_getElem (by have := HN.out.1; omega)⟩
        obtain ⟨cm, hcm⟩ : ∃ cm, L[m]? = some cm := ⟨_, List.getElem?_eq_getElem (by have := HN.out.1; omega)⟩
        obtain ⟨b, off, rfl, hpc⟩ := HV.out (by intro e; rw [e] at hck; cases hck)
        obtain ⟨c0, c1, c2, c3⟩ := (hpc k ck hck).on HB.out
        have d := (hpc m cm hcm)
        have HD := Lib.hid d
        have hcall := add_c (k : Int) ck B1 la Sa' wr (wf_small (by omega) (by have := HN.out.2; omega)) (by have := HS.out.2.2.1; have := HN.out.2; omega) HT.out.a.at_
        have HK := Lib.hid (And.intro hck (And.intro hcm hm))
        have HLT := Lib.hid hlt
        clear hpc d hck hcm hm
        go_wp2_with fail
        (with_reducible refine hcall.mono ?_)
        rintro e w6 ⟨S6, rfl, q1, q2, q3⟩
        obtain ⟨hT6, hb6⟩ := HT.out.stepA HB.out.size q1 q2 q3
        have HT6 := Lib.hid hT6
        have HB6 := Lib.hid (HB.out.trans hb6)
        clear q1 q2 q3 hT6 hb6 hcall c0 c1 c2 c3 HT HB
        have hcall := add_c (m : Int) cm B2 lb Sb' w6 (wf_small (by omega) (by have := HN.out.2; omega)) (by have := HS.out.2.2.2; have := HN.out.2; omega) HT6.out.b.at_
        obtain ⟨c0, c1, c2, c3⟩ := HD.out.on HB6.out
        go_wp2_with fail
        (with_reducible refine hcall.mono ?_)
        rintro e w7 ⟨S7, rfl, q1, q2, q3⟩
        obtain ⟨hT7, hb7⟩ := HT6.out.stepB HB6.out.size q1 q2 q3
        have HT7 := Lib.hid hT7
        have HB7 := Lib.hid (HB6.out.trans hb7)
        clear q1 q2 q3 hT7 hb7 hcall c0 c1 c2 c3 HT6 HB6
        have HS7 : Hid (HsT L 0 (k + 1) [] (addT la (k : Int) ck) ∧ HsT L (n - (k + 1)) n (addT [] 100 g) (addT lb (m : Int) cm) ∧ (addT la (k : Int) ck).length ≤ k + 1 ∧ (addT lb (m : Int) cm).length ≤ k + 1 + 1) := by
          obtain ⟨s1, s2, s3, s4⟩ := HS.out
          obtain ⟨k1, k2, k3⟩ := HK.out
          refine ⟨s1.up (Nat.zero_le _) k1 (by simp [tIds]), ?_, Nat.le_trans addT_len (by omega), Nat.le_trans addT_len (by omega)⟩
          have e2 : n - k = m + 1 := by omega
          have e3 : n - (k + 1) = m := by omega
          rw [e3]
          rw [e2] at s2
          exact s2.down (by omega) k2 (one_ids (by have := HN.out.2; omega))
        clear HS HK HLT HD
        go_wp2
        go_roundg (n - (k + 1))
        case measure => omega
        case rel => exact ⟨k + 1, _, _, _, _, by omega, by go_num, ⟨_, rfl⟩, HB7, HT7, HS7⟩
      · have hltz : ¬ (k : Int) < (n : Int) := by omega
        obtain rfl : k = n := by omega
        have hcall := rem_c 100 B2 lb Sb' wr (by decide) HT.out.b.at_
        go_wp2_with fail
        (with_reducible refine hcall.mono ?_)
        rintro e w8 ⟨S8, rfl, q1, q2, q3⟩
        obtain ⟨hT8, hb8⟩ := HT.out.stepB HB.out.size q1 q2 q3
        have HT8 := Lib.hid hT8
        have HB8 := Lib.hid (HB.out.trans hb8)
        clear q1 q2 q3 hT8 hb8 hcall HT HB
        obtain ⟨lr, hlr⟩ : ∃ lr, remT lb 100 = lr := ⟨_, rfl⟩
        have hsame : (∀ p, p ∈ la ↔ p ∈ lr) ∧ lr.length ≤ k + 1 := by
          obtain ⟨s1, s2, s3, s4⟩ := HS.out
          rw [Nat.sub_self] at s2
          have hg := s2.gone (x := 100) (by have := HN.out.2; omega)
          have hg2 : HsT L 0 k [] lr := by rw [← hlr]; exact hg
          exact ⟨s1.same hg2, by rw [← hlr]; exact Nat.le_trans (remT_len _ _) s4⟩
        rw [hlr] at HT8
        have HLA : Hid (la.length ≤ 1099511627776) := by have h1 := HS.out.2.2.1; have := HN.out.2; show la.length ≤ _; omega
        have HLB : Hid (lr.length ≤ 1099511627776) := by have h1 := hsame.2; have := HN.out.2; show lr.length ≤ _; omega
        have HEQ : Hid (mtT la hh hl = mtT lr hh hl ∧ ovS la c = ovS lr c ∧ la.length = lr.length) := ⟨mtT_same hsame.1 hh hl, by unfold ovS; rw [ovT_same hsame.1 c], HT8.out.a.at_.tok.len HT8.out.b.at_.tok hsame.1⟩
        clear hsame hlr HS hltz hlt
        generalize hlb : lr = lb2 at *
        clear hlb
        go_upto_region 14 with (fail)
        have HKP : Hid (∀ W, Below wb.heap.size wb W → (Below wb.heap.size wb W ∧ W.cell? ⟨bh, 0, none⟩ = some (.int .u64 (uv hh)) ∧ W.cell? ⟨bh, 1, none⟩ = some (.int .u64 (uv hl)) ∧ W.cell? ⟨bc, 0, none⟩ = some (.int .u64 (uv c.vh)) ∧ W.cell? ⟨bc, 1, none⟩ = some (.int .u64 (uv c.vl)) ∧ W.cell? ⟨bc, 2, none⟩ = some (.int .u64 (uv c.ch)) ∧ W.cell? ⟨bc, 3, none⟩ = some (.int .u64 (uv c.cl)))) := fun W hb => ⟨hb, ((HH.out.on hb).cell 0).trans rfl, ((HH.out.on hb).cell 1).trans rfl, ((HC.out.on hb).cell 0).trans rfl, ((HC.out.on hb).cell 1).trans rfl, ((HC.out.on hb).cell 2).trans rfl, ((HC.out.on hb).cell 3).trans rfl⟩
        refine wp_region_held_drew (S := fun w' => Below wb.heap.size wb w' ∧ w'.cell? ⟨bh, 0, none⟩ = some (.int .u64 (uv hh)) ∧ w'.cell? ⟨bh, 1, none⟩ = some (.int .u64 (uv hl)) ∧ w'.cell? ⟨bc, 0, none⟩ = some (.int .u64 (uv c.vh)) ∧ w'.cell? ⟨bc, 1, none⟩ = some (.int .u64 (uv c.vl)) ∧ w'.cell? ⟨bc, 2, none⟩ = some (.int .u64 (uv c.ch)) ∧ w'.cell? ⟨bc, 3, none⟩ = some (.int .u64 (uv c.cl))) (by kernel_rfl) (HKP.out _ HB8.out.drew) (fun hHeld => ?_)
        have hB := HB8.out.drew
        have tT := HT8.out.on ((Below.refl w8.heap.size w8).drew)
        clear HT8 HB8
        generalize w8.drew = u0 at hHeld hB tT ⊢
        refine wpAnyH_take (i := 0) (oi := ⟨some 60, _, _, _, _, _⟩) (v := ?vta0_1) rfl (by kernel_rfl) (by kernel_rfl) (by kernel_rfl) (fun _ _ _ h => h) (Or.inl ⟨by rfl, ?yta0_1⟩) hHeld ?rta0_1
        case yta0_1 => (intro w' hSw; (try dsimp only at hSw); go_simp; try (with_reducible rfl))
        simp only [Act.put, List.setIfInBounds_toArray, List.set_cons_zero, List.set_cons_succ]
        refine wpAnyH_take (i := 1) (oi := ⟨some 61, _, _, _, _, _⟩) (v := ?vta1_2) rfl (by kernel_rfl) (by kernel_rfl) (by kernel_rfl) (fun _ _ _ h => h) (Or.inl ⟨by rfl, ?yta1_2⟩) hHeld ?rta1_2
        case yta1_2 => (intro w' hSw; (try dsimp only at hSw); go_simp; try (with_reducible rfl))
        simp only [Act.put, List.setIfInBounds_toArray, List.set_cons_zero, List.set_cons_succ]
        refine wpAnyH_take (i := 3) (oi := ⟨some 63, _, _, _, _, _⟩) (v := ?vta3_3) rfl (by kernel_rfl) (by kernel_rfl) (by kernel_rfl) (fun _ _ _ h => h) (Or.inl ⟨by rfl, ?yta3_3⟩) hHeld ?rta3_3
        case yta3_3 => (intro w' hSw; (try dsimp only at hSw); go_simp; try (with_reducible rfl))
        simp only [Act.put, List.setIfInBounds_toArray, List.set_cons_zero, List.set_cons_succ]
        refine wpAnyH_take (i := 4) (oi := ⟨some 64, _, _, _, _, _⟩) (v := ?vta4_4) rfl (by kernel_rfl) (by kernel_rfl) (by kernel_rfl) (fun _ _ _ h => h) (Or.inl ⟨by rfl, ?yta4_4⟩) hHeld ?rta4_4
        case yta4_4 => (intro w' hSw; (try dsimp only at hSw); go_simp; try (with_reducible rfl))
        simp only [Act.put, List.setIfInBounds_toArray, List.set_cons_zero, List.set_cons_succ]
        refine wpAnyH_ready (rs := [2]) (by kernel_rfl) (by simp) ?_
        refine AllReadyH.cons (o := ⟨some 62, _, _, _, _, _⟩) rfl (fun K hK => ?_) AllReadyH.nil
        go_simp
        (with_reducible refine (match_c hh hl B1 la Sa' u0 HLA.out tT.a.at_).mono ?_)
        rintro e u1 ⟨v1, rfl, hv1, hb⟩
        (try dsimp only)
        have hB2 := hB.trans (hb.mono hB.size)
        refine hK.out _ _ (HKP.out _ hB2) (fun hNext => ?_)
        clear hK K hHeld
        have hHeld := hNext
        clear hNext
        clear hB
        have hB := hB2
        clear hB2
        replace tT := tT.on hb
        have n1 := own_Nm hv1
        clear hv1
        clear hb
        try simp only [Act.put, List.setIfInBounds_toArray, List.set_cons_zero, List.set_cons_succ]
        refine wpAnyH_ready (rs := [5]) (by kernel_rfl) (by simp) ?_
        refine AllReadyH.cons (o := ⟨some 65, _, _, _, _, _⟩) rfl (fun K hK => ?_) AllReadyH.nil
        go_simp
        (with_reducible refine (match_c hh hl B2 lb2 S8 u1 HLB.out tT.b.at_).mono ?_)
        rintro e u2 ⟨v2, rfl, hv2, hb⟩
        (try dsimp only)
        have hB2 := hB.trans (hb.mono hB.size)
        refine hK.out _ _ (HKP.out _ hB2) (fun hNext => ?_)
        clear hK K hHeld
        have hHeld := hNext
        clear hNext
        clear hB
        have hB := hB2
        clear hB2
        replace tT := tT.on hb
        replace n1 := n1.on hb
        have n2 := own_Nm hv2
        clear hv2
        clear hb
        try simp only [Act.put, List.setIfInBounds_toArray, List.set_cons_zero, List.set_cons_succ]
        refine wpAnyH_ready (rs := [6]) (by kernel_rfl) (by simp) ?_
        refine AllReadyH.cons (o := ⟨some 66, _, _, _, _, _⟩) rfl (fun K hK => ?_) AllReadyH.nil
        go_simp
        (with_reducible refine (rint_same _ _ _ _ u2 HEQ.out.1 (Nat.le_trans (mtT_len _ _ _) (Nat.le_trans HLA.out (by omega))) n1 n2).mono ?_)
        rintro e u3 ⟨rfl, hb⟩
        (try dsimp only)
        have hB2 := hB.trans (hb.mono hB.size)
        refine hK.out _ _ (HKP.out _ hB2) (fun hNext => ?_)
        clear hK K hHeld
        have hHeld := hNext
        clear hNext
        clear hB
        have hB := hB2
        clear hB2
        replace tT := tT.on hb
        replace n1 := n1.on hb
        replace n2 := n2.on hb
        clear hb
        try simp only [Act.put, List.setIfInBounds_toArray, List.set_cons_zero, List.set_cons_succ]
        refine wpAnyH_take (i := 7) (oi := ⟨some 67, _, _, _, _, _⟩) (v := ?vta7_5) rfl (by kernel_rfl) (by kernel_rfl) (by kernel_rfl) (fun _ _ _ h => h) (Or.inl ⟨by rfl, ?yta7_5⟩) hHeld ?rta7_5
        case yta7_5 => (intro w' hSw; (try dsimp only at hSw); go_simp; try (with_reducible rfl))
        simp only [Act.put, List.setIfInBounds_toArray, List.set_cons_zero, List.set_cons_succ]
        refine wpAnyH_take (i := 8) (oi := ⟨some 68, _, _, _, _, _⟩) (v := ?vta8_6) rfl (by kernel_rfl) (by kernel_rfl) (by kernel_rfl) (fun _ _ _ h => h) (Or.inl ⟨by rfl, ?yta8_6⟩) hHeld ?rta8_6
        case yta8_6 => (intro w' hSw; (try dsimp only at hSw); go_simp; try (with_reducible rfl))
        simp only [Act.put, List.setIfInBounds_toArray, List.set_cons_zero, List.set_cons_succ]
        refine wpAnyH_take (i := 9) (oi := ⟨some 69, _, _, _, _, _⟩) (v := ?vta9_7) rfl (by kernel_rfl) (by kernel_rfl) (by kernel_rfl) (fun _ _ _ h => h) (Or.inl ⟨by rfl, ?yta9_7⟩) hHeld ?rta9_7
        case yta9_7 => (intro w' hSw; (try dsimp only at hSw); go_simp; try (with_reducible rfl))
        simp only [Act.put, List.setIfInBounds_toArray, List.set_cons_zero, List.set_cons_succ]
        refine wpAnyH_take (i := 11) (oi := ⟨some 71, _, _, _, _, _⟩) (v := ?vta11_8) rfl (by kernel_rfl) (by kernel_rfl) (by kernel_rfl) (fun _ _ _ h => h) (Or.inl ⟨by rfl, ?yta11_8⟩) hHeld ?rta11_8
        case yta11_8 => (intro w' hSw; (try dsimp only at hSw); go_simp; try (with_reducible rfl))
        simp only [Act.put, List.setIfInBounds_toArray, List.set_cons_zero, List.set_cons_succ]
        refine wpAnyH_take (i := 12) (oi := ⟨some 72, _, _, _, _, _⟩) (v := ?vta12_9) rfl (by kernel_rfl) (by kernel_rfl) (by kernel_rfl) (fun _ _ _ h => h) (Or.inl ⟨by rfl, ?yta12_9⟩) hHeld ?rta12_9
        case yta12_9 => (intro w' hSw; (try dsimp only at hSw); go_simp; try (with_reducible rfl))
        simp only [Act.put, List.setIfInBounds_toArray, List.set_cons_zero, List.set_cons_succ]
        refine wpAnyH_ready (rs := [10]) (by kernel_rfl) (by simp) ?_
        refine AllReadyH.cons (o := ⟨some 70, _, _, _, _, _⟩) rfl (fun K hK => ?_) AllReadyH.nil
        go_simp
        (with_reducible refine (ov_c c B1 la Sa' u3 HLA.out tT.a.at_).mono ?_)
        rintro e u4 ⟨v3, rfl, hv3, hb⟩
        (try dsimp only)
        have hB2 := hB.trans (hb.mono hB.size)
        refine hK.out _ _ (HKP.out _ hB2) (fun hNext => ?_)
        clear hK K hHeld
        have hHeld := hNext
        clear hNext
        clear hB
        have hB := hB2
        clear hB2
        replace tT := tT.on hb
        replace n1 := n1.on hb
        replace n2 := n2.on hb
        have n3 := own_Nm hv3
        clear hv3
        clear hb
        try simp only [Act.put, List.setIfInBounds_toArray, List.set_cons_zero, List.set_cons_succ]
        refine wpAnyH_ready (rs := [13]) (by kernel_rfl) (by simp) ?_
        refine AllReadyH.cons (o := ⟨some 73, _, _, _, _, _⟩) rfl (fun K hK => ?_) AllReadyH.nil
        go_simp
        (with_reducible refine (ov_c c B2 lb2 S8 u4 HLB.out tT.b.at_).mono ?_)
        rintro e u5 ⟨v4, rfl, hv4, hb⟩
        (try dsimp only)
        have hB2 := hB.trans (hb.mono hB.size)
        refine hK.out _ _ (HKP.out _ hB2) (fun hNext => ?_)
        clear hK K hHeld
        have hHeld := hNext
        clear hNext
        clear hB
        have hB := hB2
        clear hB2
        replace tT := tT.on hb
        replace n1 := n1.on hb
        replace n2 := n2.on hb
        replace n3 := n3.on hb
        have n4 := own_Nm hv4
        clear hv4
        clear hb
        try simp only [Act.put, List.setIfInBounds_toArray, List.set_cons_zero, List.set_cons_succ]
        refine wpAnyH_ready (rs := [14]) (by kernel_rfl) (by simp) ?_
        refine AllReadyH.cons (o := ⟨some 74, _, _, _, _, _⟩) rfl (fun K hK => ?_) AllReadyH.nil
        go_simp
        (with_reducible refine (rint_same _ _ _ _ u5 HEQ.out.2.1 (Nat.le_trans (ovS_len _ _) (Nat.le_trans HLA.out (by omega))) n3 n4).mono ?_)
        rintro e u6 ⟨rfl, hb⟩
        (try dsimp only)
        have hB2 := hB.trans (hb.mono hB.size)
        refine hK.out _ _ (HKP.out _ hB2) (fun hNext => ?_)
        clear hK K hHeld
        have hHeld := hNext
        clear hNext
        clear hB
        have hB := hB2
        clear hB2
        replace tT := tT.on hb
        replace n1 := n1.on hb
        replace n2 := n2.on hb
        replace n3 := n3.on hb
        replace n4 := n4.on hb
        clear hb
        try simp only [Act.put, List.setIfInBounds_toArray, List.set_cons_zero, List.set_cons_succ]
        refine wpAnyH_take (i := 15) (oi := ⟨some 75, _, _, _, _, _⟩) (v := ?vta15_10) rfl (by kernel_rfl) (by kernel_rfl) (by kernel_rfl) (fun _ _ _ h => h) (Or.inl ⟨by rfl, ?yta15_10⟩) hHeld ?rta15_10
        case yta15_10 => (intro w' hSw; (try dsimp only at hSw); go_simp; try (with_reducible rfl))
        simp only [Act.put, List.setIfInBounds_toArray, List.set_cons_zero, List.set_cons_succ]
        refine wpAnyH_take (i := 16) (oi := ⟨some 76, _, _, _, _, _⟩) (v := ?vta16_11) rfl (by kernel_rfl) (by kernel_rfl) (by kernel_rfl) (fun _ _ _ h => h) (Or.inl ⟨by rfl, ?yta16_11⟩) hHeld ?rta16_11
        case yta16_11 => (intro w' hSw; (try dsimp only at hSw); go_simp; try (with_reducible rfl))
        simp only [Act.put, List.setIfInBounds_toArray, List.set_cons_zero, List.set_cons_succ]
        refine wpAnyH_take (i := 17) (oi := ⟨some 77, _, _, _, _, _⟩) (v := ?vta17_12) rfl (by kernel_rfl) (by kernel_rfl) (by kernel_rfl) (fun _ _ _ h => h) (Or.inl ⟨by rfl, ?yta17_12⟩) hHeld ?rta17_12
        case yta17_12 => (intro w' hSw; (try dsimp only at hSw); go_simp; try (with_reducible rfl))
        simp only [Act.put, List.setIfInBounds_toArray, List.set_cons_zero, List.set_cons_succ]
        refine wpAnyH_take (i := 19) (oi := ⟨some 79, _, _, _, _, _⟩) (v := ?vta19_13) rfl (by kernel_rfl) (by kernel_rfl) (by kernel_rfl) (fun _ _ _ h => h) (Or.inl ⟨by rfl, ?yta19_13⟩) hHeld ?rta19_13
        case yta19_13 => (intro w' hSw; (try dsimp only at hSw); go_simp; try (with_reducible rfl))
        simp only [Act.put, List.setIfInBounds_toArray, List.set_cons_zero, List.set_cons_succ]
        refine wpAnyH_ready (rs := [18]) (by kernel_rfl) (by simp) ?_
        refine AllReadyH.cons (o := ⟨some 78, _, _, _, _, _⟩) rfl (fun K hK => ?_) AllReadyH.nil
        go_simp
        (with_reducible refine (len_c B1 la Sa' u6 tT.a.at_).mono ?_)
        rintro e u7 ⟨rfl, rfl⟩
        (try dsimp only)
        refine hK.out _ _ hHeld (fun hNext => ?_)
        clear hK K hHeld
        have hHeld := hNext
        clear hNext
        try simp only [Act.put, List.setIfInBounds_toArray, List.set_cons_zero, List.set_cons_succ]
        refine wpAnyH_ready (rs := [20]) (by kernel_rfl) (by simp) ?_
        refine AllReadyH.cons (o := ⟨some 80, _, _, _, _, _⟩) rfl (fun K hK => ?_) AllReadyH.nil
        go_simp
        (with_reducible refine (len_c B2 lb2 S8 u7 tT.b.at_).mono ?_)
        rintro e u8 ⟨rfl, rfl⟩
        (try dsimp only)
        refine hK.out _ _ hHeld (fun hNext => ?_)
        clear hK K hHeld
        have hHeld := hNext
        clear hNext
        try simp only [Act.put, List.setIfInBounds_toArray, List.set_cons_zero, List.set_cons_succ]
        refine wpAnyH_take (i := 21) (oi := ⟨some 81, _, _, _, _, _⟩) (v := ?vta21_14) rfl (by kernel_rfl) (by kernel_rfl) (by kernel_rfl) (fun _ _ _ h => h) (Or.inl ⟨by rfl, ?yta21_14⟩) hHeld ?rta21_14
        case yta21_14 => (intro w' hSw; (try dsimp only at hSw); go_simp; try (with_reducible rfl))
        simp only [Act.put, List.setIfInBounds_toArray, List.set_cons_zero, List.set_cons_succ]
        refine wpAnyH_take (i := 22) (oi := ⟨some 82, _, _, _, _, _⟩) (v := ?vta22_15) rfl (by kernel_rfl) (by kernel_rfl) (by kernel_rfl) (fun _ _ _ h => h) (Or.inl ⟨by rfl, ?yta22_15⟩) hHeld ?rta22_15
        case yta22_15 => (intro w' hSw; (try dsimp only at hSw); go_simp; try (with_reducible rfl))
        simp only [Act.put, List.setIfInBounds_toArray, List.set_cons_zero, List.set_cons_succ]
        refine wpAnyH_take (i := 23) (oi := ⟨some 8, _, _, _, _, _⟩) (v := ?vta23_16) rfl (by kernel_rfl) (by kernel_rfl) (by kernel_rfl) (fun _ _ _ h => h) (Or.inl ⟨by rfl, ?yta23_16⟩) hHeld ?rta23_16
        case yta23_16 => (intro w' hSw; (try dsimp only at hSw); go_simp; try (with_reducible rfl))
        simp only [Act.put, List.setIfInBounds_toArray, List.set_cons_zero, List.set_cons_succ]
        refine wpAnyH_done (by kernel_rfl) ?_ _
        have hfin := hB
        clear hHeld tT n1 n2 n3 n4 hB
        go_wp2
        go_ret
        refine ⟨?_, HBW.out.trans (hfin.mono HBW.out.size)⟩
        rw [HEQ.out.2.2]
        simp
  · have hz : (40 : Int) < (cs.length : Int) := by omega
    have h40z : (40 : Int) ≤ (cap : Int) := by omega
    have ht := Pl.take HVV.out 40
    have e40 : (cs.take 40).length = 40 := by rw [List.length_take]; omega
    rw [e40] at ht
    have HV : Hid (cs.take 40 ≠ [] → ∃ b off, A = some ⟨b, off, none⟩ ∧ ∀ (k : Nat) (c : Cb), (cs.take 40)[k]? = some c → At4 wb b (off + k * 4) c) := fun h => by
      obtain ⟨A', cap', e, _, h2⟩ := ht.form
      obtain ⟨b, off, h3, _, h4⟩ := h2 h
      injection e with e1 _ _
      exact ⟨b, off, by rw [e1, h3], h4⟩
    have HNN := Lib.hid e40
    clear HVV hcap hmx ht e40
    go_upto_region 6 with (fail)
    clear hz h40z h40
    generalize hL : cs.take 40 = L at HV HNN
    clear hL
    obtain ⟨n, hn⟩ : ∃ n : Nat, 40 = n := ⟨_, rfl⟩
    rw [hn] at HNN
    have HN : Hid (L.length = n ∧ n ≤ 40) := ⟨HNN.out, by omega⟩
    have hnz : (n : Int) ≤ 40 := by omega
    simp only [hn]
    clear hn HNN hcz
    have hl0 := one_len g
    have hcall := add_c 100 g B2 [] Sb w4 (by decide) (by simp) HT.out.b.at_
    have x0 := ((HG.out.on HB.out).cell 0).trans rfl
    have x1 := ((HG.out.on HB.out).cell 1).trans rfl
    have x2 := ((HG.out.on HB.out).cell 2).trans rfl
    have x3 := ((HG.out.on HB.out).cell 3).trans rfl
    simp only [List.getElem?_toArray, List.getElem?_cons_succ, List.getElem?_cons_zero] at x0 x1 x2 x3
    go_wp2_with fail
    (with_reducible refine hcall.mono ?_)
    rintro e w5 ⟨S5, rfl, q1, q2, q3⟩
    obtain ⟨hT5, hb5⟩ := HT.out.stepB HB.out.size q1 q2 q3
    have HT5 := Lib.hid hT5
    have HB5 := Lib.hid (HB.out.trans hb5)
    clear q1 q2 q3 hT5 hb5 hcall x0 x1 x2 x3 HT HB
    have HL0 := Lib.hid hl0
    clear hl0
    go_wp2
    go_loopg [11, 12] n (fun gk s11 s12 wr => ∃ (k : Nat) (la lb : List (Int × Cb)) (Sa' Sb' : Nat → Prop), gk + k = n ∧ s11 = .int .i64 k ∧ (∃ x, s12 = x) ∧ Hid (Below wb.heap.size wb wr) ∧ Hid (Two wb.heap.size wr B1 B2 la lb Sa' Sb') ∧ Hid (HsT L 0 k [] la ∧ HsT L (n - k) n (addT [] 100 g) lb ∧ la.length ≤ k ∧ lb.length ≤ k + 1))
    case atStart => exact ⟨0, [], addT [] 100 g, Sa, S5, by omega, rfl, ⟨_, rfl⟩, HB5, HT5, ⟨HsT.start L 0 [], HsT.start L n _, by simp, HL0.out⟩⟩
    case round =>
      clear HT5 HB5
      obtain ⟨k, la, lb, Sa', Sb', hk, rfl, ⟨y12, rfl⟩, HB, HT, HS⟩ := hrel
      by_cases hlt : k < n
      · have hltz : (k : Int) < (n : Int) := by omega
        obtain ⟨m, hm⟩ : ∃ m, m + k + 1 = n := ⟨n - 1 - k, by omega⟩
        have e1 : (n : Int) - 1 - (k : Int) = (m : Int) := by omega
        have hmz : (m : Int) < (n : Int) := by omega
        obtain ⟨ck, hck⟩ : ∃ ck, L[k]? = some ck := ⟨_, List.getElem?_eq_getElem (by have := HN.out.1; omega)⟩
        obtain ⟨cm, hcm⟩ : ∃ cm, L[m]? = some cm := ⟨_, List.getElem?_eq_getElem (by have := HN.out.1; omega)⟩
        obtain ⟨b, off, rfl, hpc⟩ := HV.out (by intro e; rw [e] at hck; cases hck)
        obtain ⟨c0, c1, c2, c3⟩ := (hpc k ck hck).on HB.out
        have d := (hpc m cm hcm)
        have HD := Lib.hid d
        have hcall := add_c (k : Int) ck B1 la Sa' wr (wf_small (by omega) (by have := HN.out.2; omega)) (by have := HS.out.2.2.1; have := HN.out.2; omega) HT.out.a.at_
        have HK := Lib.hid (And.intro hck (And.intro hcm hm))
        have HLT := Lib.hid hlt
        clear hpc d hck hcm hm
        go_wp2_with fail
        (with_reducible refine hcall.mono ?_)
        rintro e w6 ⟨S6, rfl, q1, q2, q3⟩
        obtain ⟨hT6, hb6⟩ := HT.out.stepA HB.out.size q1 q2 q3
        have HT6 := Lib.hid hT6
        have HB6 := Lib.hid (HB.out.trans hb6)
        clear q1 q2 q3 hT6 hb6 hcall c0 c1 c2 c3 HT HB
        have hcall := add_c (m : Int) cm B2 lb Sb' w6 (wf_small (by omega) (by have := HN.out.2; omega)) (by have := HS.out.2.2.2; have := HN.out.2; omega) HT6.out.b.at_
        obtain ⟨c0, c1, c2, c3⟩ := HD.out.on HB6.out
        go_wp2_with fail
        (with_reducible refine hcall.mono ?_)
        rintro e w7 ⟨S7, rfl, q1, q2, q3⟩
        obtain ⟨hT7, hb7⟩ := HT6.out.stepB HB6.out.size q1 q2 q3
        have HT7 := Lib.hid hT7
        have HB7 := Lib.hid (HB6.out.trans hb7)
        clear q1 q2 q3 hT7 hb7 hcall c0 c1 c2 c3 HT6 HB6
        have HS7 : Hid (HsT L 0 (k + 1) [] (addT la (k : Int) ck) ∧ HsT L (n - (k + 1)) n (addT [] 100 g) (addT lb (m : Int) cm) ∧ (addT la (k : Int) ck).length ≤ k + 1 ∧ (addT lb (m : Int) cm).length ≤ k + 1 + 1) := by
          obtain ⟨s1, s2, s3, s4⟩ := HS.out
          obtain ⟨k1, k2, k3⟩ := HK.out
          refine ⟨s1.up (Nat.zero_le _) k1 (by simp [tIds]), ?_, Nat.le_trans addT_len (by omega), Nat.le_trans addT_len (by omega)⟩
          have e2 : n - k = m + 1 := by omega
          have e3 : n - (k + 1) = m := by omega
          rw [e3]
          rw [e2] at s2
          exact s2.down (by omega) k2 (one_ids (by have := HN.out.2; omega))
        clear HS HK HLT HD
        go_wp2
        go_roundg (n - (k + 1))
        case measure => omega
        case rel => exact ⟨k + 1, _, _, _, _, by omega, by go_num, ⟨_, rfl⟩, HB7, HT7, HS7⟩
      · have hltz : ¬ (k : Int) < (n : Int) := by omega
        obtain rfl : k = n := by omega
        have hcall := rem_c 100 B2 lb Sb' wr (by decide) HT.out.b.at_
        go_wp2_with fail
        (with_reducible refine hcall.mono ?_)
        rintro e w8 ⟨S8, rfl, q1, q2, q3⟩
        obtain ⟨hT8, hb8⟩ := HT.out.stepB HB.out.size q1 q2 q3
        have HT8 := Lib.hid hT8
        have HB8 := Lib.hid (HB.out.trans hb8)
        clear q1 q2 q3 hT8 hb8 hcall HT HB
        obtain ⟨lr, hlr⟩ : ∃ lr, remT lb 100 = lr := ⟨_, rfl⟩
        have hsame : (∀ p, p ∈ la ↔ p ∈ lr) ∧ lr.length ≤ k + 1 := by
          obtain ⟨s1, s2, s3, s4⟩ := HS.out
          rw [Nat.sub_self] at s2
          have hg := s2.gone (x := 100) (by have := HN.out.2; omega)
          have hg2 : HsT L 0 k [] lr := by rw [← hlr]; exact hg
          exact ⟨s1.same hg2, by rw [← hlr]; exact Nat.le_trans (remT_len _ _) s4⟩
        rw [hlr] at HT8
        have HLA : Hid (la.length ≤ 1099511627776) := by have h1 := HS.out.2.2.1; have := HN.out.2; show la.length ≤ _; omega
        have HLB : Hid (lr.length ≤ 1099511627776) := by have h1 := hsame.2; have := HN.out.2; show lr.length ≤ _; omega
        have HEQ : Hid (mtT la hh hl = mtT lr hh hl ∧ ovS la c = ovS lr c ∧ la.length = lr.length) := ⟨mtT_same hsame.1 hh hl, by unfold ovS; rw [ovT_same hsame.1 c], HT8.out.a.at_.tok.len HT8.out.b.at_.tok hsame.1⟩
        clear hsame hlr HS hltz hlt
        generalize hlb : lr = lb2 at *
        clear hlb
        go_upto_region 14 with (fail)
        have HKP : Hid (∀ W, Below wb.heap.size wb W → (Below wb.heap.size wb W ∧ W.cell? ⟨bh, 0, none⟩ = some (.int .u64 (uv hh)) ∧ W.cell? ⟨bh, 1, none⟩ = some (.int .u64 (uv hl)) ∧ W.cell? ⟨bc, 0, none⟩ = some (.int .u64 (uv c.vh)) ∧ W.cell? ⟨bc, 1, none⟩ = some (.int .u64 (uv c.vl)) ∧ W.cell? ⟨bc, 2, none⟩ = some (.int .u64 (uv c.ch)) ∧ W.cell? ⟨bc, 3, none⟩ = some (.int .u64 (uv c.cl)))) := fun W hb => ⟨hb, ((HH.out.on hb).cell 0).trans rfl, ((HH.out.on hb).cell 1).trans rfl, ((HC.out.on hb).cell 0).trans rfl, ((HC.out.on hb).cell 1).trans rfl, ((HC.out.on hb).cell 2).trans rfl, ((HC.out.on hb).cell 3).trans rfl⟩
        refine wp_region_held_drew (S := fun w' => Below wb.heap.size wb w' ∧ w'.cell? ⟨bh, 0, none⟩ = some (.int .u64 (uv hh)) ∧ w'.cell? ⟨bh, 1, none⟩ = some (.int .u64 (uv hl)) ∧ w'.cell? ⟨bc, 0, none⟩ = some (.int .u64 (uv c.vh)) ∧ w'.cell? ⟨bc, 1, none⟩ = some (.int .u64 (uv c.vl)) ∧ w'.cell? ⟨bc, 2, none⟩ = some (.int .u64 (uv c.ch)) ∧ w'.cell? ⟨bc, 3, none⟩ = some (.int .u64 (uv c.cl))) (by kernel_rfl) (HKP.out _ HB8.out.drew) (fun hHeld => ?_)
        have hB := HB8.out.drew
        have tT := HT8.out.on ((Below.refl w8.heap.size w8).drew)
        clear HT8 HB8
        generalize w8.drew = u0 at hHeld hB tT ⊢
        refine wpAnyH_take (i := 0) (oi := ⟨some 60, _, _, _, _, _⟩) (v := ?vtb0_1) rfl (by kernel_rfl) (by kernel_rfl) (by kernel_rfl) (fun _ _ _ h => h) (Or.inl ⟨by rfl, ?ytb0_1⟩) hHeld ?rtb0_1
        case ytb0_1 => (intro w' hSw; (try dsimp only at hSw); go_simp; try (with_reducible rfl))
        simp only [Act.put, List.setIfInBounds_toArray, List.set_cons_zero, List.set_cons_succ]
        refine wpAnyH_take (i := 1) (oi := ⟨some 61, _, _, _, _, _⟩) (v := ?vtb1_2) rfl (by kernel_rfl) (by kernel_rfl) (by kernel_rfl) (fun _ _ _ h => h) (Or.inl ⟨by rfl, ?ytb1_2⟩) hHeld ?rtb1_2
        case ytb1_2 => (intro w' hSw; (try dsimp only at hSw); go_simp; try (with_reducible rfl))
        simp only [Act.put, List.setIfInBounds_toArray, List.set_cons_zero, List.set_cons_succ]
        refine wpAnyH_take (i := 3) (oi := ⟨some 63, _, _, _, _, _⟩) (v := ?vtb3_3) rfl (by kernel_rfl) (by kernel_rfl) (by kernel_rfl) (fun _ _ _ h => h) (Or.inl ⟨by rfl, ?ytb3_3⟩) hHeld ?rtb3_3
        case ytb3_3 => (intro w' hSw; (try dsimp only at hSw); go_simp; try (with_reducible rfl))
        simp only [Act.put, List.setIfInBounds_toArray, List.set_cons_zero, List.set_cons_succ]
        refine wpAnyH_take (i := 4) (oi := ⟨some 64, _, _, _, _, _⟩) (v := ?vtb4_4) rfl (by kernel_rfl) (by kernel_rfl) (by kernel_rfl) (fun _ _ _ h => h) (Or.inl ⟨by rfl, ?ytb4_4⟩) hHeld ?rtb4_4
        case ytb4_4 => (intro w' hSw; (try dsimp only at hSw); go_simp; try (with_reducible rfl))
        simp only [Act.put, List.setIfInBounds_toArray, List.set_cons_zero, List.set_cons_succ]
        refine wpAnyH_ready (rs := [2]) (by kernel_rfl) (by simp) ?_
        refine AllReadyH.cons (o := ⟨some 62, _, _, _, _, _⟩) rfl (fun K hK => ?_) AllReadyH.nil
        go_simp
        (with_reducible refine (match_c hh hl B1 la Sa' u0 HLA.out tT.a.at_).mono ?_)
        rintro e u1 ⟨v1, rfl, hv1, hb⟩
        (try dsimp only)
        have hB2 := hB.trans (hb.mono hB.size)
        refine hK.out _ _ (HKP.out _ hB2) (fun hNext => ?_)
        clear hK K hHeld
        have hHeld := hNext
        clear hNext
        clear hB
        have hB := hB2
        clear hB2
        replace tT := tT.on hb
        have n1 := own_Nm hv1
        clear hv1
        clear hb
        try simp only [Act.put, List.setIfInBounds_toArray, List.set_cons_zero, List.set_cons_succ]
        refine wpAnyH_ready (rs := [5]) (by kernel_rfl) (by simp) ?_
        refine AllReadyH.cons (o := ⟨some 65, _, _, _, _, _⟩) rfl (fun K hK => ?_) AllReadyH.nil
        go_simp
        (with_reducible refine (match_c hh hl B2 lb2 S8 u1 HLB.out tT.b.at_).mono ?_)
        rintro e u2 ⟨v2, rfl, hv2, hb⟩
        (try dsimp only)
        have hB2 := hB.trans (hb.mono hB.size)
        refine hK.out _ _ (HKP.out _ hB2) (fun hNext => ?_)
        clear hK K hHeld
        have hHeld := hNext
        clear hNext
        clear hB
        have hB := hB2
        clear hB2
        replace tT := tT.on hb
        replace n1 := n1.on hb
        have n2 := own_Nm hv2
        clear hv2
        clear hb
        try simp only [Act.put, List.setIfInBounds_toArray, List.set_cons_zero, List.set_cons_succ]
        refine wpAnyH_ready (rs := [6]) (by kernel_rfl) (by simp) ?_
        refine AllReadyH.cons (o := ⟨some 66, _, _, _, _, _⟩) rfl (fun K hK => ?_) AllReadyH.nil
        go_simp
        (with_reducible refine (rint_same _ _ _ _ u2 HEQ.out.1 (Nat.le_trans (mtT_len _ _ _) (Nat.le_trans HLA.out (by omega))) n1 n2).mono ?_)
        rintro e u3 ⟨rfl, hb⟩
        (try dsimp only)
        have hB2 := hB.trans (hb.mono hB.size)
        refine hK.out _ _ (HKP.out _ hB2) (fun hNext => ?_)
        clear hK K hHeld
        have hHeld := hNext
        clear hNext
        clear hB
        have hB := hB2
        clear hB2
        replace tT := tT.on hb
        replace n1 := n1.on hb
        replace n2 := n2.on hb
        clear hb
        try simp only [Act.put, List.setIfInBounds_toArray, List.set_cons_zero, List.set_cons_succ]
        refine wpAnyH_take (i := 7) (oi := ⟨some 67, _, _, _, _, _⟩) (v := ?vtb7_5) rfl (by kernel_rfl) (by kernel_rfl) (by kernel_rfl) (fun _ _ _ h => h) (Or.inl ⟨by rfl, ?ytb7_5⟩) hHeld ?rtb7_5
        case ytb7_5 => (intro w' hSw; (try dsimp only at hSw); go_simp; try (with_reducible rfl))
        simp only [Act.put, List.setIfInBounds_toArray, List.set_cons_zero, List.set_cons_succ]
        refine wpAnyH_take (i := 8) (oi := ⟨some 68, _, _, _, _, _⟩) (v := ?vtb8_6) rfl (by kernel_rfl) (by kernel_rfl) (by kernel_rfl) (fun _ _ _ h => h) (Or.inl ⟨by rfl, ?ytb8_6⟩) hHeld ?rtb8_6
        case ytb8_6 => (intro w' hSw; (try dsimp only at hSw); go_simp; try (with_reducible rfl))
        simp only [Act.put, List.setIfInBounds_toArray, List.set_cons_zero, List.set_cons_succ]
        refine wpAnyH_take (i := 9) (oi := ⟨some 69, _, _, _, _, _⟩) (v := ?vtb9_7) rfl (by kernel_rfl) (by kernel_rfl) (by kernel_rfl) (fun _ _ _ h => h) (Or.inl ⟨by rfl, ?ytb9_7⟩) hHeld ?rtb9_7
        case ytb9_7 => (intro w' hSw; (try dsimp only at hSw); go_simp; try (with_reducible rfl))
        simp only [Act.put, List.setIfInBounds_toArray, List.set_cons_zero, List.set_cons_succ]
        refine wpAnyH_take (i := 11) (oi := ⟨some 71, _, _, _, _, _⟩) (v := ?vtb11_8) rfl (by kernel_rfl) (by kernel_rfl) (by kernel_rfl) (fun _ _ _ h => h) (Or.inl ⟨by rfl, ?ytb11_8⟩) hHeld ?rtb11_8
        case ytb11_8 => (intro w' hSw; (try dsimp only at hSw); go_simp; try (with_reducible rfl))
        simp only [Act.put, List.setIfInBounds_toArray, List.set_cons_zero, List.set_cons_succ]
        refine wpAnyH_take (i := 12) (oi := ⟨some 72, _, _, _, _, _⟩) (v := ?vtb12_9) rfl (by kernel_rfl) (by kernel_rfl) (by kernel_rfl) (fun _ _ _ h => h) (Or.inl ⟨by rfl, ?ytb12_9⟩) hHeld ?rtb12_9
        case ytb12_9 => (intro w' hSw; (try dsimp only at hSw); go_simp; try (with_reducible rfl))
        simp only [Act.put, List.setIfInBounds_toArray, List.set_cons_zero, List.set_cons_succ]
        refine wpAnyH_ready (rs := [10]) (by kernel_rfl) (by simp) ?_
        refine AllReadyH.cons (o := ⟨some 70, _, _, _, _, _⟩) rfl (fun K hK => ?_) AllReadyH.nil
        go_simp
        (with_reducible refine (ov_c c B1 la Sa' u3 HLA.out tT.a.at_).mono ?_)
        rintro e u4 ⟨v3, rfl, hv3, hb⟩
        (try dsimp only)
        have hB2 := hB.trans (hb.mono hB.size)
        refine hK.out _ _ (HKP.out _ hB2) (fun hNext => ?_)
        clear hK K hHeld
        have hHeld := hNext
        clear hNext
        clear hB
        have hB := hB2
        clear hB2
        replace tT := tT.on hb
        replace n1 := n1.on hb
        replace n2 := n2.on hb
        have n3 := own_Nm hv3
        clear hv3
        clear hb
        try simp only [Act.put, List.setIfInBounds_toArray, List.set_cons_zero, List.set_cons_succ]
        refine wpAnyH_ready (rs := [13]) (by kernel_rfl) (by simp) ?_
        refine AllReadyH.cons (o := ⟨some 73, _, _, _, _, _⟩) rfl (fun K hK => ?_) AllReadyH.nil
        go_simp
        (with_reducible refine (ov_c c B2 lb2 S8 u4 HLB.out tT.b.at_).mono ?_)
        rintro e u5 ⟨v4, rfl, hv4, hb⟩
        (try dsimp only)
        have hB2 := hB.trans (hb.mono hB.size)
        refine hK.out _ _ (HKP.out _ hB2) (fun hNext => ?_)
        clear hK K hHeld
        have hHeld := hNext
        clear hNext
        clear hB
        have hB := hB2
        clear hB2
        replace tT := tT.on hb
        replace n1 := n1.on hb
        replace n2 := n2.on hb
        replace n3 := n3.on hb
        have n4 := own_Nm hv4
        clear hv4
        clear hb
        try simp only [Act.put, List.setIfInBounds_toArray, List.set_cons_zero, List.set_cons_succ]
        refine wpAnyH_ready (rs := [14]) (by kernel_rfl) (by simp) ?_
        refine AllReadyH.cons (o := ⟨some 74, _, _, _, _, _⟩) rfl (fun K hK => ?_) AllReadyH.nil
        go_simp
        (with_reducible refine (rint_same _ _ _ _ u5 HEQ.out.2.1 (Nat.le_trans (ovS_len _ _) (Nat.le_trans HLA.out (by omega))) n3 n4).mono ?_)
        rintro e u6 ⟨rfl, hb⟩
        (try dsimp only)
        have hB2 := hB.trans (hb.mono hB.size)
        refine hK.out _ _ (HKP.out _ hB2) (fun hNext => ?_)
        clear hK K hHeld
        have hHeld := hNext
        clear hNext
        clear hB
        have hB := hB2
        clear hB2
        replace tT := tT.on hb
        replace n1 := n1.on hb
        replace n2 := n2.on hb
        replace n3 := n3.on hb
        replace n4 := n4.on hb
        clear hb
        try simp only [Act.put, List.setIfInBounds_toArray, List.set_cons_zero, List.set_cons_succ]
        refine wpAnyH_take (i := 15) (oi := ⟨some 75, _, _, _, _, _⟩) (v := ?vtb15_10) rfl (by kernel_rfl) (by kernel_rfl) (by kernel_rfl) (fun _ _ _ h => h) (Or.inl ⟨by rfl, ?ytb15_10⟩) hHeld ?rtb15_10
        case ytb15_10 => (intro w' hSw; (try dsimp only at hSw); go_simp; try (with_reducible rfl))
        simp only [Act.put, List.setIfInBounds_toArray, List.set_cons_zero, List.set_cons_succ]
        refine wpAnyH_take (i := 16) (oi := ⟨some 76, _, _, _, _, _⟩) (v := ?vtb16_11) rfl (by kernel_rfl) (by kernel_rfl) (by kernel_rfl) (fun _ _ _ h => h) (Or.inl ⟨by rfl, ?ytb16_11⟩) hHeld ?rtb16_11
        case ytb16_11 => (intro w' hSw; (try dsimp only at hSw); go_simp; try (with_reducible rfl))
        simp only [Act.put, List.setIfInBounds_toArray, List.set_cons_zero, List.set_cons_succ]
        refine wpAnyH_take (i := 17) (oi := ⟨some 77, _, _, _, _, _⟩) (v := ?vtb17_12) rfl (by kernel_rfl) (by kernel_rfl) (by kernel_rfl) (fun _ _ _ h => h) (Or.inl ⟨by rfl, ?ytb17_12⟩) hHeld ?rtb17_12
        case ytb17_12 => (intro w' hSw; (try dsimp only at hSw); go_simp; try (with_reducible rfl))
        simp only [Act.put, List.setIfInBounds_toArray, List.set_cons_zero, List.set_cons_succ]
        refine wpAnyH_take (i := 19) (oi := ⟨some 79, _, _, _, _, _⟩) (v := ?vtb19_13) rfl (by kernel_rfl) (by kernel_rfl) (by kernel_rfl) (fun _ _ _ h => h) (Or.inl ⟨by rfl, ?ytb19_13⟩) hHeld ?rtb19_13
        case ytb19_13 => (intro w' hSw; (try dsimp only at hSw); go_simp; try (with_reducible rfl))
        simp only [Act.put, List.setIfInBounds_toArray, List.set_cons_zero, List.set_cons_succ]
        refine wpAnyH_ready (rs := [18]) (by kernel_rfl) (by simp) ?_
        refine AllReadyH.cons (o := ⟨some 78, _, _, _, _, _⟩) rfl (fun K hK => ?_) AllReadyH.nil
        go_simp
        (with_reducible refine (len_c B1 la Sa' u6 tT.a.at_).mono ?_)
        rintro e u7 ⟨rfl, rfl⟩
        (try dsimp only)
        refine hK.out _ _ hHeld (fun hNext => ?_)
        clear hK K hHeld
        have hHeld := hNext
        clear hNext
        try simp only [Act.put, List.setIfInBounds_toArray, List.set_cons_zero, List.set_cons_succ]
        refine wpAnyH_ready (rs := [20]) (by kernel_rfl) (by simp) ?_
        refine AllReadyH.cons (o := ⟨some 80, _, _, _, _, _⟩) rfl (fun K hK => ?_) AllReadyH.nil
        go_simp
        (with_reducible refine (len_c B2 lb2 S8 u7 tT.b.at_).mono ?_)
        rintro e u8 ⟨rfl, rfl⟩
        (try dsimp only)
        refine hK.out _ _ hHeld (fun hNext => ?_)
        clear hK K hHeld
        have hHeld := hNext
        clear hNext
        try simp only [Act.put, List.setIfInBounds_toArray, List.set_cons_zero, List.set_cons_succ]
        refine wpAnyH_take (i := 21) (oi := ⟨some 81, _, _, _, _, _⟩) (v := ?vtb21_14) rfl (by kernel_rfl) (by kernel_rfl) (by kernel_rfl) (fun _ _ _ h => h) (Or.inl ⟨by rfl, ?ytb21_14⟩) hHeld ?rtb21_14
        case ytb21_14 => (intro w' hSw; (try dsimp only at hSw); go_simp; try (with_reducible rfl))
        simp only [Act.put, List.setIfInBounds_toArray, List.set_cons_zero, List.set_cons_succ]
        refine wpAnyH_take (i := 22) (oi := ⟨some 82, _, _, _, _, _⟩) (v := ?vtb22_15) rfl (by kernel_rfl) (by kernel_rfl) (by kernel_rfl) (fun _ _ _ h => h) (Or.inl ⟨by rfl, ?ytb22_15⟩) hHeld ?rtb22_15
        case ytb22_15 => (intro w' hSw; (try dsimp only at hSw); go_simp; try (with_reducible rfl))
        simp only [Act.put, List.setIfInBounds_toArray, List.set_cons_zero, List.set_cons_succ]
        refine wpAnyH_take (i := 23) (oi := ⟨some 8, _, _, _, _, _⟩) (v := ?vtb23_16) rfl (by kernel_rfl) (by kernel_rfl) (by kernel_rfl) (fun _ _ _ h => h) (Or.inl ⟨by rfl, ?ytb23_16⟩) hHeld ?rtb23_16
        case ytb23_16 => (intro w' hSw; (try dsimp only at hSw); go_simp; try (with_reducible rfl))
        simp only [Act.put, List.setIfInBounds_toArray, List.set_cons_zero, List.set_cons_succ]
        refine wpAnyH_done (by kernel_rfl) ?_ _
        have hfin := hB
        clear hHeld tT n1 n2 n3 n4 hB
        go_wp2
        go_ret
        refine ⟨?_, HBW.out.trans (hfin.mono HBW.out.size)⟩
        rw [HEQ.out.2.2]
        simp
end Go.Proofs

namespace Go.Proofs.Ytgoieipchhamgaa
open Go.ChangeShapes Go.WideShapes Go.ChangeAt Go.RowKit Go.Joins Go.Proofs.Hd

theorem laidOut_tor : laidOutB Try.prog = true := by kernel_rfl
set_option maxRecDepth 100000 in
theorem tor_lifted (os : Os) (started : os.Started) (H : Type) (enc : TypeId × Value → H) :
    ReturnsInHanded {} Try.checked os 6 .any (Rows.trieOrderSpec.pre6 enc Try.prog Try.f6 Rows.trieOrderRow.domain false) (Rows.trieOrderSpec.post enc Try.prog Try.f6 false true false false) := by
  refine returnsInHanded_of_change (C := Try.checked) own started (by kernel_rfl) Try.func6
    (ChangeSpec.witness6 (enc := enc) (C := Try.checked) false ⟨#[], #[.slice none 0 0, .agg #[.int .u64 0, .int .u64 0, .int .u64 0, .int .u64 0], .agg #[.int .u64 0, .int .u64 0], .agg #[.int .u64 0, .int .u64 0, .int .u64 0, .int .u64 0]], []⟩ 8 (by kernel_rfl) (by kernel_rfl) (by kernel_rfl) (by kernel_rfl)) ?_
  intro W base args ds gs before hval0 hW hcnd _
  have hval : ∀ (j : Nat) t v, Try.f6.params[j]? = some t → args[j]? = some v → Value.okWide Try.prog W .any base t v := hval0
  have hW' := hW
  obtain ⟨p, q, hA0, hV, rfl, hfz, hnd⟩ := hW
  have hA : DataW.TrodAll enc Try.prog W 0 (fun _ => true) true Try.f6.params.toList args.toList ds p := hA0
  rw [Try.params6] at hA hval
  obtain ⟨v0, vs0, d0, ds0, p0, q0, hargs, rfl, rfl, h0, r0⟩ := trodAll_cons hA
  obtain ⟨v1, vs1, d1, ds1, p1, q1, rfl, rfl, rfl, h1, r1⟩ := trodAll_cons r0
  obtain ⟨v2, vs2, d2, ds2, p2, q2, rfl, rfl, rfl, h2, r2⟩ := trodAll_cons r1
  obtain ⟨v3, vs3, d3, ds3, p3, q3, rfl, rfl, rfl, h3, r3⟩ := trodAll_cons r2
  obtain ⟨rfl, rfl, rfl⟩ := trodAll_nil r3
  obtain rfl : args = #[v0, v1, v2, v3] := by cases args; simp_all
  obtain ⟨rfl, rfl⟩ := trodVars_none hV
  have k0 := h0
  have lt0 : ∀ x ∈ p0, x.block < W.heap.size := by obtain ⟨m, hm⟩ := k0; exact DataW.trod_lt m _ _ _ hm
  obtain ⟨pA, pc, pL, rfl, lp, mp, pp⟩ := open_pl (hval 0 48 v0 rfl rfl) h0
  obtain ⟨mvh, mvl, mch, mcl, rfl, rfl, rfl, s1⟩ := open_cube (hval 1 27 v1 rfl rfl) h1
  obtain ⟨hh, hl, rfl, rfl, rfl, s2⟩ := open_head (hval 2 25 v2 rfl rfl) h2
  obtain ⟨nvh, nvl, nch, ncl, rfl, rfl, rfl, s3⟩ := open_cube (hval 3 27 v3 rfl rfl) h3
  clear hA0 hval0
  refine (trorder_c _ pc pL ⟨mvh, mvl, mch, mcl⟩ hh hl ⟨nvh, nvl, nch, ncl⟩ W lp mp pp).mono fun e W' ⟨he, hg⟩ => ?_
  subst he
  exact ⟨_, rfl, _, _, _, [], _, [], hW', trodAll_mk1 (shut_bool Try.underlying4 _), (trodAll_cons_mk (Below.trod laidOut_tor (by kernel_rfl) (of_decide_eq_true (by kernel_rfl)) k0 hg lt0) (trodAll_cons_mk (s1 _ _) (trodAll_cons_mk (s2 _ _) (trodAll_cons_mk (s3 _ _) trodAll_mk0)))), rfl, hg.frame _, (fun h => by cases h)⟩

theorem tor_holds : Rows.TrieOrderSaid :=
  OpenClaim.holds_of_wide 6 Try.f6 rfl rfl rfl rfl rfl rfl rfl ⟨rfl, rfl, rfl, rfl, rfl⟩ rfl rfl rfl rfl rfl (by kernel_rfl) Try.func6 (by kernel_rfl)
    (of_decide_eq_true (by kernel_rfl)) (by unfold Func.isWrapper; first | (rw [if_pos (by decide +kernel)]; kernel_rfl) | (rw [if_neg (by decide +kernel)]; exact ⟨rfl, rfl⟩))
    (fun os started H enc _ => tor_lifted os started H enc)
#print axioms tor_holds
end Go.Proofs.Ytgoieipchhamgaa
