/-
  A trie in memory; contract of (*Trie).Add. Conditions as each theorem lists them.
  Contracts of trie.New, (*Trie).Remove and (*Trie).Len. Conditions as each theorem lists them.
  Contract of (*node).search. Conditions as each theorem lists them.
  What a call adds to memory and no more (Grew); contracts of cmp.Compare and cmp.isNaN at ints. No conditions.
-/
import Derived.Test.YtgoieipchhamgaaJ5
import Derived.Test.YtgoieipchhamgaaProg
import Derived.Sort.Grow
import Derived.Deep.RegionHeld3
namespace Go.Proofs.Hd
open Go.RowKit
/-- Block B is a trie that holds the list; its blocks are those of S. -/
structure TrieAt (w : World) (B : Nat) (l : List (Int × Cb)) (S : Nat → Prop) : Prop where
  tok : Tok l
  ex : ∃ (mb : Option Nat) (rv : Value) (t : Pt) (Sr : Nat → Prop), Blk w B 57 #[.map mb, rv] ∧ MpAt w (.map mb) l ∧ RepP l t ∧ TrAt w t rv Sr ∧ ¬ Sr B ∧ (∀ M, mb = some M → M ≠ B ∧ ¬ Sr M) ∧ ∀ x, S x ↔ x = B ∨ mb = some x ∨ Sr x
theorem TrieAt.ch {Q : Nat → Prop} {w w' : World} {B : Nat} {l : List (Int × Cb)} {S : Nat → Prop} (h : TrieAt w B l S) (hc : Ch Q w w') (hS : ∀ x, S x → ¬ Q x) : TrieAt w' B l S := by
  obtain ⟨ht, mb, rv, t, Sr, h1, h2, h3, h4, h5, h6, h7⟩ := h
  exact ⟨ht, mb, rv, t, Sr, hc.blk h1 (hS B ((h7 B).2 (.inl rfl))), h2.ch hc (fun M hM => hS M ((h7 M).2 (.inr (.inl hM)))), h3, h4.ch hc (fun x hx => hS x ((h7 x).2 (.inr (.inr hx)))), h5, h6, h7⟩
theorem TrieAt.on {w w' : World} {B : Nat} {l : List (Int × Cb)} {S : Nat → Prop} (h : TrieAt w B l S) (hb : Below w.heap.size w w') : TrieAt w' B l S := h.ch (Q := fun _ => False) (Ch.of_below hb) (fun _ _ h => h)
theorem TrieAt.lt {w : World} {B : Nat} {l : List (Int × Cb)} {S : Nat → Prop} (h : TrieAt w B l S) : ∀ x, S x → x < w.heap.size := fun x hx => by
  obtain ⟨ht, mb, rv, t, Sr, h1, h2, h3, h4, h5, h6, h7⟩ := h
  rcases (h7 x).1 hx with rfl | h | h
  · exact h1.lt
  · exact h2.lt x h
  · exact h4.lt x h
/-- The number that Add answers. -/
def addE (l : List (Int × Cb)) (x : Int) (c : Cb) : Int := if x < 0 then 1 else if c.snd = false then 2 else if x ∈ tIds l then 8 else 0
theorem addB_E {l : List (Int × Cb)} {x : Int} {c : Cb} : addB l x c = true ↔ addE l x c = 0 := by
  rw [addB_iff]
  unfold addE
  constructor
  · rintro ⟨h1, h2, h3⟩
    rw [if_neg (by omega), if_neg (by rw [h2]; simp), if_neg h3]
  · intro h
    by_cases h1 : x < 0
    · rw [if_pos h1] at h; cases h
    · rw [if_neg h1] at h
      by_cases h2 : c.snd = false
      · rw [if_pos h2] at h; cases h
      · rw [if_neg h2] at h
        by_cases h3 : x ∈ tIds l
        · rw [if_pos h3] at h; cases h
        · exact ⟨by omega, by simpa using h2, h3⟩
theorem ch_then {S Q : Nat → Prop} {a b c : World} (h : Ch S a b) (k : Ch Q b c) (hq : ∀ x, x < a.heap.size → Q x → S x) : Ch S a c :=
  ⟨k.os.trans h.os, k.tape.trans h.tape, k.output.trans h.output, Nat.le_trans h.size k.size, fun i hi hn => (k.block i (Nat.lt_of_lt_of_le hi h.size) (fun e => hn (hq i hi e))).trans (h.block i hi hn)⟩
/-- What a call of Add or Remove leaves. -/
def TrieTo (w : World) (B : Nat) (l' : List (Int × Cb)) (S : Nat → Prop) (v : Value) (e : Ending) (w' : World) : Prop := ∃ S', e = .returned v ∧ TrieAt w' B l' S' ∧ Nw w S S' ∧ Ch S w w'
end Go.Proofs.Hd
namespace Go.Proofs
open Go.RowKit Go.Proofs.Hd Go.Lib
attribute [local go_sem] uv_nonneg
theorem eqlM_some (M : Nat) (W : World) : (Go.binOp BinOp.eql 54 (.map (some M)) (.map none)).run Try.prog W = .ok (.bool false) W := by kernel_rfl
theorem eqlM_none (W : World) : (Go.binOp BinOp.eql 54 (.map none) (.map none)).run Try.prog W = .ok (.bool true) W := by kernel_rfl
attribute [local go_sem] eqlM_some eqlM_none
theorem add_nil (x : Int) (c : Cb) (w : World) : Calls Try.prog 10 #[.pointer none, .int .i64 x, .agg #[.int .u64 (uv c.vh), .int .u64 (uv c.vl), .int .u64 (uv c.ch), .int .u64 (uv c.cl)]] w fun e w' => e = .returned (.int .i64 1) ∧ Below w.heap.size w w' := by
  have HS := Lib.hid (below1 w (.cells #[.int .u64 (uv c.vh), .int .u64 (uv c.vl), .int .u64 (uv c.ch), .int .u64 (uv c.cl)] 27))
  go_enter Try.func10, Try.ntmps10
  go_wp2
  go_ret
  exact ⟨rfl, HS.out⟩
theorem add_neg (x : Int) (c : Cb) (B : Nat) (w : World) (hx : x < 0) : Calls Try.prog 10 #[.pointer (some ⟨B, 0, none⟩), .int .i64 x, .agg #[.int .u64 (uv c.vh), .int .u64 (uv c.vl), .int .u64 (uv c.ch), .int .u64 (uv c.cl)]] w fun e w' => e = .returned (.int .i64 1) ∧ Below w.heap.size w w' := by
  have HS := Lib.hid (below1 w (.cells #[.int .u64 (uv c.vh), .int .u64 (uv c.vl), .int .u64 (uv c.ch), .int .u64 (uv c.cl)] 27))
  go_enter Try.func10, Try.ntmps10
  go_wp2
  go_ret
  exact ⟨rfl, HS.out⟩
theorem add_form (x : Int) (c : Cb) (B : Nat) (w : World) (hx : 0 ≤ x) (hc : c.snd = false) : Calls Try.prog 10 #[.pointer (some ⟨B, 0, none⟩), .int .i64 x, .agg #[.int .u64 (uv c.vh), .int .u64 (uv c.vl), .int .u64 (uv c.ch), .int .u64 (uv c.cl)]] w fun e w' => e = .returned (.int .i64 2) ∧ Below w.heap.size w w' := by
  have h0z : ¬ x < 0 := by omega
  have hb1 := below1 w (.cells #[.int .u64 (uv c.vh), .int .u64 (uv c.vl), .int .u64 (uv c.ch), .int .u64 (uv c.cl)] 27)
  have HX : Hid (Blk (w.alloc (.cells #[.int .u64 (uv c.vh), .int .u64 (uv c.vl), .int .u64 (uv c.ch), .int .u64 (uv c.cl)] 27)) w.heap.size 27 #[.int .u64 (uv c.vh), .int .u64 (uv c.vl), .int .u64 (uv c.ch), .int .u64 (uv c.cl)]) := Blk.new w _ _
  have HS := Lib.hid hb1
  have HSND := Lib.hid hc
  clear hb1 hc 
  go_enter Try.func10, Try.ntmps10
  go_upto_region 1 with (fail)
  generalize w.alloc (.cells #[.int .u64 (uv c.vh), .int .u64 (uv c.vl), .int .u64 (uv c.ch), .int .u64 (uv c.cl)] 27) = w1 at HX HS  ⊢
  generalize hbx : w.heap.size = bx at HX HS ⊢
  have HE := Lib.hid hbx
  clear hbx
  have x0 := (HX.out.cell 0).trans rfl
  have x1 := (HX.out.cell 1).trans rfl
  have x2 := (HX.out.cell 2).trans rfl
  have x3 := (HX.out.cell 3).trans rfl
  simp only [List.getElem?_toArray, List.getElem?_cons_succ, List.getElem?_cons_zero] at x0 x1 x2 x3
  go_upto_region 3 with (fail)
  go_wp2_with fail
  (with_reducible refine (csound false c _ HSND.out).mono ?_)
  rintro e w2 ⟨rfl, hb2⟩
  have hs1 := HS.out
  rw [← HE.out] at hs1
  have HB := Lib.hid (hs1.trans (hb2.mono hs1.size))
  clear hb2 hs1 x0 x1 x2 x3
  go_wp2
  go_ret
  exact ⟨rfl, HB.out⟩
set_option maxHeartbeats 1000000 in
theorem add_there (x : Int) (c d : Cb) (B : Nat) (l : List (Int × Cb)) (rv : Value) (mb : Option Nat) (w : World) (hx : 0 ≤ x) (hwf : (Lit.int .i64 x).wf = true) (hc : c.snd = true) (hin : (x, d) ∈ l) (hT : Blk w B 57 #[.map mb, rv]) (hM : MpAt w (.map mb) l) :
    Calls Try.prog 10 #[.pointer (some ⟨B, 0, none⟩), .int .i64 x, .agg #[.int .u64 (uv c.vh), .int .u64 (uv c.vl), .int .u64 (uv c.ch), .int .u64 (uv c.cl)]] w fun e w' => e = .returned (.int .i64 8) ∧ Below w.heap.size w w' := by
  have h0z : ¬ x < 0 := by omega
  have hb1 := below1 w (.cells #[.int .u64 (uv c.vh), .int .u64 (uv c.vl), .int .u64 (uv c.ch), .int .u64 (uv c.cl)] 27)
  have HX : Hid (Blk (w.alloc (.cells #[.int .u64 (uv c.vh), .int .u64 (uv c.vl), .int .u64 (uv c.ch), .int .u64 (uv c.cl)] 27)) w.heap.size 27 #[.int .u64 (uv c.vh), .int .u64 (uv c.vl), .int .u64 (uv c.ch), .int .u64 (uv c.cl)]) := Blk.new w _ _
  have HT1 := Lib.hid (hT.on hb1)
  have HM1 := Lib.hid (hM.ch (Q := fun _ => False) (Ch.of_below hb1) (fun _ _ h => h))
  have HS := Lib.hid hb1
  have HSND := Lib.hid hc
  clear hb1 hc hT hM
  go_enter Try.func10, Try.ntmps10
  go_upto_region 1 with (fail)
  generalize w.alloc (.cells #[.int .u64 (uv c.vh), .int .u64 (uv c.vl), .int .u64 (uv c.ch), .int .u64 (uv c.cl)] 27) = w1 at HX HS HT1 HM1 ⊢
  generalize hbx : w.heap.size = bx at HX HS ⊢
  have HE := Lib.hid hbx
  clear hbx
  have x0 := (HX.out.cell 0).trans rfl
  have x1 := (HX.out.cell 1).trans rfl
  have x2 := (HX.out.cell 2).trans rfl
  have x3 := (HX.out.cell 3).trans rfl
  simp only [List.getElem?_toArray, List.getElem?_cons_succ, List.getElem?_cons_zero] at x0 x1 x2 x3
  go_upto_region 3 with (fail)
  go_wp2_with fail
  (with_reducible refine (csound true c _ HSND.out).mono ?_)
  rintro e w2 ⟨rfl, hb2⟩
  have HT2 := Lib.hid (HT1.out.on hb2)
  have hM2 := HM1.out.ch (Q := fun _ => False) (Ch.of_below hb2) (fun _ _ h => h)
  have hl := mp_yes hM2 hwf hin
  have d0 := (HT2.out.cell 0).trans rfl
  simp only [List.getElem?_toArray, List.getElem?_cons_zero] at d0
  have hs1 := HS.out
  rw [← HE.out] at hs1
  have HB2 := Lib.hid (hs1.trans (hb2.mono hs1.size))
  clear x0 x1 x2 x3 hs1
  unfold cubV at hl
  have HB3 := Lib.hid (HB2.out.trans ((below1 w2 (.cells #[.int .u64 (uv d.vh), .int .u64 (uv d.vl), .int .u64 (uv d.ch), .int .u64 (uv d.cl)] 27)).mono HB2.out.size))
  clear hM2 hb2
  go_wp2
  go_ret
  exact ⟨rfl, HB3.out⟩
set_option maxRecDepth 100000 in
set_option maxHeartbeats 4000000 in
theorem add_some (M : Nat) (x : Int) (c : Cb) (B : Nat) (l : List (Int × Cb)) (rv : Value) (t : Pt) (Sr S : Nat → Prop) (w : World) (hx : 0 ≤ x) (hwf : (Lit.int .i64 x).wf = true) (hc : c.snd = true) (hn : x ∉ tIds l) (hlen : l.length ≤ 1099511627776) (htok : Tok l) (hrep : RepP l t) (hT : Blk w B 57 #[.map (some M), rv]) (hM : MpAt w (.map (some M)) l) (hTr : TrAt w t rv Sr) (hSB : ¬ Sr B) (hMB : M ≠ B) (hMS : ¬ Sr M) (hS : ∀ y, S y ↔ y = B ∨ some M = some y ∨ Sr y) :
    Calls Try.prog 10 #[.pointer (some ⟨B, 0, none⟩), .int .i64 x, .agg #[.int .u64 (uv c.vh), .int .u64 (uv c.vl), .int .u64 (uv c.ch), .int .u64 (uv c.cl)]] w (TrieTo w B (l ++ [(x, c)]) S (.int .i64 0)) := by
  have HCALL : Hid (∀ W, TrAt W t rv Sr → Calls Try.prog 22 #[rv, .int .i64 x, .agg #[.int .u64 (uv c.vh), .int .u64 (uv c.vl), .int .u64 (uv c.ch), .int .u64 (uv c.cl)]] W (TreeTo W (t.ins x c) Sr)) := fun W hW => with_c x c hc t hrep.ok (by rw [hrep.perm.length_eq]; exact hlen) rv Sr W hW
  have HTOK : Hid (Tok (l ++ [(x, c)])) := htok.snoc hx hc hn
  have HREP : Hid (RepP (l ++ [(x, c)]) (t.ins x c)) := hrep.put x hc
  have HLEN : Hid (l.length < maxLen) := by show l.length < maxLen; unfold maxLen; omega
  have HSS := Lib.hid hS
  have HB0 := Lib.hid hT.lt
  have HSEP0 := Lib.hid hSB
  clear hrep hlen htok hS hSB
  have h0z : ¬ x < 0 := by omega
  have hb1 := below1 w (.cells #[.int .u64 (uv c.vh), .int .u64 (uv c.vl), .int .u64 (uv c.ch), .int .u64 (uv c.cl)] 27)
  have HX : Hid (Blk (w.alloc (.cells #[.int .u64 (uv c.vh), .int .u64 (uv c.vl), .int .u64 (uv c.ch), .int .u64 (uv c.cl)] 27)) w.heap.size 27 #[.int .u64 (uv c.vh), .int .u64 (uv c.vl), .int .u64 (uv c.ch), .int .u64 (uv c.cl)]) := Blk.new w _ _
  have HT1 := Lib.hid (hT.on hb1)
  have HM1 := Lib.hid (hM.ch (Q := fun _ => False) (Ch.of_below hb1) (fun _ _ h => h))
  have HTR1 := Lib.hid (hTr.on hb1)
  have HS := Lib.hid hb1
  have HSND := Lib.hid hc
  clear hb1 hc hT hM hTr
  go_enter Try.func10, Try.ntmps10
  go_upto_region 1 with (fail)
  generalize w.alloc (.cells #[.int .u64 (uv c.vh), .int .u64 (uv c.vl), .int .u64 (uv c.ch), .int .u64 (uv c.cl)] 27) = w1 at HX HS HT1 HM1 HTR1 ⊢
  generalize hbx : w.heap.size = bx at HX HS ⊢
  have HE := Lib.hid hbx
  clear hbx
  have x0 := (HX.out.cell 0).trans rfl
  have x1 := (HX.out.cell 1).trans rfl
  have x2 := (HX.out.cell 2).trans rfl
  have x3 := (HX.out.cell 3).trans rfl
  simp only [List.getElem?_toArray, List.getElem?_cons_succ, List.getElem?_cons_zero] at x0 x1 x2 x3
  go_upto_region 3 with (fail)
  go_wp2_with fail
  (with_reducible refine (csound true c _ HSND.out).mono ?_)
  rintro e w2 ⟨rfl, hb2⟩
  have HT2 := Lib.hid (HT1.out.on hb2)
  have hM2 := HM1.out.ch (Q := fun _ => False) (Ch.of_below hb2) (fun _ _ h => h)
  have hl := mp_no hM2 hwf hn
  have d0 := (HT2.out.cell 0).trans rfl
  simp only [List.getElem?_toArray, List.getElem?_cons_zero] at d0
  have hs1 := HS.out
  rw [← HE.out] at hs1
  have HB2 := Lib.hid (hs1.trans (hb2.mono hs1.size))
  clear x0 x1 x2 x3 hs1
  unfold cubV zeroC at hl
  have HX2 := Lib.hid (HX.out.on hb2)
  have HTR2 := Lib.hid (HTR1.out.on hb2)
  have HM2 := Lib.hid hM2
  clear hM2 hb2 HT1 HM1 HTR1 HX
  go_upto_region 6 with (fail)
  have hb3 := below1 w2 (.cells #[.int .u64 (uv zeroC.vh), .int .u64 (uv zeroC.vl), .int .u64 (uv zeroC.ch), .int .u64 (uv zeroC.cl)] 27)
  unfold zeroC at hb3
  dsimp only at hb3
  have HT3 := Lib.hid (HT2.out.on hb3)
  have HX3 := Lib.hid (HX2.out.on hb3)
  have HTR3 := Lib.hid (HTR2.out.on hb3)
  have HM3 := Lib.hid (HM2.out.ch (Q := fun _ => False) (Ch.of_below hb3) (fun _ _ h => h))
  have HB3 := Lib.hid (HB2.out.trans (hb3.mono HB2.out.size))
  clear hb3 hl HT2 HX2 HTR2 HM2 HB2 d0
  generalize w2.alloc _ = w4 at HT3 HX3 HTR3 HM3 HB3 ⊢
  have hbx : bx < w4.heap.size := HX3.out.lt
  have hMbx : M ≠ bx := fun e => by
    have h1 := HX3.out
    rcases HM3.out with ⟨h, _⟩ | ⟨M', D, h, ⟨es, clock, h2, _⟩, _⟩
    · cases h
    · injection h with h
      injection h with h
      subst h
      unfold Blk at h1
      rw [← e, h2] at h1
      cases h1
  have d0 := (HT3.out.cell 0).trans rfl
  simp only [List.getElem?_toArray, List.getElem?_cons_zero] at d0
  have HNE := Lib.hid (And.intro hMB hMbx)
  have HSEP := Lib.hid (And.intro HSEP0.out (And.intro hMB hMS))
  have HLT := Lib.hid (And.intro HT3.out.lt (HM3.out.lt M rfl))
  have HCW : Hid (Ch S w w4) := Ch.of_below HB3.out
  have HZW := Lib.hid HB3.out.size
  have HNW : Hid (∀ y, (y = B ∨ y = M ∨ Sr y ∨ w.heap.size ≤ y) → S y ∨ w.heap.size ≤ y) := by
    rintro y (h | h | h | h)
    · exact .inl ((HSS.out y).2 (.inl h))
    · exact .inl ((HSS.out y).2 (.inr (.inl (by rw [h]))))
    · exact .inl ((HSS.out y).2 (.inr (.inr h)))
    · exact .inr h
  have HCM : Hid (∀ y, y < w.heap.size → y = M → S y) := fun y _ hy => (HSS.out y).2 (.inr (.inl (by rw [hy])))
  clear hMB hMS hMbx hbx
  have HT := HT3
  have HX := HX3
  have HTR := HTR3
  have HM := HM3
  clear HT3 HX3 HTR3 HM3 HB3
  go_upto_region 8 with (fail)
  generalize hw5 : w4 = w5 at HT HX HTR HM HCW HZW HLT d0 ⊢
  clear hw5
  go_upto_region 10 with (fail)
  go_cut [] (fun wd => MpAt wd (.map (some M)) (l ++ [(x, c)]) ∧ Ch (· = M) w5 wd)
  case first =>
    have hbd := (Below.refl w5.heap.size w5).drew
    have HKP : Hid (w5.drew.cell? ⟨B, 0, none⟩ = some (.map (some M)) ∧ w5.drew.cell? ⟨bx, 0, none⟩ = some (.int .u64 (uv c.vh)) ∧ w5.drew.cell? ⟨bx, 1, none⟩ = some (.int .u64 (uv c.vl)) ∧ w5.drew.cell? ⟨bx, 2, none⟩ = some (.int .u64 (uv c.ch)) ∧ w5.drew.cell? ⟨bx, 3, none⟩ = some (.int .u64 (uv c.cl))) := ⟨((HT.out.on hbd).cell 0).trans rfl, ((HX.out.on hbd).cell 0).trans rfl, ((HX.out.on hbd).cell 1).trans rfl, ((HX.out.on hbd).cell 2).trans rfl, ((HX.out.on hbd).cell 3).trans rfl⟩
    have HM0 := Lib.hid (HM.out.ch (Q := fun _ => False) (Ch.of_below hbd) (fun _ _ h => h))
    have HCD : Hid (Ch (· = M) w5 w5.drew) := Ch.of_below hbd
    clear hbd HM
    have HM := HM0
    clear HM0
    refine wp_region_held_drew (S := fun w' => w'.cell? ⟨B, 0, none⟩ = some (.map (some M)) ∧ w'.cell? ⟨bx, 0, none⟩ = some (.int .u64 (uv c.vh)) ∧ w'.cell? ⟨bx, 1, none⟩ = some (.int .u64 (uv c.vl)) ∧ w'.cell? ⟨bx, 2, none⟩ = some (.int .u64 (uv c.ch)) ∧ w'.cell? ⟨bx, 3, none⟩ = some (.int .u64 (uv c.cl))) (by kernel_rfl) (HKP.out) (fun hHeld => ?_)
    clear HKP
    generalize w5.drew = u0 at hHeld HM HCD ⊢
    refine wpAnyH_take (i := 0) (oi := ⟨some 37, _, _, _, _, _⟩) (v := ?vyaa0_1) rfl (by kernel_rfl) (by kernel_rfl) (by kernel_rfl) (fun _ _ _ h => h) (Or.inl ⟨by rfl, ?yyaa0_1⟩) hHeld ?ryaa0_1
    case yyaa0_1 => (intro w' hSw; (try dsimp only at hSw); go_simp; try (with_reducible rfl))
    simp only [Act.put, List.setIfInBounds_toArray, List.set_cons_zero, List.set_cons_succ]
    refine wpAnyH_take (i := 1) (oi := ⟨some 38, _, _, _, _, _⟩) (v := ?vyaa1_2) rfl (by kernel_rfl) (by kernel_rfl) (by kernel_rfl) (fun _ _ _ h => h) (Or.inl ⟨by rfl, ?yyaa1_2⟩) hHeld ?ryaa1_2
    case yyaa1_2 => (intro w' hSw; (try dsimp only at hSw); go_simp; try (with_reducible rfl))
    simp only [Act.put, List.setIfInBounds_toArray, List.set_cons_zero, List.set_cons_succ]
    refine wpAnyH_take (i := 2) (oi := ⟨some 39, _, _, _, _, _⟩) (v := ?vyaa2_3) rfl (by kernel_rfl) (by kernel_rfl) (by kernel_rfl) (fun _ _ _ h => h) (Or.inl ⟨by rfl, ?yyaa2_3⟩) hHeld ?ryaa2_3
    case yyaa2_3 => (intro w' hSw; (try dsimp only at hSw); go_simp; try (with_reducible rfl))
    simp only [Act.put, List.setIfInBounds_toArray, List.set_cons_zero, List.set_cons_succ]
    refine wpAnyH_take (i := 3) (oi := ⟨some 40, _, _, _, _, _⟩) (v := ?vyaa3_4) rfl (by kernel_rfl) (by kernel_rfl) (by kernel_rfl) (fun _ _ _ h => h) (Or.inl ⟨by rfl, ?yyaa3_4⟩) hHeld ?ryaa3_4
    case yyaa3_4 => (intro w' hSw; (try dsimp only at hSw); go_simp; try (with_reducible rfl))
    simp only [Act.put, List.setIfInBounds_toArray, List.set_cons_zero, List.set_cons_succ]
    refine wpAnyH_take (i := 4) (oi := ⟨some 41, _, _, _, _, _⟩) (v := ?vyaa4_5) rfl (by kernel_rfl) (by kernel_rfl) (by kernel_rfl) (fun _ _ _ h => h) (Or.inl ⟨by rfl, ?yyaa4_5⟩) hHeld ?ryaa4_5
    case yyaa4_5 => (intro w' hSw; (try dsimp only at hSw); go_simp; try (with_reducible rfl))
    simp only [Act.put, List.setIfInBounds_toArray, List.set_cons_zero, List.set_cons_succ]
    refine wpAnyH_take (i := 5) (oi := ⟨some 42, _, _, _, _, _⟩) (v := ?vyaa5_6) rfl (by kernel_rfl) (by kernel_rfl) (by kernel_rfl) (fun _ _ _ h => h) (Or.inl ⟨by rfl, ?yyaa5_6⟩) hHeld ?ryaa5_6
    case yyaa5_6 => (intro w' hSw; (try dsimp only at hSw); go_simp; try (with_reducible rfl))
    simp only [Act.put, List.setIfInBounds_toArray, List.set_cons_zero, List.set_cons_succ]
    refine wpAnyH_ready (rs := [6]) (by kernel_rfl) (by simp) ?_
    refine AllReadyH.cons (o := ⟨none, _, _, _, _, _⟩) rfl (fun K hK => ?_) AllReadyH.nil
    obtain ⟨u1, hr1, hm1, hc1⟩ := mp_put (c := c) HM.out hwf hn HLEN.out
    unfold cubV at hr1
    go_simp
    refine hK.out _ _ ⟨hc1.cell hHeld.1 (fun e => HNE.out.1 e.symm), hc1.cell hHeld.2.1 (fun e => HNE.out.2 e.symm), hc1.cell hHeld.2.2.1 (fun e => HNE.out.2 e.symm), hc1.cell hHeld.2.2.2.1 (fun e => HNE.out.2 e.symm), hc1.cell hHeld.2.2.2.2 (fun e => HNE.out.2 e.symm)⟩ (fun hNext => ?_)
    clear hK K hHeld
    have hHeld := hNext
    clear hNext
    clear hr1
    try simp only [Act.put]
    refine wpAnyH_done (by kernel_rfl) ?_ _
    go_wp2_with fail
    go_meet
    exact ⟨hm1, HCD.out.trans hc1⟩
  case rest =>
  
    obtain ⟨hm9, hc9⟩ := hcut
    have HMP9 := Lib.hid hm9
    have HT9 := Lib.hid (hc9.blk HT.out (fun e => HNE.out.1 e.symm))
    have HX9 := Lib.hid (hc9.blk HX.out (fun e => HNE.out.2 e.symm))
    have HTR9 := Lib.hid (HTR.out.ch hc9 (fun y hy e => by have e2 : y = M := e; subst e2; exact HSEP.out.2.2 hy))
    have HCW9 := Lib.hid hc9
    clear hm9 hc9 HT HX HTR HM
    go_upto_region 11 with (fail)
    go_cut [] (fun wd => ∃ (p' : Option Addr) (S' : Nat → Prop), Blk wd B 57 #[.map (some M), .pointer p'] ∧ TrAt wd (t.ins x c) (.pointer p') S' ∧ MpAt wd (.map (some M)) (l ++ [(x, c)]) ∧ Nw wc Sr S' ∧ Ch (fun y => y = B ∨ Sr y) wc wd)
    case first =>
      have hbd := (Below.refl wc.heap.size wc).drew
      have HT := Lib.hid (HT9.out.on hbd)
      have HX := Lib.hid (HX9.out.on hbd)
      have HTR := Lib.hid (HTR9.out.on hbd)
      have HMP := Lib.hid (HMP9.out.ch (Q := fun _ => False) (Ch.of_below hbd) (fun _ _ h => h))
      have HC9 : Hid (Ch (fun y => y = B ∨ Sr y) wc wc.drew) := Ch.of_below hbd
      have HZ9 : Hid (wc.heap.size ≤ wc.drew.heap.size) := hbd.size
      clear hbd HT9 HX9 HTR9 HMP9
      refine wp_region_held_drew (S := fun _ => True) (by kernel_rfl) trivial (fun hHeld => ?_)
      generalize wc.drew = u0 at hHeld HT HX HTR HMP HC9 HZ9 ⊢
      refine wpAnyH_take (i := 0) (oi := ⟨some 43, _, _, _, _, _⟩) (v := ?vyab0_1) rfl (by kernel_rfl) (by kernel_rfl) (by kernel_rfl) (fun _ _ _ h => h) (Or.inl ⟨by rfl, ?yyab0_1⟩) hHeld ?ryab0_1
      case yyab0_1 => (intro w' hSw; (try dsimp only at hSw); go_simp; try (with_reducible rfl))
      simp only [Act.put, List.setIfInBounds_toArray, List.set_cons_zero, List.set_cons_succ]
      refine wpAnyH_take (i := 1) (oi := ⟨some 44, _, _, _, _, _⟩) (v := ?vyab1_2) rfl (by kernel_rfl) (by kernel_rfl) (by kernel_rfl) (fun _ _ _ h => h) (Or.inl ⟨by rfl, ?yyab1_2⟩) hHeld ?ryab1_2
      case yyab1_2 => (intro w' hSw; (try dsimp only at hSw); go_simp; try (with_reducible rfl))
      simp only [Act.put, List.setIfInBounds_toArray, List.set_cons_zero, List.set_cons_succ]
      refine wpAnyH_take (i := 2) (oi := ⟨some 45, _, _, _, _, _⟩) (v := ?vyab2_3) rfl (by kernel_rfl) (by kernel_rfl) (by kernel_rfl) (fun _ _ _ h => h) (Or.inl ⟨by rfl, ?yyab2_3⟩) hHeld ?ryab2_3
      case yyab2_3 => (intro w' hSw; (try dsimp only at hSw); go_simp; try (with_reducible rfl))
      simp only [Act.put, List.setIfInBounds_toArray, List.set_cons_zero, List.set_cons_succ]
      refine wpAnyH_take (i := 3) (oi := ⟨some 46, _, _, _, _, _⟩) (v := ?vyab3_4) rfl (by kernel_rfl) (by kernel_rfl) (by kernel_rfl) (fun _ _ _ h => h) (Or.inl ⟨by rfl, ?yyab3_4⟩) hHeld ?ryab3_4
      case yyab3_4 => (intro w' hSw; (try dsimp only at hSw); go_simp; try (with_reducible rfl))
      simp only [Act.put, List.setIfInBounds_toArray, List.set_cons_zero, List.set_cons_succ]
      refine wpAnyH_take (i := 5) (oi := ⟨some 48, _, _, _, _, _⟩) (v := ?vyab5_5) rfl (by kernel_rfl) (by kernel_rfl) (by kernel_rfl) (fun _ _ _ h => h) (Or.inl ⟨by rfl, ?yyab5_5⟩) hHeld ?ryab5_5
      case yyab5_5 => (intro w' hSw; (try dsimp only at hSw); go_simp; try (with_reducible rfl))
      simp only [Act.put, List.setIfInBounds_toArray, List.set_cons_zero, List.set_cons_succ]
      refine wpAnyH_ready (rs := [4, 6]) (by kernel_rfl) (by simp) ?_
      refine AllReadyH.cons (o := ⟨some 47, _, _, _, _, _⟩) rfl (fun K hK => ?_) ?_
      · have kA := (HT.out.cell 1).trans rfl
        simp only [List.getElem?_toArray, List.getElem?_cons_succ, List.getElem?_cons_zero] at kA
        go_simp
        refine hK.out _ _ trivial (fun hNext => ?_)
        clear hK K hHeld
        have hHeld := hNext
        clear hNext
        clear kA
        try simp only [Act.put, List.setIfInBounds_toArray, List.set_cons_zero, List.set_cons_succ]
        refine wpAnyH_ready (rs := [6]) (by kernel_rfl) (by simp) ?_
        refine AllReadyH.cons (o := ⟨some 49, _, _, _, _, _⟩) rfl (fun K hK => ?_) AllReadyH.nil
        have x0 := (HX.out.cell 0).trans rfl
        have x1 := (HX.out.cell 1).trans rfl
        have x2 := (HX.out.cell 2).trans rfl
        have x3 := (HX.out.cell 3).trans rfl
        simp only [List.getElem?_toArray, List.getElem?_cons_succ, List.getElem?_cons_zero] at x0 x1 x2 x3
        go_simp
        refine hK.out _ _ trivial (fun hNext => ?_)
        clear hK K hHeld
        have hHeld := hNext
        clear hNext
        clear x0 x1 x2 x3
        try simp only [Act.put, List.setIfInBounds_toArray, List.set_cons_zero, List.set_cons_succ]
        refine wpAnyH_ready (rs := [7]) (by kernel_rfl) (by simp) ?_
        refine AllReadyH.cons (o := ⟨some 50, _, _, _, _, _⟩) rfl (fun K hK => ?_) AllReadyH.nil
        go_simp
        (with_reducible refine (HCALL.out _ HTR.out).mono ?_)
        rintro e u1 ⟨v', S', rfl, hT', hn', hc'⟩
        (try dsimp only)
        refine hK.out _ _ trivial (fun hNext => ?_)
        clear hK K hHeld
        have hHeld := hNext
        clear hNext
        have HT2 := Lib.hid hT'
        have HN2 := Lib.hid hn'
        have HC2 := Lib.hid hc'
        clear hT' hn' hc'
        try simp only [Act.put, List.setIfInBounds_toArray, List.set_cons_zero, List.set_cons_succ]
        refine wpAnyH_take (i := 8) (oi := ⟨some 51, _, _, _, _, _⟩) (v := ?vyab8_6) rfl (by kernel_rfl) (by kernel_rfl) (by kernel_rfl) (fun _ _ _ h => h) (Or.inl ⟨by rfl, ?yyab8_6⟩) hHeld ?ryab8_6
        case yyab8_6 => (intro w' hSw; (try dsimp only at hSw); go_simp; try (with_reducible rfl))
        simp only [Act.put, List.setIfInBounds_toArray, List.set_cons_zero, List.set_cons_succ]
        refine wpAnyH_take (i := 9) (oi := ⟨some 52, _, _, _, _, _⟩) (v := ?vyab9_7) rfl (by kernel_rfl) (by kernel_rfl) (by kernel_rfl) (fun _ _ _ h => h) (Or.inl ⟨by rfl, ?yyab9_7⟩) hHeld ?ryab9_7
        case yyab9_7 => (intro w' hSw; (try dsimp only at hSw); go_simp; try (with_reducible rfl))
        simp only [Act.put, List.setIfInBounds_toArray, List.set_cons_zero, List.set_cons_succ]
        refine wpAnyH_ready (rs := [10]) (by kernel_rfl) (by simp) ?_
        refine AllReadyH.cons (o := ⟨none, _, _, _, _, _⟩) rfl (fun K hK => ?_) AllReadyH.nil
        obtain ⟨p', hp'⟩ := HT2.out.ptr
        subst hp'
        have hA := HC2.out.blk HT.out HSEP.out.1
        have kA := (hA.cell 1).trans rfl
        have gA := hA.free 1
        simp only [List.getElem?_toArray, List.getElem?_cons_succ, List.getElem?_cons_zero] at kA
        go_simp
        clear kA gA
        refine hK.out _ _ trivial (fun hNext => ?_)
        clear hK K hHeld
        have hHeld := hNext
        clear hNext
        have hA2 := hA.set 1 (.pointer p')
        simp only [List.setIfInBounds_toArray, List.set_cons_succ, List.set_cons_zero] at hA2
        have hcs : Ch (· = B) u1 (u1.setCell ⟨B, 1, none⟩ (.pointer p')) := Ch.set u1 ⟨B, 1, none⟩ _
        have HR1 := Lib.hid hA2
        have HR2 := Lib.hid (HT2.out.ch hcs (fun y hy e => by have e2 : y = B := e; subst e2; rcases HN2.out y hy with h | h; exact HSEP.out.1 h; exact absurd HT.out.lt (by omega)))
        have HR3 := Lib.hid ((HMP.out.ch HC2.out (fun M' hM' => by have e2 : M = M' := (by simpa [mpB] using hM'); subst e2; exact HSEP.out.2.2)).ch hcs (fun M' hM' e => by have e2 : M = M' := (by simpa [mpB] using hM'); subst e2; exact HSEP.out.2.1 e))
        have HR4 : Hid (Ch (fun y => y = B ∨ Sr y) wc (u1.setCell ⟨B, 1, none⟩ (.pointer p'))) := (HC9.out.trans (HC2.out.mono fun y _ hy => .inr hy)).trans (hcs.mono fun y _ hy => .inl hy)
        clear hA hA2 hcs
        generalize u1.setCell ⟨B, 1, none⟩ (.pointer p') = u2 at HR1 HR2 HR3 HR4 ⊢
        try simp only [Act.put]
        refine wpAnyH_done (by kernel_rfl) ?_ _
        have HN3 := Lib.hid (fun y hy => (HN2.out y hy).imp_right fun h => Nat.le_trans HZ9.out h : Nw wc Sr S')
        go_wp2_with fail
        go_meet
        exact ⟨p', S', HR1.out, HR2.out, HR3.out, HN3.out, HR4.out⟩
      refine AllReadyH.cons (o := ⟨some 49, _, _, _, _, _⟩) rfl (fun K hK => ?_) AllReadyH.nil
      have x0 := (HX.out.cell 0).trans rfl
      have x1 := (HX.out.cell 1).trans rfl
      have x2 := (HX.out.cell 2).trans rfl
      have x3 := (HX.out.cell 3).trans rfl
      simp only [List.getElem?_toArray, List.getElem?_cons_succ, List.getElem?_cons_zero] at x0 x1 x2 x3
      go_simp
      refine hK.out _ _ trivial (fun hNext => ?_)
      clear hK K hHeld
      have hHeld := hNext
      clear hNext
      clear x0 x1 x2 x3
      try simp only [Act.put, List.setIfInBounds_toArray, List.set_cons_zero, List.set_cons_succ]
      refine wpAnyH_ready (rs := [4]) (by kernel_rfl) (by simp) ?_
      refine AllReadyH.cons (o := ⟨some 47, _, _, _, _, _⟩) rfl (fun K hK => ?_) AllReadyH.nil
      have kA := (HT.out.cell 1).trans rfl
      simp only [List.getElem?_toArray, List.getElem?_cons_succ, List.getElem?_cons_zero] at kA
      go_simp
      refine hK.out _ _ trivial (fun hNext => ?_)
      clear hK K hHeld
      have hHeld := hNext
      clear hNext
      clear kA
      try simp only [Act.put, List.setIfInBounds_toArray, List.set_cons_zero, List.set_cons_succ]
      refine wpAnyH_ready (rs := [7]) (by kernel_rfl) (by simp) ?_
      refine AllReadyH.cons (o := ⟨some 50, _, _, _, _, _⟩) rfl (fun K hK => ?_) AllReadyH.nil
      go_simp
      (with_reducible refine (HCALL.out _ HTR.out).mono ?_)
      rintro e u3 ⟨v', S', rfl, hT', hn', hc'⟩
      (try dsimp only)
      refine hK.out _ _ trivial (fun hNext => ?_)
      clear hK K hHeld
      have hHeld := hNext
      clear hNext
      have HT2 := Lib.hid hT'
      have HN2 := Lib.hid hn'
      have HC2 := Lib.hid hc'
      clear hT' hn' hc'
      try simp only [Act.put, List.setIfInBounds_toArray, List.set_cons_zero, List.set_cons_succ]
      refine wpAnyH_take (i := 8) (oi := ⟨some 51, _, _, _, _, _⟩) (v := ?vyab8_8) rfl (by kernel_rfl) (by kernel_rfl) (by kernel_rfl) (fun _ _ _ h => h) (Or.inl ⟨by rfl, ?yyab8_8⟩) hHeld ?ryab8_8
      case yyab8_8 => (intro w' hSw; (try dsimp only at hSw); go_simp; try (with_reducible rfl))
      simp only [Act.put, List.setIfInBounds_toArray, List.set_cons_zero, List.set_cons_succ]
      refine wpAnyH_take (i := 9) (oi := ⟨some 52, _, _, _, _, _⟩) (v := ?vyab9_9) rfl (by kernel_rfl) (by kernel_rfl) (by kernel_rfl) (fun _ _ _ h => h) (Or.inl ⟨by rfl, ?yyab9_9⟩) hHeld ?ryab9_9
      case yyab9_9 => (intro w' hSw; (try dsimp only at hSw); go_simp; try (with_reducible rfl))
      simp only [Act.put, List.setIfInBounds_toArray, List.set_cons_zero, List.set_cons_succ]
      refine wpAnyH_ready (rs := [10]) (by kernel_rfl) (by simp) ?_
      refine AllReadyH.cons (o := ⟨none, _, _, _, _, _⟩) rfl (fun K hK => ?_) AllReadyH.nil
      obtain ⟨p', hp'⟩ := HT2.out.ptr
      subst hp'
      have hA := HC2.out.blk HT.out HSEP.out.1
      have kA := (hA.cell 1).trans rfl
      have gA := hA.free 1
      simp only [List.getElem?_toArray, List.getElem?_cons_succ, List.getElem?_cons_zero] at kA
      go_simp
      clear kA gA
      refine hK.out _ _ trivial (fun hNext => ?_)
      clear hK K hHeld
      have hHeld := hNext
      clear hNext
      have hA2 := hA.set 1 (.pointer p')
      simp only [List.setIfInBounds_toArray, List.set_cons_succ, List.set_cons_zero] at hA2
      have hcs : Ch (· = B) u3 (u3.setCell ⟨B, 1, none⟩ (.pointer p')) := Ch.set u3 ⟨B, 1, none⟩ _
      have HR1 := Lib.hid hA2
      have HR2 := Lib.hid (HT2.out.ch hcs (fun y hy e => by have e2 : y = B := e; subst e2; rcases HN2.out y hy with h | h; exact HSEP.out.1 h; exact absurd HT.out.lt (by omega)))
      have HR3 := Lib.hid ((HMP.out.ch HC2.out (fun M' hM' => by have e2 : M = M' := (by simpa [mpB] using hM'); subst e2; exact HSEP.out.2.2)).ch hcs (fun M' hM' e => by have e2 : M = M' := (by simpa [mpB] using hM'); subst e2; exact HSEP.out.2.1 e))
      have HR4 : Hid (Ch (fun y => y = B ∨ Sr y) wc (u3.setCell ⟨B, 1, none⟩ (.pointer p'))) := (HC9.out.trans (HC2.out.mono fun y _ hy => .inr hy)).trans (hcs.mono fun y _ hy => .inl hy)
      clear hA hA2 hcs
      generalize u3.setCell ⟨B, 1, none⟩ (.pointer p') = u4 at HR1 HR2 HR3 HR4 ⊢
      try simp only [Act.put]
      refine wpAnyH_done (by kernel_rfl) ?_ _
      have HN3 := Lib.hid (fun y hy => (HN2.out y hy).imp_right fun h => Nat.le_trans HZ9.out h : Nw wc Sr S')
      go_wp2_with fail
      go_meet
      exact ⟨p', S', HR1.out, HR2.out, HR3.out, HN3.out, HR4.out⟩
    case rest =>
      obtain ⟨p', S', r1, r2, r3, r4, r5⟩ := hcut
      have HR := Lib.hid (And.intro r1 (And.intro r2 (And.intro r3 (And.intro r4 r5))))
      clear r1 r2 r3 r4 r5
      go_wp2
      go_ret
      obtain ⟨r1, r2, r3, r4, r5⟩ := HR.out
      have hz := HCW9.out.size
      refine ⟨fun y => y = B ∨ some M = some y ∨ S' y, rfl, ⟨HTOK.out, some M, .pointer p', t.ins x c, S', r1, r3, HREP.out, r2, fun hB => ?_, fun M' hM' => ?_, fun _ => Iff.rfl⟩, fun y hy => ?_, ?_⟩
      · rcases r4 B hB with h | h
        · exact HSEP.out.1 h
        · have := HLT.out.1; omega
      · injection hM' with hM'
        subst hM'
        refine ⟨HSEP.out.2.1, fun hM => ?_⟩
        rcases r4 M hM with h | h
        · exact HSEP.out.2.2 h
        · have := HLT.out.2; omega
      · exact HNW.out y (by
          rcases hy with h | h | h
          · exact .inl h
          · injection h with h; exact .inr (.inl h.symm)
          · rcases r4 y h with h | h
            · exact .inr (.inr (.inl h))
            · exact .inr (.inr (.inr (by have := HZW.out; omega))))
      · exact ch_then (ch_then HCW.out HCW9.out HCM.out) r5 (fun y hy h => (HSS.out y).2 (h.imp_right .inr))
set_option maxRecDepth 100000 in
set_option maxHeartbeats 4000000 in
theorem add_none (x : Int) (c : Cb) (B : Nat) (l : List (Int × Cb)) (rv : Value) (t : Pt) (Sr S : Nat → Prop) (w : World) (hx : 0 ≤ x) (hwf : (Lit.int .i64 x).wf = true) (hc : c.snd = true) (hn : x ∉ tIds l) (hlen : l.length ≤ 1099511627776) (htok : Tok l) (hrep : RepP l t) (hT : Blk w B 57 #[.map none, rv]) (hM : MpAt w (.map none) l) (hTr : TrAt w t rv Sr) (hSB : ¬ Sr B) (hS : ∀ y, S y ↔ y = B ∨ (none : Option Nat) = some y ∨ Sr y) :
    Calls Try.prog 10 #[.pointer (some ⟨B, 0, none⟩), .int .i64 x, .agg #[.int .u64 (uv c.vh), .int .u64 (uv c.vl), .int .u64 (uv c.ch), .int .u64 (uv c.cl)]] w (TrieTo w B (l ++ [(x, c)]) S (.int .i64 0)) := by
  have HCALL : Hid (∀ W, TrAt W t rv Sr → Calls Try.prog 22 #[rv, .int .i64 x, .agg #[.int .u64 (uv c.vh), .int .u64 (uv c.vl), .int .u64 (uv c.ch), .int .u64 (uv c.cl)]] W (TreeTo W (t.ins x c) Sr)) := fun W hW => with_c x c hc t hrep.ok (by rw [hrep.perm.length_eq]; exact hlen) rv Sr W hW
  have HTOK : Hid (Tok (l ++ [(x, c)])) := htok.snoc hx hc hn
  have HREP : Hid (RepP (l ++ [(x, c)]) (t.ins x c)) := hrep.put x hc
  have HLEN : Hid (l.length < maxLen) := by show l.length < maxLen; unfold maxLen; omega
  have HSS := Lib.hid hS
  have HB0 := Lib.hid hT.lt
  have HSEP0 := Lib.hid hSB
  clear hrep hlen htok hS hSB
  have h0z : ¬ x < 0 := by omega
  have hb1 := below1 w (.cells #[.int .u64 (uv c.vh), .int .u64 (uv c.vl), .int .u64 (uv c.ch), .int .u64 (uv c.cl)] 27)
  have HX : Hid (Blk (w.alloc (.cells #[.int .u64 (uv c.vh), .int .u64 (uv c.vl), .int .u64 (uv c.ch), .int .u64 (uv c.cl)] 27)) w.heap.size 27 #[.int .u64 (uv c.vh), .int .u64 (uv c.vl), .int .u64 (uv c.ch), .int .u64 (uv c.cl)]) := Blk.new w _ _
  have HT1 := Lib.hid (hT.on hb1)
  have HM1 := Lib.hid (hM.ch (Q := fun _ => False) (Ch.of_below hb1) (fun _ _ h => h))
  have HTR1 := Lib.hid (hTr.on hb1)
  have HS := Lib.hid hb1
  have HSND := Lib.hid hc
  clear hb1 hc hT hM hTr
  go_enter Try.func10, Try.ntmps10
  go_upto_region 1 with (fail)
  generalize w.alloc (.cells #[.int .u64 (uv c.vh), .int .u64 (uv c.vl), .int .u64 (uv c.ch), .int .u64 (uv c.cl)] 27) = w1 at HX HS HT1 HM1 HTR1 ⊢
  generalize hbx : w.heap.size = bx at HX HS ⊢
  have HE := Lib.hid hbx
  clear hbx
  have x0 := (HX.out.cell 0).trans rfl
  have x1 := (HX.out.cell 1).trans rfl
  have x2 := (HX.out.cell 2).trans rfl
  have x3 := (HX.out.cell 3).trans rfl
  simp only [List.getElem?_toArray, List.getElem?_cons_succ, List.getElem?_cons_zero] at x0 x1 x2 x3
  go_upto_region 3 with (fail)
  go_wp2_with fail
  (with_reducible refine (csound true c _ HSND.out).mono ?_)
  rintro e w2 ⟨rfl, hb2⟩
  have HT2 := Lib.hid (HT1.out.on hb2)
  have hM2 := HM1.out.ch (Q := fun _ => False) (Ch.of_below hb2) (fun _ _ h => h)
  have hl := mp_no hM2 hwf hn
  have d0 := (HT2.out.cell 0).trans rfl
  simp only [List.getElem?_toArray, List.getElem?_cons_zero] at d0
  have hs1 := HS.out
  rw [← HE.out] at hs1
  have HB2 := Lib.hid (hs1.trans (hb2.mono hs1.size))
  clear x0 x1 x2 x3 hs1
  unfold cubV zeroC at hl
  have HX2 := Lib.hid (HX.out.on hb2)
  have HTR2 := Lib.hid (HTR1.out.on hb2)
  have HM2 := Lib.hid hM2
  clear hM2 hb2 HT1 HM1 HTR1 HX
  go_upto_region 6 with (fail)
  have hb3 := below1 w2 (.cells #[.int .u64 (uv zeroC.vh), .int .u64 (uv zeroC.vl), .int .u64 (uv zeroC.ch), .int .u64 (uv zeroC.cl)] 27)
  unfold zeroC at hb3
  dsimp only at hb3
  have HT3 := Lib.hid (HT2.out.on hb3)
  have HX3 := Lib.hid (HX2.out.on hb3)
  have HTR3 := Lib.hid (HTR2.out.on hb3)
  have HM3 := Lib.hid (HM2.out.ch (Q := fun _ => False) (Ch.of_below hb3) (fun _ _ h => h))
  have HB3 := Lib.hid (HB2.out.trans (hb3.mono HB2.out.size))
  clear hb3 hl HT2 HX2 HTR2 HM2 HB2 d0
  generalize w2.alloc _ = w4 at HT3 HX3 HTR3 HM3 HB3 ⊢
  have hbx : bx < w4.heap.size := HX3.out.lt
  have hl0 : l = [] := by
    rcases HM3.out with ⟨_, h⟩ | ⟨M', D, h, _⟩
    · exact h
    · cases h
  have hmm := @run_makeMap Try.prog
  have d0 := (HT3.out.cell 0).trans rfl
  have hb4 := below1 w4 (.map #[] 0)
  have e0 := ((HT3.out.on hb4).cell 0).trans rfl
  have g0 := (HT3.out.on hb4).free 0
  simp only [List.getElem?_toArray, List.getElem?_cons_zero] at d0 e0
  have hMB : w4.heap.size ≠ B := fun e => by have := HT3.out.lt; omega
  have hMbx : w4.heap.size ≠ bx := by omega
  have HT := Lib.hid ((HT3.out.on hb4).set 0 (.map (some w4.heap.size)))
  have hcs : Ch (· = B) (w4.alloc (.map #[] 0)) ((w4.alloc (.map #[] 0)).setCell ⟨B, 0, none⟩ (.map (some w4.heap.size))) := Ch.set _ ⟨B, 0, none⟩ _
  have hBbx : bx ≠ B := fun e => by
    have := HB3.out
    have h1 := HE.out
    have := HB0.out
    omega
  have HX := Lib.hid ((HX3.out.on hb4).far (p := ⟨B, 0, none⟩) (fun e => hBbx e) (.map (some w4.heap.size)))
  have HM : Hid (MpAt ((w4.alloc (.map #[] 0)).setCell ⟨B, 0, none⟩ (.map (some w4.heap.size))) (.map (some w4.heap.size)) l) := by
    rw [hl0]
    exact (MpAt.made w4).ch hcs (fun M' hM' e => by have e2 : w4.heap.size = M' := (by simpa [mpB] using hM'); subst e2; exact hMB e)
  have HTR := Lib.hid ((HTR3.out.on hb4).ch hcs (fun y hy e => by have e2 : y = B := e; subst e2; exact HSEP0.out hy))
  have HNE := Lib.hid (And.intro hMB hMbx)
  have HSEP : Hid (¬ Sr B ∧ w4.heap.size ≠ B ∧ ¬ Sr w4.heap.size) := ⟨HSEP0.out, hMB, fun h => by have := HTR3.out.lt _ h; omega⟩
  have HLT : Hid (B < ((w4.alloc (.map #[] 0)).setCell ⟨B, 0, none⟩ (.map (some w4.heap.size))).heap.size ∧ w4.heap.size < ((w4.alloc (.map #[] 0)).setCell ⟨B, 0, none⟩ (.map (some w4.heap.size))).heap.size) := ⟨HT.out.lt, by simp [World.setCell]⟩
  have HCW : Hid (Ch S w ((w4.alloc (.map #[] 0)).setCell ⟨B, 0, none⟩ (.map (some w4.heap.size)))) := ch_then (ch_then (Ch.of_below HB3.out) (Ch.of_below hb4 : Ch (fun _ => False) _ _) (fun _ _ h => h.elim)) hcs (fun y _ hy => (HSS.out y).2 (.inl hy))
  have HZW : Hid (w.heap.size ≤ ((w4.alloc (.map #[] 0)).setCell ⟨B, 0, none⟩ (.map (some w4.heap.size))).heap.size) := HCW.out.size
  have HZ4 := Lib.hid HB3.out.size
  simp only [List.setIfInBounds_toArray, List.set_cons_zero] at HT
  clear hMB hMbx hbx hb4 hcs hBbx hl0 HT3 HX3 HTR3 HM3 HB3
  go_upto_region 10 with (fail)
  generalize hw5 : (w4.alloc (.map #[] 0)).setCell ⟨B, 0, none⟩ (.map (some w4.heap.size)) = w5 at HT HX HTR HM HCW HZW HLT ⊢
  generalize hMM : w4.heap.size = M at HT HM HNE HSEP HLT HZ4 ⊢
  have HNW : Hid (∀ y, (y = B ∨ y = M ∨ Sr y ∨ w.heap.size ≤ y) → S y ∨ w.heap.size ≤ y) := by
    rintro y (h | h | h | h)
    · exact .inl ((HSS.out y).2 (.inl h))
    · exact .inr (by have := HZ4.out; omega)
    · exact .inl ((HSS.out y).2 (.inr (.inr h)))
    · exact .inr h
  have HCM : Hid (∀ y, y < w.heap.size → y = M → S y) := fun y hy h => by have := HZ4.out; omega
  clear hw5 hMM d0 g0 e0 hmm
  go_upto_region 10 with (fail)
  go_cut [] (fun wd => MpAt wd (.map (some M)) (l ++ [(x, c)]) ∧ Ch (· = M) w5 wd)
  case first =>
    have hbd := (Below.refl w5.heap.size w5).drew
    have HKP : Hid (w5.drew.cell? ⟨B, 0, none⟩ = some (.map (some M)) ∧ w5.drew.cell? ⟨bx, 0, none⟩ = some (.int .u64 (uv c.vh)) ∧ w5.drew.cell? ⟨bx, 1, none⟩ = some (.int .u64 (uv c.vl)) ∧ w5.drew.cell? ⟨bx, 2, none⟩ = some (.int .u64 (uv c.ch)) ∧ w5.drew.cell? ⟨bx, 3, none⟩ = some (.int .u64 (uv c.cl))) := ⟨((HT.out.on hbd).cell 0).trans rfl, ((HX.out.on hbd).cell 0).trans rfl, ((HX.out.on hbd).cell 1).trans rfl, ((HX.out.on hbd).cell 2).trans rfl, ((HX.out.on hbd).cell 3).trans rfl⟩
    have HM0 := Lib.hid (HM.out.ch (Q := fun _ => False) (Ch.of_below hbd) (fun _ _ h => h))
    have HCD : Hid (Ch (· = M) w5 w5.drew) := Ch.of_below hbd
    clear hbd HM
    have HM := HM0
    clear HM0
    refine wp_region_held_drew (S := fun w' => w'.cell? ⟨B, 0, none⟩ = some (.map (some M)) ∧ w'.cell? ⟨bx, 0, none⟩ = some (.int .u64 (uv c.vh)) ∧ w'.cell? ⟨bx, 1, none⟩ = some (.int .u64 (uv c.vl)) ∧ w'.cell? ⟨bx, 2, none⟩ = some (.int .u64 (uv c.ch)) ∧ w'.cell? ⟨bx, 3, none⟩ = some (.int .u64 (uv c.cl))) (by kernel_rfl) (HKP.out) (fun hHeld => ?_)
    clear HKP
    generalize w5.drew = u0 at hHeld HM HCD ⊢
    refine wpAnyH_take (i := 0) (oi := ⟨some 37, _, _, _, _, _⟩) (v := ?vyba0_1) rfl (by kernel_rfl) (by kernel_rfl) (by kernel_rfl) (fun _ _ _ h => h) (Or.inl ⟨by rfl, ?yyba0_1⟩) hHeld ?ryba0_1
    case yyba0_1 => (intro w' hSw; (try dsimp only at hSw); go_simp; try (with_reducible rfl))
    simp only [Act.put, List.setIfInBounds_toArray, List.set_cons_zero, List.set_cons_succ]
    refine wpAnyH_take (i := 1) (oi := ⟨some 38, _, _, _, _, _⟩) (v := ?vyba1_2) rfl (by kernel_rfl) (by kernel_rfl) (by kernel_rfl) (fun _ _ _ h => h) (Or.inl ⟨by rfl, ?yyba1_2⟩) hHeld ?ryba1_2
    case yyba1_2 => (intro w' hSw; (try dsimp only at hSw); go_simp; try (with_reducible rfl))
    simp only [Act.put, List.setIfInBounds_toArray, List.set_cons_zero, List.set_cons_succ]
    refine wpAnyH_take (i := 2) (oi := ⟨some 39, _, _, _, _, _⟩) (v := ?vyba2_3) rfl (by kernel_rfl) (by kernel_rfl) (by kernel_rfl) (fun _ _ _ h => h) (Or.inl ⟨by rfl, ?yyba2_3⟩) hHeld ?ryba2_3
    case yyba2_3 => (intro w' hSw; (try dsimp only at hSw); go_simp; try (with_reducible rfl))
    simp only [Act.put, List.setIfInBounds_toArray, List.set_cons_zero, List.set_cons_succ]
    refine wpAnyH_take (i := 3) (oi := ⟨some 40, _, _, _, _, _⟩) (v := ?vyba3_4) rfl (by kernel_rfl) (by kernel_rfl) (by kernel_rfl) (fun _ _ _ h => h) (Or.inl ⟨by rfl, ?yyba3_4⟩) hHeld ?ryba3_4
    case yyba3_4 => (intro w' hSw; (try dsimp only at hSw); go_simp; try (with_reducible rfl))
    simp only [Act.put, List.setIfInBounds_toArray, List.set_cons_zero, List.set_cons_succ]
    refine wpAnyH_take (i := 4) (oi := ⟨some 41, _, _, _, _, _⟩) (v := ?vyba4_5) rfl (by kernel_rfl) (by kernel_rfl) (by kernel_rfl) (fun _ _ _ h => h) (Or.inl ⟨by rfl, ?yyba4_5⟩) hHeld ?ryba4_5
    case yyba4_5 => (intro w' hSw; (try dsimp only at hSw); go_simp; try (with_reducible rfl))
    simp only [Act.put, List.setIfInBounds_toArray, List.set_cons_zero, List.set_cons_succ]
    refine wpAnyH_take (i := 5) (oi := ⟨some 42, _, _, _, _, _⟩) (v := ?vyba5_6) rfl (by kernel_rfl) (by kernel_rfl) (by kernel_rfl) (fun _ _ _ h => h) (Or.inl ⟨by rfl, ?yyba5_6⟩) hHeld ?ryba5_6
    case yyba5_6 => (intro w' hSw; (try dsimp only at hSw); go_simp; try (with_reducible rfl))
    simp only [Act.put, List.setIfInBounds_toArray, List.set_cons_zero, List.set_cons_succ]
    refine wpAnyH_ready (rs := [6]) (by kernel_rfl) (by simp) ?_
    refine AllReadyH.cons (o := ⟨none, _, _, _, _, _⟩) rfl (fun K hK => ?_) AllReadyH.nil
    obtain ⟨u1, hr1, hm1, hc1⟩ := mp_put (c := c) HM.out hwf hn HLEN.out
    unfold cubV at hr1
    go_simp
    refine hK.out _ _ ⟨hc1.cell hHeld.1 (fun e => HNE.out.1 e.symm), hc1.cell hHeld.2.1 (fun e => HNE.out.2 e.symm), hc1.cell hHeld.2.2.1 (fun e => HNE.out.2 e.symm), hc1.cell hHeld.2.2.2.1 (fun e => HNE.out.2 e.symm), hc1.cell hHeld.2.2.2.2 (fun e => HNE.out.2 e.symm)⟩ (fun hNext => ?_)
    clear hK K hHeld
    have hHeld := hNext
    clear hNext
    clear hr1
    try simp only [Act.put]
    refine wpAnyH_done (by kernel_rfl) ?_ _
    go_wp2_with fail
    go_meet
    exact ⟨hm1, HCD.out.trans hc1⟩
  case rest =>
  
    obtain ⟨hm9, hc9⟩ := hcut
    have HMP9 := Lib.hid hm9
    have HT9 := Lib.hid (hc9.blk HT.out (fun e => HNE.out.1 e.symm))
    have HX9 := Lib.hid (hc9.blk HX.out (fun e => HNE.out.2 e.symm))
    have HTR9 := Lib.hid (HTR.out.ch hc9 (fun y hy e => by have e2 : y = M := e; subst e2; exact HSEP.out.2.2 hy))
    have HCW9 := Lib.hid hc9
    clear hm9 hc9 HT HX HTR HM
    go_upto_region 11 with (fail)
    go_cut [] (fun wd => ∃ (p' : Option Addr) (S' : Nat → Prop), Blk wd B 57 #[.map (some M), .pointer p'] ∧ TrAt wd (t.ins x c) (.pointer p') S' ∧ MpAt wd (.map (some M)) (l ++ [(x, c)]) ∧ Nw wc Sr S' ∧ Ch (fun y => y = B ∨ Sr y) wc wd)
    case first =>
      have hbd := (Below.refl wc.heap.size wc).drew
      have HT := Lib.hid (HT9.out.on hbd)
      have HX := Lib.hid (HX9.out.on hbd)
      have HTR := Lib.hid (HTR9.out.on hbd)
      have HMP := Lib.hid (HMP9.out.ch (Q := fun _ => False) (Ch.of_below hbd) (fun _ _ h => h))
      have HC9 : Hid (Ch (fun y => y = B ∨ Sr y) wc wc.drew) := Ch.of_below hbd
      have HZ9 : Hid (wc.heap.size ≤ wc.drew.heap.size) := hbd.size
      clear hbd HT9 HX9 HTR9 HMP9
      refine wp_region_held_drew (S := fun _ => True) (by kernel_rfl) trivial (fun hHeld => ?_)
      generalize wc.drew = u0 at hHeld HT HX HTR HMP HC9 HZ9 ⊢
      refine wpAnyH_take (i := 0) (oi := ⟨some 43, _, _, _, _, _⟩) (v := ?vybb0_1) rfl (by kernel_rfl) (by kernel_rfl) (by kernel_rfl) (fun _ _ _ h => h) (Or.inl ⟨by rfl, ?yybb0_1⟩) hHeld ?rybb0_1
      case yybb0_1 => (intro w' hSw; (try dsimp only at hSw); go_simp; try (with_reducible rfl))
      simp only [Act.put, List.setIfInBounds_toArray, List.set_cons_zero, List.set_cons_succ]
      refine wpAnyH_take (i := 1) (oi := ⟨some 44, _, _, _, _, _⟩) (v := ?vybb1_2) rfl (by kernel_rfl) (by kernel_rfl) (by kernel_rfl) (fun _ _ _ h => h) (Or.inl ⟨by rfl, ?yybb1_2⟩) hHeld ?rybb1_2
      case yybb1_2 => (intro w' hSw; (try dsimp only at hSw); go_simp; try (with_reducible rfl))
      simp only [Act.put, List.setIfInBounds_toArray, List.set_cons_zero, List.set_cons_succ]
      refine wpAnyH_take (i := 2) (oi := ⟨some 45, _, _, _, _, _⟩) (v := ?vybb2_3) rfl (by kernel_rfl) (by kernel_rfl) (by kernel_rfl) (fun _ _ _ h => h) (Or.inl ⟨by rfl, ?yybb2_3⟩) hHeld ?rybb2_3
      case yybb2_3 => (intro w' hSw; (try dsimp only at hSw); go_simp; try (with_reducible rfl))
      simp only [Act.put, List.setIfInBounds_toArray, List.set_cons_zero, List.set_cons_succ]
      refine wpAnyH_take (i := 3) (oi := ⟨some 46, _, _, _, _, _⟩) (v := ?vybb3_4) rfl (by kernel_rfl) (by kernel_rfl) (by kernel_rfl) (fun _ _ _ h => h) (Or.inl ⟨by rfl, ?yybb3_4⟩) hHeld ?rybb3_4
      case yybb3_4 => (intro w' hSw; (try dsimp only at hSw); go_simp; try (with_reducible rfl))
      simp only [Act.put, List.setIfInBounds_toArray, List.set_cons_zero, List.set_cons_succ]
      refine wpAnyH_take (i := 5) (oi := ⟨some 48, _, _, _, _, _⟩) (v := ?vybb5_5) rfl (by kernel_rfl) (by kernel_rfl) (by kernel_rfl) (fun _ _ _ h => h) (Or.inl ⟨by rfl, ?yybb5_5⟩) hHeld ?rybb5_5
      case yybb5_5 => (intro w' hSw; (try dsimp only at hSw); go_simp; try (with_reducible rfl))
      simp only [Act.put, List.setIfInBounds_toArray, List.set_cons_zero, List.set_cons_succ]
      refine wpAnyH_ready (rs := [4, 6]) (by kernel_rfl) (by simp) ?_
      refine AllReadyH.cons (o := ⟨some 47, _, _, _, _, _⟩) rfl (fun K hK => ?_) ?_
      · have kA := (HT.out.cell 1).trans rfl
        simp only [List.getElem?_toArray, List.getElem?_cons_succ, List.getElem?_cons_zero] at kA
        go_simp
        refine hK.out _ _ trivial (fun hNext => ?_)
        clear hK K hHeld
        have hHeld := hNext
        clear hNext
        clear kA
        try simp only [Act.put, List.setIfInBounds_toArray, List.set_cons_zero, List.set_cons_succ]
        refine wpAnyH_ready (rs := [6]) (by kernel_rfl) (by simp) ?_
        refine AllReadyH.cons (o := ⟨some 49, _, _, _, _, _⟩) rfl (fun K hK => ?_) AllReadyH.nil
        have x0 := (HX.out.cell 0).trans rfl
        have x1 := (HX.out.cell 1).trans rfl
        have x2 := (HX.out.cell 2).trans rfl
        have x3 := (HX.out.cell 3).trans rfl
        simp only [List.getElem?_toArray, List.getElem?_cons_succ, List.getElem?_cons_zero] at x0 x1 x2 x3
        go_simp
        refine hK.out _ _ trivial (fun hNext => ?_)
        clear hK K hHeld
        have hHeld := hNext
        clear hNext
        clear x0 x1 x2 x3
        try simp only [Act.put, List.setIfInBounds_toArray, List.set_cons_zero, List.set_cons_succ]
        refine wpAnyH_ready (rs := [7]) (by kernel_rfl) (by simp) ?_
        refine AllReadyH.cons (o := ⟨some 50, _, _, _, _, _⟩) rfl (fun K hK => ?_) AllReadyH.nil
        go_simp
        (with_reducible refine (HCALL.out _ HTR.out).mono ?_)
        rintro e u1 ⟨v', S', rfl, hT', hn', hc'⟩
        (try dsimp only)
        refine hK.out _ _ trivial (fun hNext => ?_)
        clear hK K hHeld
        have hHeld := hNext
        clear hNext
        have HT2 := Lib.hid hT'
        have HN2 := Lib.hid hn'
        have HC2 := Lib.hid hc'
        clear hT' hn' hc'
        try simp only [Act.put, List.setIfInBounds_toArray, List.set_cons_zero, List.set_cons_succ]
        refine wpAnyH_take (i := 8) (oi := ⟨some 51, _, _, _, _, _⟩) (v := ?vybb8_6) rfl (by kernel_rfl) (by kernel_rfl) (by kernel_rfl) (fun _ _ _ h => h) (Or.inl ⟨by rfl, ?yybb8_6⟩) hHeld ?rybb8_6
        case yybb8_6 => (intro w' hSw; (try dsimp only at hSw); go_simp; try (with_reducible rfl))
        simp only [Act.put, List.setIfInBounds_toArray, List.set_cons_zero, List.set_cons_succ]
        refine wpAnyH_take (i := 9) (oi := ⟨some 52, _, _, _, _, _⟩) (v := ?vybb9_7) rfl (by kernel_rfl) (by kernel_rfl) (by kernel_rfl) (fun _ _ _ h => h) (Or.inl ⟨by rfl, ?yybb9_7⟩) hHeld ?rybb9_7
        case yybb9_7 => (intro w' hSw; (try dsimp only at hSw); go_simp; try (with_reducible rfl))
        simp only [Act.put, List.setIfInBounds_toArray, List.set_cons_zero, List.set_cons_succ]
        refine wpAnyH_ready (rs := [10]) (by kernel_rfl) (by simp) ?_
        refine AllReadyH.cons (o := ⟨none, _, _, _, _, _⟩) rfl (fun K hK => ?_) AllReadyH.nil
        obtain ⟨p', hp'⟩ := HT2.out.ptr
        subst hp'
        have hA := HC2.out.blk HT.out HSEP.out.1
        have kA := (hA.cell 1).trans rfl
        have gA := hA.free 1
        simp only [List.getElem?_toArray, List.getElem?_cons_succ, List.getElem?_cons_zero] at kA
        go_simp
        clear kA gA
        refine hK.out _ _ trivial (fun hNext => ?_)
        clear hK K hHeld
        have hHeld := hNext
        clear hNext
        have hA2 := hA.set 1 (.pointer p')
        simp only [List.setIfInBounds_toArray, List.set_cons_succ, List.set_cons_zero] at hA2
        have hcs : Ch (· = B) u1 (u1.setCell ⟨B, 1, none⟩ (.pointer p')) := Ch.set u1 ⟨B, 1, none⟩ _
        have HR1 := Lib.hid hA2
        have HR2 := Lib.hid (HT2.out.ch hcs (fun y hy e => by have e2 : y = B := e; subst e2; rcases HN2.out y hy with h | h; exact HSEP.out.1 h; exact absurd HT.out.lt (by omega)))
        have HR3 := Lib.hid ((HMP.out.ch HC2.out (fun M' hM' => by have e2 : M = M' := (by simpa [mpB] using hM'); subst e2; exact HSEP.out.2.2)).ch hcs (fun M' hM' e => by have e2 : M = M' := (by simpa [mpB] using hM'); subst e2; exact HSEP.out.2.1 e))
        have HR4 : Hid (Ch (fun y => y = B ∨ Sr y) wc (u1.setCell ⟨B, 1, none⟩ (.pointer p'))) := (HC9.out.trans (HC2.out.mono fun y _ hy => .inr hy)).trans (hcs.mono fun y _ hy => .inl hy)
        clear hA hA2 hcs
        generalize u1.setCell ⟨B, 1, none⟩ (.pointer p') = u2 at HR1 HR2 HR3 HR4 ⊢
        try simp only [Act.put]
        refine wpAnyH_done (by kernel_rfl) ?_ _
        have HN3 := Lib.hid (fun y hy => (HN2.out y hy).imp_right fun h => Nat.le_trans HZ9.out h : Nw wc Sr S')
        go_wp2_with fail
        go_meet
        exact ⟨p', S', HR1.out, HR2.out, HR3.out, HN3.out, HR4.out⟩
      refine AllReadyH.cons (o := ⟨some 49, _, _, _, _, _⟩) rfl (fun K hK => ?_) AllReadyH.nil
      have x0 := (HX.out.cell 0).trans rfl
      have x1 := (HX.out.cell 1).trans rfl
      have x2 := (HX.out.cell 2).trans rfl
      have x3 := (HX.out.cell 3).trans rfl
      simp only [List.getElem?_toArray, List.getElem?_cons_succ, List.getElem?_cons_zero] at x0 x1 x2 x3
      go_simp
      refine hK.out _ _ trivial (fun hNext => ?_)
      clear hK K hHeld
      have hHeld := hNext
      clear hNext
      clear x0 x1 x2 x3
      try simp only [Act.put, List.setIfInBounds_toArray, List.set_cons_zero, List.set_cons_succ]
      refine wpAnyH_ready (rs := [4]) (by kernel_rfl) (by simp) ?_
      refine AllReadyH.cons (o := ⟨some 47, _, _, _, _, _⟩) rfl (fun K hK => ?_) AllReadyH.nil
      have kA := (HT.out.cell 1).trans rfl
      simp only [List.getElem?_toArray, List.getElem?_cons_succ, List.getElem?_cons_zero] at kA
      go_simp
      refine hK.out _ _ trivial (fun hNext => ?_)
      clear hK K hHeld
      have hHeld := hNext
      clear hNext
      clear kA
      try simp only [Act.put, List.setIfInBounds_toArray, List.set_cons_zero, List.set_cons_succ]
      refine wpAnyH_ready (rs := [7]) (by kernel_rfl) (by simp) ?_
      refine AllReadyH.cons (o := ⟨some 50, _, _, _, _, _⟩) rfl (fun K hK => ?_) AllReadyH.nil
      go_simp
      (with_reducible refine (HCALL.out _ HTR.out).mono ?_)
      rintro e u3 ⟨v', S', rfl, hT', hn', hc'⟩
      (try dsimp only)
      refine hK.out _ _ trivial (fun hNext => ?_)
      clear hK K hHeld
      have hHeld := hNext
      clear hNext
      have HT2 := Lib.hid hT'
      have HN2 := Lib.hid hn'
      have HC2 := Lib.hid hc'
      clear hT' hn' hc'
      try simp only [Act.put, List.setIfInBounds_toArray, List.set_cons_zero, List.set_cons_succ]
      refine wpAnyH_take (i := 8) (oi := ⟨some 51, _, _, _, _, _⟩) (v := ?vybb8_8) rfl (by kernel_rfl) (by kernel_rfl) (by kernel_rfl) (fun _ _ _ h => h) (Or.inl ⟨by rfl, ?yybb8_8⟩) hHeld ?rybb8_8
      case yybb8_8 => (intro w' hSw; (try dsimp only at hSw); go_simp; try (with_reducible rfl))
      simp only [Act.put, List.setIfInBounds_toArray, List.set_cons_zero, List.set_cons_succ]
      refine wpAnyH_take (i := 9) (oi := ⟨some 52, _, _, _, _, _⟩) (v := ?vybb9_9) rfl (by kernel_rfl) (by kernel_rfl) (by kernel_rfl) (fun _ _ _ h => h) (Or.inl ⟨by rfl, ?yybb9_9⟩) hHeld ?rybb9_9
      case yybb9_9 => (intro w' hSw; (try dsimp only at hSw); go_simp; try (with_reducible rfl))
      simp only [Act.put, List.setIfInBounds_toArray, List.set_cons_zero, List.set_cons_succ]
      refine wpAnyH_ready (rs := [10]) (by kernel_rfl) (by simp) ?_
      refine AllReadyH.cons (o := ⟨none, _, _, _, _, _⟩) rfl (fun K hK => ?_) AllReadyH.nil
      obtain ⟨p', hp'⟩ := HT2.out.ptr
      subst hp'
      have hA := HC2.out.blk HT.out HSEP.out.1
      have kA := (hA.cell 1).trans rfl
      have gA := hA.free 1
      simp only [List.getElem?_toArray, List.getElem?_cons_succ, List.getElem?_cons_zero] at kA
      go_simp
      clear kA gA
      refine hK.out _ _ trivial (fun hNext => ?_)
      clear hK K hHeld
      have hHeld := hNext
      clear hNext
      have hA2 := hA.set 1 (.pointer p')
      simp only [List.setIfInBounds_toArray, List.set_cons_succ, List.set_cons_zero] at hA2
      have hcs : Ch (· = B) u3 (u3.setCell ⟨B, 1, none⟩ (.pointer p')) := Ch.set u3 ⟨B, 1, none⟩ _
      have HR1 := Lib.hid hA2
      have HR2 := Lib.hid (HT2.out.ch hcs (fun y hy e => by have e2 : y = B := e; subst e2; rcases HN2.out y hy with h | h; exact HSEP.out.1 h; exact absurd HT.out.lt (by omega)))
      have HR3 := Lib.hid ((HMP.out.ch HC2.out (fun M' hM' => by have e2 : M = M' := (by simpa [mpB] using hM'); subst e2; exact HSEP.out.2.2)).ch hcs (fun M' hM' e => by have e2 : M = M' := (by simpa [mpB] using hM'); subst e2; exact HSEP.out.2.1 e))
      have HR4 : Hid (Ch (fun y => y = B ∨ Sr y) wc (u3.setCell ⟨B, 1, none⟩ (.pointer p'))) := (HC9.out.trans (HC2.out.mono fun y _ hy => .inr hy)).trans (hcs.mono fun y _ hy => .inl hy)
      clear hA hA2 hcs
      generalize u3.setCell ⟨B, 1, none⟩ (.pointer p') = u4 at HR1 HR2 HR3 HR4 ⊢
      try simp only [Act.put]
      refine wpAnyH_done (by kernel_rfl) ?_ _
      have HN3 := Lib.hid (fun y hy => (HN2.out y hy).imp_right fun h => Nat.le_trans HZ9.out h : Nw wc Sr S')
      go_wp2_with fail
      go_meet
      exact ⟨p', S', HR1.out, HR2.out, HR3.out, HN3.out, HR4.out⟩
    case rest =>
      obtain ⟨p', S', r1, r2, r3, r4, r5⟩ := hcut
      have HR := Lib.hid (And.intro r1 (And.intro r2 (And.intro r3 (And.intro r4 r5))))
      clear r1 r2 r3 r4 r5
      go_wp2
      go_ret
      obtain ⟨r1, r2, r3, r4, r5⟩ := HR.out
      have hz := HCW9.out.size
      refine ⟨fun y => y = B ∨ some M = some y ∨ S' y, rfl, ⟨HTOK.out, some M, .pointer p', t.ins x c, S', r1, r3, HREP.out, r2, fun hB => ?_, fun M' hM' => ?_, fun _ => Iff.rfl⟩, fun y hy => ?_, ?_⟩
      · rcases r4 B hB with h | h
        · exact HSEP.out.1 h
        · have := HLT.out.1; omega
      · injection hM' with hM'
        subst hM'
        refine ⟨HSEP.out.2.1, fun hM => ?_⟩
        rcases r4 M hM with h | h
        · exact HSEP.out.2.2 h
        · have := HLT.out.2; omega
      · exact HNW.out y (by
          rcases hy with h | h | h
          · exact .inl h
          · injection h with h; exact .inr (.inl h.symm)
          · rcases r4 y h with h | h
            · exact .inr (.inr (.inl h))
            · exact .inr (.inr (.inr (by have := HZW.out; omega))))
      · exact ch_then (ch_then HCW.out HCW9.out HCM.out) r5 (fun y hy h => (HSS.out y).2 (h.imp_right .inr))
/-- Add: what the trie holds then, and the answer. -/
theorem add_c (x : Int) (c : Cb) (B : Nat) (l : List (Int × Cb)) (S : Nat → Prop) (w : World) (hwf : (Lit.int .i64 x).wf = true) (hlen : l.length ≤ 1099511627776) (h : TrieAt w B l S) :
    Calls Try.prog 10 #[.pointer (some ⟨B, 0, none⟩), .int .i64 x, .agg #[.int .u64 (uv c.vh), .int .u64 (uv c.vl), .int .u64 (uv c.ch), .int .u64 (uv c.cl)]] w (TrieTo w B (addT l x c) S (.int .i64 (addE l x c))) := by
  have h0 := h
  obtain ⟨ht, mb, rv, t, Sr, h1, h2, h3, h4, h5, h6, h7⟩ := h
  have stay : ∀ k : Int, addE l x c = k → k ≠ 0 → Calls Try.prog 10 #[.pointer (some ⟨B, 0, none⟩), .int .i64 x, .agg #[.int .u64 (uv c.vh), .int .u64 (uv c.vl), .int .u64 (uv c.ch), .int .u64 (uv c.cl)]] w (fun e w' => e = .returned (.int .i64 k) ∧ Below w.heap.size w w') → Calls Try.prog 10 #[.pointer (some ⟨B, 0, none⟩), .int .i64 x, .agg #[.int .u64 (uv c.vh), .int .u64 (uv c.vl), .int .u64 (uv c.ch), .int .u64 (uv c.cl)]] w (TrieTo w B (addT l x c) S (.int .i64 (addE l x c))) := by
    intro k hk hk0 hc
    refine hc.mono ?_
    rintro e w' ⟨rfl, hb⟩
    have e1 : addT l x c = l := by
      unfold addT
      rw [if_neg (fun e => hk0 (by rw [← hk]; exact addB_E.1 e))]
    rw [e1, hk]
    exact ⟨S, rfl, h0.on hb, fun _ h => .inl h, Ch.of_below hb⟩
  by_cases hx : x < 0
  · exact stay 1 (by unfold addE; rw [if_pos hx]) (by omega) (add_neg x c B w hx)
  · by_cases hc : c.snd = false
    · exact stay 2 (by unfold addE; rw [if_neg hx, if_pos hc]) (by omega) (add_form x c B w (by omega) hc)
    · have hct : c.snd = true := by simpa using hc
      by_cases hin : x ∈ tIds l
      · obtain ⟨⟨y, d⟩, hd, e⟩ := List.mem_map.1 hin
        have e2 : y = x := e
        subst e2
        exact stay 8 (by unfold addE; rw [if_neg hx, if_neg hc, if_pos hin]) (by omega) (add_there y c d B l rv mb w (by omega) hwf hct hd h1 h2)
      · have hE : addE l x c = 0 := by unfold addE; rw [if_neg hx, if_neg hc, if_neg hin]
        have e1 : addT l x c = l ++ [(x, c)] := by unfold addT; rw [if_pos (addB_E.2 hE)]
        rw [e1, hE]
        cases mb with
        | none => exact add_none x c B l rv t Sr S w (by omega) hwf hct hin hlen ht h3 h1 h2 h4 h5 h7
        | some M => exact add_some M x c B l rv t Sr S w (by omega) hwf hct hin hlen ht h3 h1 h2 h4 h5 (h6 M rfl).1 (h6 M rfl).2 h7
end Go.Proofs

namespace Go.Proofs
open Go.RowKit Go.Proofs.Hd Go.Lib
attribute [local go_sem] uv_nonneg
theorem new_c (w : World) : Calls Try.prog 7 #[] w fun e w' => ∃ B, e = .returned (.pointer (some ⟨B, 0, none⟩)) ∧ TrieAt w' B [] (fun y => y = B) ∧ w.heap.size ≤ B ∧ Below w.heap.size w w' := by
  have HS := Lib.hid (below1 w (.cells #[.map none, .pointer none] 57))
  have HB : Hid (Blk (w.alloc (.cells #[.map none, .pointer none] 57)) w.heap.size 57 #[.map none, .pointer none]) := Blk.new w _ _
  go_enter Try.func7, Try.ntmps7
  go_wp2
  go_ret
  refine ⟨w.heap.size, rfl, ⟨Tok.nil, none, .pointer none, .no, fun _ => False, HB.out, .inl ⟨rfl, rfl⟩, RepP.nil, ⟨rfl, fun _ h => h⟩, fun h => h, fun _ h => (by cases h), fun y => ⟨fun h => .inl h, fun h => ?_⟩⟩, Nat.le_refl _, HS.out⟩
  rcases h with h | h | h
  · exact h
  · cases h
  · exact h.elim
theorem len_nil (w : World) : Calls Try.prog 13 #[.pointer none] w fun e w' => e = .returned (.int .i64 0) ∧ w' = w := by
  go_enter Try.func13, Try.ntmps13
  go_wp2
  go_ret
  exact ⟨rfl, rfl⟩
theorem len_c (B : Nat) (l : List (Int × Cb)) (S : Nat → Prop) (w : World) (h : TrieAt w B l S) : Calls Try.prog 13 #[.pointer (some ⟨B, 0, none⟩)] w fun e w' => e = .returned (.int .i64 (l.length : Int)) ∧ w' = w := by
  obtain ⟨_, mb, rv, t, Sr, h1, h2, _⟩ := h
  have hl := mp_len h2
  have d0 := (h1.cell 0).trans rfl
  simp only [List.getElem?_toArray, List.getElem?_cons_zero] at d0
  clear h1 h2
  generalize (l.length : Int) = n at hl ⊢
  go_enter Try.func13, Try.ntmps13
  go_wp2
  go_ret
  exact ⟨rfl, rfl⟩
theorem rem_nil (x : Int) (w : World) : Calls Try.prog 11 #[.pointer none, .int .i64 x] w fun e w' => e = .returned (.bool false) ∧ w' = w := by
  go_enter Try.func11, Try.ntmps11
  go_wp2
  go_ret
  exact ⟨rfl, rfl⟩
theorem rem_no (x : Int) (B : Nat) (l : List (Int × Cb)) (rv : Value) (mb : Option Nat) (w : World) (hwf : (Lit.int .i64 x).wf = true) (hn : x ∉ tIds l) (hT : Blk w B 57 #[.map mb, rv]) (hM : MpAt w (.map mb) l) :
    Calls Try.prog 11 #[.pointer (some ⟨B, 0, none⟩), .int .i64 x] w fun e w' => e = .returned (.bool false) ∧ Below w.heap.size w w' := by
  have hl := mp_no hM hwf hn
  have d0 := (hT.cell 0).trans rfl
  simp only [List.getElem?_toArray, List.getElem?_cons_zero] at d0
  unfold cubV zeroC at hl
  have HB := Lib.hid (below1 w (.cells #[.int .u64 (uv 0#64), .int .u64 (uv 0#64), .int .u64 (uv 0#64), .int .u64 (uv 0#64)] 27))
  clear hT hM
  go_enter Try.func11, Try.ntmps11
  go_wp2
  go_ret
  exact ⟨rfl, HB.out⟩
set_option maxRecDepth 100000 in
set_option maxHeartbeats 4000000 in
theorem rem_yes (x : Int) (c : Cb) (B M : Nat) (l : List (Int × Cb)) (rv : Value) (t : Pt) (Sr S : Nat → Prop) (w : World) (hwf : (Lit.int .i64 x).wf = true) (hin : (x, c) ∈ l) (htok : Tok l) (hrep : RepP l t)
    (hT : Blk w B 57 #[.map (some M), rv]) (hM : MpAt w (.map (some M)) l) (hTr : TrAt w t rv Sr) (hSB : ¬ Sr B) (hMB : M ≠ B) (hMS : ¬ Sr M) (hS : ∀ y, S y ↔ y = B ∨ some M = some y ∨ Sr y) :
    Calls Try.prog 11 #[.pointer (some ⟨B, 0, none⟩), .int .i64 x] w (TrieTo w B (remT l x) S (.bool true)) := by
  have HCALL : Hid (∀ W, TrAt W t rv Sr → Calls Try.prog 23 #[rv, .int .i64 x, .agg #[.int .u64 (uv c.vh), .int .u64 (uv c.vl), .int .u64 (uv c.ch), .int .u64 (uv c.cl)]] W (TreeTo W (t.rem x c) Sr)) := fun W hW => wo_c x c t hrep.ok (hrep.perm.mem_iff.2 hin) rv Sr W hW
  have HTOK : Hid (Tok (remT l x)) := htok.rem x
  have HREP : Hid (RepP (remT l x) (t.rem x c)) := hrep.cut htok hin
  have HSS := Lib.hid hS
  have HSEP := Lib.hid (And.intro hSB (And.intro hMB hMS))
  have hl := mp_yes hM hwf hin
  have d0 := (hT.cell 0).trans rfl
  simp only [List.getElem?_toArray, List.getElem?_cons_zero] at d0
  unfold cubV at hl
  have hb3 := below1 w (.cells #[.int .u64 (uv c.vh), .int .u64 (uv c.vl), .int .u64 (uv c.ch), .int .u64 (uv c.cl)] 27)
  have HX3 : Hid (Blk (w.alloc (.cells #[.int .u64 (uv c.vh), .int .u64 (uv c.vl), .int .u64 (uv c.ch), .int .u64 (uv c.cl)] 27)) w.heap.size 27 #[.int .u64 (uv c.vh), .int .u64 (uv c.vl), .int .u64 (uv c.ch), .int .u64 (uv c.cl)]) := Blk.new w _ _
  have HT3 := Lib.hid (hT.on hb3)
  have HTR3 := Lib.hid (hTr.on hb3)
  have HM3 := Lib.hid (hM.ch (Q := fun _ => False) (Ch.of_below hb3) (fun _ _ h => h))
  have HB3 := Lib.hid hb3
  have HIN := Lib.hid (And.intro htok hin)
  have HZ0 := Lib.hid (And.intro hT.lt (hM.lt M rfl))
  clear hrep htok hS hSB hMB hMS hT hM hTr hb3 hin
  go_enter Try.func11, Try.ntmps11
  go_upto_region 4 with (fail)
  clear d0 hl
  generalize w.alloc (.cells #[.int .u64 (uv c.vh), .int .u64 (uv c.vl), .int .u64 (uv c.ch), .int .u64 (uv c.cl)] 27) = w1 at HT3 HX3 HTR3 HM3 HB3 ⊢
  generalize hbx : w.heap.size = bx at HX3 HB3 ⊢
  have HE := Lib.hid hbx
  clear hbx
  go_upto_region 6 with (fail)
  have d0 := (HT3.out.cell 0).trans rfl
  simp only [List.getElem?_toArray, List.getElem?_cons_zero] at d0
  obtain ⟨w2, hr2, hm2, hc2⟩ := mp_del HM3.out HIN.out.1 hwf HIN.out.2 0
  have hMb : ∀ k, mpB (.map (some M)) = some k ↔ k = M := fun k => by simp [mpB, eq_comm]
  have HMP := Lib.hid hm2
  have HT := Lib.hid (hc2.blk HT3.out (fun e => HSEP.out.2.1 ((hMb B).1 e).symm))
  have HX := Lib.hid (hc2.blk HX3.out (fun e => by have := HZ0.out.2; have := HE.out; have := (hMb bx).1 e; omega))
  have HTR := Lib.hid (HTR3.out.ch hc2 (fun y hy e => by have := (hMb y).1 e; subst this; exact HSEP.out.2.2 hy))
  have hs1 := HB3.out
  rw [← HE.out] at hs1
  have HCW := Lib.hid (ch_then (Ch.of_below hs1) hc2 (fun y _ hy => (HSS.out y).2 (.inr (.inl (by rw [(hMb y).1 hy])))) : Ch S w w2)
  have HLT : Hid (B < w2.heap.size ∧ M < w2.heap.size) := ⟨HT.out.lt, hm2.lt M rfl⟩
  clear hm2 hc2 hMb HT3 HX3 HTR3 HM3 HB3 hs1
  go_upto_region 7 with (fail)
  clear d0 hr2
  have hbd := (Below.refl w2.heap.size w2).drew
  have HTa := Lib.hid (HT.out.on hbd)
  have HXa := Lib.hid (HX.out.on hbd)
  have HTRa := Lib.hid (HTR.out.on hbd)
  have HMPa := Lib.hid (HMP.out.ch (Q := fun _ => False) (Ch.of_below hbd) (fun _ _ h => h))
  have HCW9 := Lib.hid (ch_then HCW.out (Ch.of_below hbd : Ch (fun _ => False) _ _) (fun _ _ h => h.elim))
  have HLTa : Hid (B < w2.drew.heap.size ∧ M < w2.drew.heap.size) := ⟨HLT.out.1, HLT.out.2⟩
  clear hbd HT HX HTR HMP HCW HLT
  have HT := HTa
  have HX := HXa
  have HTR := HTRa
  have HMP := HMPa
  have HLT := HLTa
  clear HTa HXa HTRa HMPa HLTa
  refine wp_region_held_drew (S := fun _ => True) (by kernel_rfl) trivial (fun hHeld => ?_)
  generalize hwd : w2.drew = wd at hHeld HT HX HTR HMP HCW9 HLT ⊢
  clear hwd
  have HC9 : Hid (Ch (fun y => y = B ∨ Sr y) wd wd) := Ch.refl _ _
  have HZ9 : Hid (wd.heap.size ≤ wd.heap.size) := Nat.le_refl _
  have HZW : Hid (w.heap.size ≤ wd.heap.size) := HCW9.out.size
  refine wpAnyH_take (i := 0) (oi := ⟨some 25, _, _, _, _, _⟩) (v := ?vra0_1) rfl (by kernel_rfl) (by kernel_rfl) (by kernel_rfl) (fun _ _ _ h => h) (Or.inl ⟨by rfl, ?yra0_1⟩) hHeld ?rra0_1
  case yra0_1 => (intro w' hSw; (try dsimp only at hSw); go_simp; try (with_reducible rfl))
  simp only [Act.put, List.setIfInBounds_toArray, List.set_cons_zero, List.set_cons_succ]
  refine wpAnyH_take (i := 1) (oi := ⟨some 26, _, _, _, _, _⟩) (v := ?vra1_2) rfl (by kernel_rfl) (by kernel_rfl) (by kernel_rfl) (fun _ _ _ h => h) (Or.inl ⟨by rfl, ?yra1_2⟩) hHeld ?rra1_2
  case yra1_2 => (intro w' hSw; (try dsimp only at hSw); go_simp; try (with_reducible rfl))
  simp only [Act.put, List.setIfInBounds_toArray, List.set_cons_zero, List.set_cons_succ]
  refine wpAnyH_take (i := 2) (oi := ⟨some 27, _, _, _, _, _⟩) (v := ?vra2_3) rfl (by kernel_rfl) (by kernel_rfl) (by kernel_rfl) (fun _ _ _ h => h) (Or.inl ⟨by rfl, ?yra2_3⟩) hHeld ?rra2_3
  case yra2_3 => (intro w' hSw; (try dsimp only at hSw); go_simp; try (with_reducible rfl))
  simp only [Act.put, List.setIfInBounds_toArray, List.set_cons_zero, List.set_cons_succ]
  refine wpAnyH_take (i := 3) (oi := ⟨some 28, _, _, _, _, _⟩) (v := ?vra3_4) rfl (by kernel_rfl) (by kernel_rfl) (by kernel_rfl) (fun _ _ _ h => h) (Or.inl ⟨by rfl, ?yra3_4⟩) hHeld ?rra3_4
  case yra3_4 => (intro w' hSw; (try dsimp only at hSw); go_simp; try (with_reducible rfl))
  simp only [Act.put, List.setIfInBounds_toArray, List.set_cons_zero, List.set_cons_succ]
  refine wpAnyH_take (i := 5) (oi := ⟨some 30, _, _, _, _, _⟩) (v := ?vra5_5) rfl (by kernel_rfl) (by kernel_rfl) (by kernel_rfl) (fun _ _ _ h => h) (Or.inl ⟨by rfl, ?yra5_5⟩) hHeld ?rra5_5
  case yra5_5 => (intro w' hSw; (try dsimp only at hSw); go_simp; try (with_reducible rfl))
  simp only [Act.put, List.setIfInBounds_toArray, List.set_cons_zero, List.set_cons_succ]
  refine wpAnyH_ready (rs := [4, 6]) (by kernel_rfl) (by simp) ?_
  refine AllReadyH.cons (o := ⟨some 29, _, _, _, _, _⟩) rfl (fun K hK => ?_) ?_
  · have kA := (HT.out.cell 1).trans rfl
    simp only [List.getElem?_toArray, List.getElem?_cons_succ, List.getElem?_cons_zero] at kA
    go_simp
    refine hK.out _ _ trivial (fun hNext => ?_)
    clear hK K hHeld
    have hHeld := hNext
    clear hNext
    clear kA
    try simp only [Act.put, List.setIfInBounds_toArray, List.set_cons_zero, List.set_cons_succ]
    refine wpAnyH_ready (rs := [6]) (by kernel_rfl) (by simp) ?_
    refine AllReadyH.cons (o := ⟨some 31, _, _, _, _, _⟩) rfl (fun K hK => ?_) AllReadyH.nil
    have x0 := (HX.out.cell 0).trans rfl
    have x1 := (HX.out.cell 1).trans rfl
    have x2 := (HX.out.cell 2).trans rfl
    have x3 := (HX.out.cell 3).trans rfl
    simp only [List.getElem?_toArray, List.getElem?_cons_succ, List.getElem?_cons_zero] at x0 x1 x2 x3
    go_simp
    refine hK.out _ _ trivial (fun hNext => ?_)
    clear hK K hHeld
    have hHeld := hNext
    clear hNext
    clear x0 x1 x2 x3
    try simp only [Act.put, List.setIfInBounds_toArray, List.set_cons_zero, List.set_cons_succ]
    refine wpAnyH_ready (rs := [7]) (by kernel_rfl) (by simp) ?_
    refine AllReadyH.cons (o := ⟨some 32, _, _, _, _, _⟩) rfl (fun K hK => ?_) AllReadyH.nil
    go_simp
    (with_reducible refine (HCALL.out _ HTR.out).mono ?_)
    rintro e u1 ⟨v', S', rfl, hT', hn', hc'⟩
    (try dsimp only)
    refine hK.out _ _ trivial (fun hNext => ?_)
    clear hK K hHeld
    have hHeld := hNext
    clear hNext
    have HT2 := Lib.hid hT'
    have HN2 := Lib.hid hn'
    have HC2 := Lib.hid hc'
    clear hT' hn' hc'
    try simp only [Act.put, List.setIfInBounds_toArray, List.set_cons_zero, List.set_cons_succ]
    refine wpAnyH_take (i := 8) (oi := ⟨some 33, _, _, _, _, _⟩) (v := ?vra8_6) rfl (by kernel_rfl) (by kernel_rfl) (by kernel_rfl) (fun _ _ _ h => h) (Or.inl ⟨by rfl, ?yra8_6⟩) hHeld ?rra8_6
    case yra8_6 => (intro w' hSw; (try dsimp only at hSw); go_simp; try (with_reducible rfl))
    simp only [Act.put, List.setIfInBounds_toArray, List.set_cons_zero, List.set_cons_succ]
    refine wpAnyH_take (i := 9) (oi := ⟨some 34, _, _, _, _, _⟩) (v := ?vra9_7) rfl (by kernel_rfl) (by kernel_rfl) (by kernel_rfl) (fun _ _ _ h => h) (Or.inl ⟨by rfl, ?yra9_7⟩) hHeld ?rra9_7
    case yra9_7 => (intro w' hSw; (try dsimp only at hSw); go_simp; try (with_reducible rfl))
    simp only [Act.put, List.setIfInBounds_toArray, List.set_cons_zero, List.set_cons_succ]
    refine wpAnyH_ready (rs := [10]) (by kernel_rfl) (by simp) ?_
    refine AllReadyH.cons (o := ⟨none, _, _, _, _, _⟩) rfl (fun K hK => ?_) AllReadyH.nil
    obtain ⟨p', hp'⟩ := HT2.out.ptr
    subst hp'
    have hA := HC2.out.blk HT.out HSEP.out.1
    have kA := (hA.cell 1).trans rfl
    have gA := hA.free 1
    simp only [List.getElem?_toArray, List.getElem?_cons_succ, List.getElem?_cons_zero] at kA
    go_simp
    clear kA gA
    refine hK.out _ _ trivial (fun hNext => ?_)
    clear hK K hHeld
    have hHeld := hNext
    clear hNext
    have hA2 := hA.set 1 (.pointer p')
    simp only [List.setIfInBounds_toArray, List.set_cons_succ, List.set_cons_zero] at hA2
    have hcs : Ch (· = B) u1 (u1.setCell ⟨B, 1, none⟩ (.pointer p')) := Ch.set u1 ⟨B, 1, none⟩ _
    have HR1 := Lib.hid hA2
    have HR2 := Lib.hid (HT2.out.ch hcs (fun y hy e => by have e2 : y = B := e; subst e2; rcases HN2.out y hy with h | h; exact HSEP.out.1 h; exact absurd HT.out.lt (by omega)))
    have HR3 := Lib.hid ((HMP.out.ch HC2.out (fun M' hM' => by have e2 : M = M' := (by simpa [mpB] using hM'); subst e2; exact HSEP.out.2.2)).ch hcs (fun M' hM' e => by have e2 : M = M' := (by simpa [mpB] using hM'); subst e2; exact HSEP.out.2.1 e))
    have HR4 : Hid (Ch (fun y => y = B ∨ Sr y) wd (u1.setCell ⟨B, 1, none⟩ (.pointer p'))) := (HC9.out.trans (HC2.out.mono fun y _ hy => .inr hy)).trans (hcs.mono fun y _ hy => .inl hy)
    have HN3 := Lib.hid (fun y hy => (HN2.out y hy).imp_right fun h => Nat.le_trans HZ9.out h : Nw wd Sr S')
    clear hA hA2 hcs HT2 HN2 HC2 HT HX HTR HMP HCALL
    generalize u1.setCell ⟨B, 1, none⟩ (.pointer p') = u2 at HR1 HR2 HR3 HR4 ⊢
    try simp only [Act.put]
    refine wpAnyH_done (by kernel_rfl) ?_ _
    go_wp2
    go_ret
    have r1 := HR1.out
    have r2 := HR2.out
    have r3 := HR3.out
    have r4 := HN3.out
    have r5 := HR4.out
    have hz := HCW9.out.size
    have hzw := HZW.out
    refine ⟨fun y => y = B ∨ some M = some y ∨ S' y, rfl, ⟨HTOK.out, some M, .pointer p', t.rem x c, S', r1, r3, HREP.out, r2, fun hB => ?_, fun M' hM' => ?_, fun _ => Iff.rfl⟩, fun y hy => ?_, ?_⟩
    · rcases r4 B hB with h | h
      · exact HSEP.out.1 h
      · have := HLT.out.1; omega
    · injection hM' with hM'
      subst hM'
      refine ⟨HSEP.out.2.1, fun hM => ?_⟩
      rcases r4 M hM with h | h
      · exact HSEP.out.2.2 h
      · have := HLT.out.2; omega
    · rcases hy with h | h | h
      · exact .inl ((HSS.out y).2 (.inl h))
      · exact .inl ((HSS.out y).2 (.inr (.inl h)))
      · rcases r4 y h with h | h
        · exact .inl ((HSS.out y).2 (.inr (.inr h)))
        · exact .inr (by omega)
    · exact ch_then HCW9.out r5 (fun y hy h => (HSS.out y).2 (h.imp_right .inr))
  refine AllReadyH.cons (o := ⟨some 31, _, _, _, _, _⟩) rfl (fun K hK => ?_) AllReadyH.nil
  have x0 := (HX.out.cell 0).trans rfl
  have x1 := (HX.out.cell 1).trans rfl
  have x2 := (HX.out.cell 2).trans rfl
  have x3 := (HX.out.cell 3).trans rfl
  simp only [List.getElem?_toArray, List.getElem?_cons_succ, List.getElem?_cons_zero] at x0 x1 x2 x3
  go_simp
  refine hK.out _ _ trivial (fun hNext => ?_)
  clear hK K hHeld
  have hHeld := hNext
  clear hNext
  clear x0 x1 x2 x3
  try simp only [Act.put, List.setIfInBounds_toArray, List.set_cons_zero, List.set_cons_succ]
  refine wpAnyH_ready (rs := [4]) (by kernel_rfl) (by simp) ?_
  refine AllReadyH.cons (o := ⟨some 29, _, _, _, _, _⟩) rfl (fun K hK => ?_) AllReadyH.nil
  have kA := (HT.out.cell 1).trans rfl
  simp only [List.getElem?_toArray, List.getElem?_cons_succ, List.getElem?_cons_zero] at kA
  go_simp
  refine hK.out _ _ trivial (fun hNext => ?_)
  clear hK K hHeld
  have hHeld := hNext
  clear hNext
  clear kA
  try simp only [Act.put, List.setIfInBounds_toArray, List.set_cons_zero, List.set_cons_succ]
  refine wpAnyH_ready (rs := [7]) (by kernel_rfl) (by simp) ?_
  refine AllReadyH.cons (o := ⟨some 32, _, _, _, _, _⟩) rfl (fun K hK => ?_) AllReadyH.nil
  go_simp
  (with_reducible refine (HCALL.out _ HTR.out).mono ?_)
  rintro e u3 ⟨v', S', rfl, hT', hn', hc'⟩
  (try dsimp only)
  refine hK.out _ _ trivial (fun hNext => ?_)
  clear hK K hHeld
  have hHeld := hNext
  clear hNext
  have HT2 := Lib.hid hT'
  have HN2 := Lib.hid hn'
  have HC2 := Lib.hid hc'
  clear hT' hn' hc'
  try simp only [Act.put, List.setIfInBounds_toArray, List.set_cons_zero, List.set_cons_succ]
  refine wpAnyH_take (i := 8) (oi := ⟨some 33, _, _, _, _, _⟩) (v := ?vra8_8) rfl (by kernel_rfl) (by kernel_rfl) (by kernel_rfl) (fun _ _ _ h => h) (Or.inl ⟨by rfl, ?yra8_8⟩) hHeld ?rra8_8
  case yra8_8 => (intro w' hSw; (try dsimp only at hSw); go_simp; try (with_reducible rfl))
  simp only [Act.put, List.setIfInBounds_toArray, List.set_cons_zero, List.set_cons_succ]
  refine wpAnyH_take (i := 9) (oi := ⟨some 34, _, _, _, _, _⟩) (v := ?vra9_9) rfl (by kernel_rfl) (by kernel_rfl) (by kernel_rfl) (fun _ _ _ h => h) (Or.inl ⟨by rfl, ?yra9_9⟩) hHeld ?rra9_9
  case yra9_9 => (intro w' hSw; (try dsimp only at hSw); go_simp; try (with_reducible rfl))
  simp only [Act.put, List.setIfInBounds_toArray, List.set_cons_zero, List.set_cons_succ]
  refine wpAnyH_ready (rs := [10]) (by kernel_rfl) (by simp) ?_
  refine AllReadyH.cons (o := ⟨none, _, _, _, _, _⟩) rfl (fun K hK => ?_) AllReadyH.nil
  obtain ⟨p', hp'⟩ := HT2.out.ptr
  subst hp'
  have hA := HC2.out.blk HT.out HSEP.out.1
  have kA := (hA.cell 1).trans rfl
  have gA := hA.free 1
  simp only [List.getElem?_toArray, List.getElem?_cons_succ, List.getElem?_cons_zero] at kA
  go_simp
  clear kA gA
  refine hK.out _ _ trivial (fun hNext => ?_)
  clear hK K hHeld
  have hHeld := hNext
  clear hNext
  have hA2 := hA.set 1 (.pointer p')
  simp only [List.setIfInBounds_toArray, List.set_cons_succ, List.set_cons_zero] at hA2
  have hcs : Ch (· = B) u3 (u3.setCell ⟨B, 1, none⟩ (.pointer p')) := Ch.set u3 ⟨B, 1, none⟩ _
  have HR1 := Lib.hid hA2
  have HR2 := Lib.hid (HT2.out.ch hcs (fun y hy e => by have e2 : y = B := e; subst e2; rcases HN2.out y hy with h | h; exact HSEP.out.1 h; exact absurd HT.out.lt (by omega)))
  have HR3 := Lib.hid ((HMP.out.ch HC2.out (fun M' hM' => by have e2 : M = M' := (by simpa [mpB] using hM'); subst e2; exact HSEP.out.2.2)).ch hcs (fun M' hM' e => by have e2 : M = M' := (by simpa [mpB] using hM'); subst e2; exact HSEP.out.2.1 e))
  have HR4 : Hid (Ch (fun y => y = B ∨ Sr y) wd (u3.setCell ⟨B, 1, none⟩ (.pointer p'))) := (HC9.out.trans (HC2.out.mono fun y _ hy => .inr hy)).trans (hcs.mono fun y _ hy => .inl hy)
  have HN3 := Lib.hid (fun y hy => (HN2.out y hy).imp_right fun h => Nat.le_trans HZ9.out h : Nw wd Sr S')
  clear hA hA2 hcs HT2 HN2 HC2 HT HX HTR HMP HCALL
  generalize u3.setCell ⟨B, 1, none⟩ (.pointer p') = u4 at HR1 HR2 HR3 HR4 ⊢
  try simp only [Act.put]
  refine wpAnyH_done (by kernel_rfl) ?_ _
  go_wp2
  go_ret
  have r1 := HR1.out
  have r2 := HR2.out
  have r3 := HR3.out
  have r4 := HN3.out
  have r5 := HR4.out
  have hz := HCW9.out.size
  have hzw := HZW.out
  refine ⟨fun y => y = B ∨ some M = some y ∨ S' y, rfl, ⟨HTOK.out, some M, .pointer p', t.rem x c, S', r1, r3, HREP.out, r2, fun hB => ?_, fun M' hM' => ?_, fun _ => Iff.rfl⟩, fun y hy => ?_, ?_⟩
  · rcases r4 B hB with h | h
    · exact HSEP.out.1 h
    · have := HLT.out.1; omega
  · injection hM' with hM'
    subst hM'
    refine ⟨HSEP.out.2.1, fun hM => ?_⟩
    rcases r4 M hM with h | h
    · exact HSEP.out.2.2 h
    · have := HLT.out.2; omega
  · rcases hy with h | h | h
    · exact .inl ((HSS.out y).2 (.inl h))
    · exact .inl ((HSS.out y).2 (.inr (.inl h)))
    · rcases r4 y h with h | h
      · exact .inl ((HSS.out y).2 (.inr (.inr h)))
      · exact .inr (by omega)
  · exact ch_then HCW9.out r5 (fun y hy h => (HSS.out y).2 (h.imp_right .inr))
/-- Remove: what the trie holds then, and the answer. -/
theorem rem_c (x : Int) (B : Nat) (l : List (Int × Cb)) (S : Nat → Prop) (w : World) (hwf : (Lit.int .i64 x).wf = true) (h : TrieAt w B l S) :
    Calls Try.prog 11 #[.pointer (some ⟨B, 0, none⟩), .int .i64 x] w (TrieTo w B (remT l x) S (.bool (decide (x ∈ tIds l)))) := by
  have h0 := h
  obtain ⟨ht, mb, rv, t, Sr, h1, h2, h3, h4, h5, h6, h7⟩ := h
  by_cases hin : x ∈ tIds l
  · obtain ⟨⟨y, d⟩, hd, e⟩ := List.mem_map.1 hin
    have e2 : y = x := e
    subst e2
    rw [decide_eq_true hin]
    cases mb with
    | none =>
      rcases h2 with ⟨_, e⟩ | ⟨_, _, e, _⟩
      · rw [e] at hd; cases hd
      · cases e
    | some M => exact rem_yes y d B M l rv t Sr S w hwf hd ht h3 h1 h2 h4 h5 (h6 M rfl).1 (h6 M rfl).2 h7
  · rw [decide_eq_false hin, remT_out hin]
    refine (rem_no x B l rv mb w hwf hin h1 h2).mono ?_
    rintro e w' ⟨rfl, hb⟩
    exact ⟨S, rfl, h0.on hb, fun _ h => .inl h, Ch.of_below hb⟩
end Go.Proofs

namespace Go.Proofs.Hd
open Go.RowKit
theorem grw_trans {a b c : World} {o p q : Option Nat} (h : Grw a b o p) (k : Grw b c p q) : Grw a c o q := by
  refine ⟨⟨k.1.os.trans h.1.os, k.1.tape.trans h.1.tape, k.1.output.trans h.1.output, Nat.le_trans h.1.size k.1.size, fun i hi hn => ?_⟩, ?_⟩
  · refine (k.1.block i (Nat.lt_of_lt_of_le hi h.1.size) fun e => ?_).trans (h.1.block i hi hn)
    rcases h.2 with h2 | ⟨m, h2, hm⟩
    · exact hn (by rw [e, h2])
    · rw [h2] at e
      injection e with e
      omega
  · rcases k.2 with k2 | ⟨m, k2, hm⟩
    · rcases h.2 with h2 | ⟨m, h2, hm⟩
      · exact .inl (k2.trans h2)
      · exact .inr ⟨m, k2.trans h2, hm⟩
    · exact .inr ⟨m, k2, Nat.le_trans h.1.size hm⟩
theorem grw_below {a b : World} (h : Below a.heap.size a b) (o : Option Nat) : Grw a b o o := ⟨grown_of_below h o, .inl rfl⟩
theorem grw_ch {a b : World} {o p : Option Nat} (h : Grw a b o p) : Ch (fun k => o = some k) a b := ⟨h.1.os, h.1.tape, h.1.output, h.1.size, fun k hk hn => h.1.block k hk (fun e => hn e.symm)⟩
/-- Two rows of different elements are apart. -/
theorem own_own {w : World} {b1 b2 : Nat} {e1 e2 : TypeId} {z1 z2 : Nat} {v1 v2 : Value} {n1 n2 : Nat} {x1 x2 : List Value} (h1 : w.ownsRow b1 e1 z1 v1 n1 x1) (h2 : w.ownsRow b2 e2 z2 v2 n2 x2) (he : e1 ≠ e2) (g : Nat) (g1 : v1.ownBlock = some g) : v2.ownBlock ≠ some g := fun g2 => by
  rcases h1.2 with ⟨rfl, _⟩ | ⟨a1, c1, u1, rfl, _, k1, _⟩
  · cases g1
  · rcases h2.2 with ⟨rfl, _⟩ | ⟨a2, c2, u2, rfl, _, k2, _⟩
    · cases g2
    · have e1 : a1 = g := by simpa [Value.ownBlock] using g1
      have e2 : a2 = g := by simpa [Value.ownBlock] using g2
      subst e1 e2
      rw [k1] at k2
      injection k2 with k2
      injection k2 with _ k2
      exact he k2
/-- A row of pointers is apart from a tree's blocks. -/
theorem TrAt.row {w : World} {base n : Nat} {lv : Value} {P : List Value} (hr : w.ownsRow base 55 1 lv n P) : ∀ {t : Pt} {v : Value} {S : Nat → Prop}, TrAt w t v S → ∀ x, S x → lv.ownBlock ≠ some x
  | .no, _, _, h, x, hx => absurd hx (h.2 x)
  | .lf c ids, _, _, h, x, hx => by
    obtain ⟨B, u, _, h1, h2⟩ := h
    rcases (h2 x).1 hx with rfl | hx
    · exact fun e => own_apart hr h1.1 (by decide) e.symm
    · exact own_own h1.2 hr (by decide) x hx
  | .nd a s b, _, _, h, x, hx => by
    obtain ⟨B, vs, Ss, _, h1, h2, _, h3⟩ := h
    rcases (h3 x).1 hx with rfl | ⟨k, hk, hx⟩
    · exact fun e => own_apart hr h1 (by decide) e.symm
    · exact TrAt.row hr (h2 k hk) x hx
/-- Pointers to leaves. -/
def Lvs (w : World) (S : Nat → Prop) : List Value → List (Cb × List Int) → Prop
  | [], [] => True
  | v :: Q, p :: L => (∃ B u, v = ptrV B ∧ LfAt w B p.1 p.2 u ∧ S B ∧ ∀ g, u.ownBlock = some g → S g) ∧ Lvs w S Q L
  | _, _ => False
theorem Lvs.app {w : World} {S : Nat → Prop} : ∀ {Q : List Value} {L : List (Cb × List Int)} {Q' : List Value} {L' : List (Cb × List Int)}, Lvs w S Q L → Lvs w S Q' L' → Lvs w S (Q ++ Q') (L ++ L')
  | [], [], _, _, _, h => h
  | _ :: _, _ :: _, _, _, h, h' => ⟨h.1, h.2.app h'⟩
  | [], _ :: _, _, _, h, _ => h.elim
  | _ :: _, [], _, _, h, _ => h.elim
theorem Lvs.len {w : World} {S : Nat → Prop} : ∀ {Q : List Value} {L : List (Cb × List Int)}, Lvs w S Q L → Q.length = L.length
  | [], [], _ => rfl
  | _ :: _, _ :: _, h => congrArg (· + 1) h.2.len
  | [], _ :: _, h => h.elim
  | _ :: _, [], h => h.elim
theorem Lvs.mono {w : World} {S S' : Nat → Prop} (hS : ∀ x, S x → S' x) : ∀ {Q : List Value} {L : List (Cb × List Int)}, Lvs w S Q L → Lvs w S' Q L
  | [], [], _ => trivial
  | _ :: _, _ :: _, ⟨⟨B, u, h1, h2, h3, h4⟩, h⟩ => ⟨⟨B, u, h1, h2, hS B h3, fun g hg => hS g (h4 g hg)⟩, h.mono hS⟩
  | [], _ :: _, h => h.elim
  | _ :: _, [], h => h.elim
theorem Lvs.ch {w w' : World} {S R : Nat → Prop} (hc : Ch R w w') (hS : ∀ x, S x → ¬ R x) : ∀ {Q : List Value} {L : List (Cb × List Int)}, Lvs w S Q L → Lvs w' S Q L
  | [], [], _ => trivial
  | _ :: _, _ :: _, ⟨⟨B, u, h1, h2, h3, h4⟩, h⟩ => ⟨⟨B, u, h1, h2.ch hc (hS B h3) (fun g hg => hS g (h4 g hg)), h3, h4⟩, h.ch hc hS⟩
  | [], _ :: _, h => h.elim
  | _ :: _, [], h => h.elim
/-- .. and back: where the tree has not changed since. -/
theorem Lvs.back {w w' : World} {t : Pt} {v : Value} {S : Nat → Prop} (h : TrAt w t v S) (hl : ∀ x, S x → w'.heap[x]? = w.heap[x]?) : ∀ {Q : List Value} {L : List (Cb × List Int)}, Lvs w' S Q L → Lvs w S Q L
  | [], [], _ => trivial
  | _ :: _, _ :: _, ⟨⟨B, u, h1, ⟨h2, h2'⟩, h3, h4⟩, hr⟩ => ⟨⟨B, u, h1, ⟨(hl B h3).symm.trans h2, h2'.1, by
      rcases h2'.2 with e | ⟨g, cap, cur, rfl, hb, hg, rest⟩
      · exact .inl e
      · exact .inr ⟨g, cap, cur, rfl, hb, (hl g (h4 g rfl)).symm.trans hg, rest⟩⟩, h3, h4⟩, hr.back h hl⟩
  | [], _ :: _, h' => h'.elim
  | _ :: _, [], h' => h'.elim
theorem Lvs.get {w : World} {S : Nat → Prop} : ∀ {Q : List Value} {L : List (Cb × List Int)} {i : Nat} {p : Cb × List Int}, Lvs w S Q L → L[i]? = some p → ∃ B u, Q[i]? = some (ptrV B) ∧ LfAt w B p.1 p.2 u ∧ S B ∧ ∀ g, u.ownBlock = some g → S g
  | [], [], _, _, _, h => by simp at h
  | v :: Q, q :: L, 0, p, h, hp => by
    simp only [List.getElem?_cons_zero, Option.some.injEq] at hp
    subst hp
    obtain ⟨⟨B, u, rfl, h2, h3, h4⟩, _⟩ := h
    exact ⟨B, u, rfl, h2, h3, h4⟩
  | v :: Q, q :: L, i + 1, p, h, hp => by
    simp only [List.getElem?_cons_succ] at hp ⊢
    exact h.2.get hp
  | [], _ :: _, _, _, h, _ => h.elim
  | _ :: _, [], _, _, h, _ => h.elim
/-- What the first k branches give to a search. -/
def srK (f : Nat → Nat → Bool) (a : Nat) (b : Nat → Pt) : Nat → List (Cb × List Int)
  | 0 => []
  | k + 1 => srK f a b k ++ (if f a k = true then (b k).srch f else [])
theorem srK_all (f : Nat → Nat → Bool) (a : Nat) (s : Cb) (b : Nat → Pt) : (Pt.nd a s b).srch f = srK f a b 3 := by
  show _ = (([] ++ _) ++ _) ++ _
  rw [List.nil_append, List.append_assoc]
  rfl
theorem srK_yes {f : Nat → Nat → Bool} {a : Nat} {b : Nat → Pt} {k : Nat} (h : f a k = true) : srK f a b (k + 1) = srK f a b k ++ (b k).srch f := by
  rw [srK, if_pos h]
theorem srK_no {f : Nat → Nat → Bool} {a : Nat} {b : Nat → Pt} {k : Nat} (h : f a k = false) : srK f a b (k + 1) = srK f a b k := by
  rw [srK, if_neg (by rw [h]; simp), List.append_nil]
theorem srK_le (f : Nat → Nat → Bool) (a : Nat) (b : Nat → Pt) (k : Nat) : (srK f a b k).length ≤ (srK f a b (k + 1)).length := by
  rw [srK, List.length_append]; omega
/-- What a search hands back: the row with the pointers to the leaves it found. -/
def FndTo (w : World) (base : Nat) (S : Nat → Prop) (lv : Value) (n : Nat) (P : List Value) (L : List (Cb × List Int)) (e : Ending) (w' : World) : Prop :=
  ∃ lv' Q, e = .returned lv' ∧ w'.ownsRow base 55 1 lv' (n + Q.length) (P ++ Q) ∧ Grw w w' lv.ownBlock lv'.ownBlock ∧ Lvs w S Q L
end Go.Proofs.Hd
namespace Go.Proofs
open Go.RowKit Go.Proofs.Hd Go.Lib
attribute [local go_sem] uv_nonneg
/-- A leaf is found. -/
theorem sr_leaf (c d : Cb) (B : Nat) (ids : List Int) (u : Value) (S : Nat → Prop) (w : World) (base : Nat) (lv : Value) (n : Nat) (P : List Value) (hL : LfAt w B d ids u) (hS : ∀ x, S x ↔ x = B ∨ u.ownBlock = some x) (hb : base ≤ w.heap.size) (hO : w.ownsRow base 55 1 lv n P) (hn : n + 1 ≤ 1099511627776) :
    Calls Try.prog 26 #[.pointer (some ⟨B, 0, none⟩), .func (.func 27) #[.agg #[.int .u64 (uv c.vh), .int .u64 (uv c.vl), .int .u64 (uv c.ch), .int .u64 (uv c.cl)]] #[], lv] w (FndTo w base S lv n P [(d, ids)]) := by
  obtain ⟨ic, hic, hcz0, hcz1, hcz2⟩ := info_parts info_ptrT
  have d0 := (hL.1.cell 0).trans rfl
  unfold ndCells at d0
  simp only [List.getElem?_toArray, List.getElem?_cons_zero] at d0
  have HL := Lib.hid hL
  have HS := Lib.hid hS
  have HO := Lib.hid hO
  clear hL hS hO
  go_enter Try.func26, Try.ntmps26
  go_upto_region 4 with (fail)
  have hb3 := below1 w (.cells #[.pointer (some ⟨B, 0, none⟩)] 55)
  have O3 := own_on HO.out hb3
  have SR := src_oneT (Blk.new w 55 #[.pointer (some ⟨B, 0, none⟩)]) rfl
  have hz3 := Nat.le_trans hb hb3.size
  have HG := Lib.hid (grw_below hb3 lv.ownBlock)
  clear hb3 d0
  go_wp2_with (at_builtin; refine wpList_app2 _ rfl (.tmp 17) (.tmp 19) 66 rfl base 55 ic _ 1 8 Try.underlying66 hic hcz0 hcz1 hcz2 rfl (by decide) _ _ _ rfl O3 _ 1 [.pointer (some ⟨B, 0, none⟩)] rfl SR (by unfold maxLen; omega) (by omega) hz3 ?_)
  intro v5 w5 O5 hg5
  have HO5 := Lib.hid O5
  have HG5 := Lib.hid (grw_trans HG.out hg5)
  clear O3 SR hz3 O5 hg5 HG HO
  go_wp2
  go_ret
  exact ⟨v5, [ptrV B], rfl, HO5.out, HG5.out, ⟨⟨B, u, rfl, HL.out, (HS.out B).2 (.inl rfl), fun g hg => (HS.out g).2 (.inr hg)⟩, trivial⟩⟩
/-- Nothing is found where there is nothing. -/
theorem sr_nil (c : Cb) (S : Nat → Prop) (w : World) (base : Nat) (lv : Value) (n : Nat) (P : List Value) (hO : w.ownsRow base 55 1 lv n P) :
    Calls Try.prog 26 #[.pointer none, .func (.func 27) #[.agg #[.int .u64 (uv c.vh), .int .u64 (uv c.vl), .int .u64 (uv c.ch), .int .u64 (uv c.cl)]] #[], lv] w (FndTo w base S lv n P []) := by
  have HO := Lib.hid hO
  clear hO
  go_enter Try.func26, Try.ntmps26
  go_wp2
  go_ret
  exact ⟨lv, [], rfl, by simpa using HO.out, Grw.refl w _, trivial⟩
set_option maxRecDepth 100000 in
set_option maxHeartbeats 4000000 in
/-- A search at a node. -/
theorem sr_nd (c : Cb) (a : Nat) (s : Cb) (b : Nat → Pt) (B : Nat) (vs : Nat → Value) (Ss : Nat → Nat → Prop) (S : Nat → Prop) (w : World) (base : Nat) (lv : Value) (n : Nat) (P : List Value) (ha : a < 128) (hb : base ≤ w.heap.size)
    (hN : Blk w B 73 (ndCells (a : Int) (vs 0) (vs 1) (vs 2) s (.slice none 0 0))) (hT : ∀ k, k < 3 → TrAt w (b k) (vs k) (Ss k)) (hs : Sep B Ss) (hS : ∀ x, S x ↔ x = B ∨ ∃ k, k < 3 ∧ Ss k x)
    (hO : w.ownsRow base 55 1 lv n P) (hn : n + (srK (metL c) a b 3).length ≤ 1099511627776)
    (ih : ∀ k, k < 3 → ∀ (W : World) (lv : Value) (n : Nat) (P : List Value), TrAt W (b k) (vs k) (Ss k) → base ≤ W.heap.size → W.ownsRow base 55 1 lv n P → n + ((b k).srch (metL c)).length ≤ 1099511627776 → Calls Try.prog 26 #[vs k, .func (.func 27) #[.agg #[.int .u64 (uv c.vh), .int .u64 (uv c.vl), .int .u64 (uv c.ch), .int .u64 (uv c.cl)]] #[], lv] W (FndTo W base (Ss k) lv n P ((b k).srch (metL c)))) :
    Calls Try.prog 26 #[.pointer (some ⟨B, 0, none⟩), .func (.func 27) #[.agg #[.int .u64 (uv c.vh), .int .u64 (uv c.vl), .int .u64 (uv c.ch), .int .u64 (uv c.cl)]] #[], lv] w (FndTo w base S lv n P (srK (metL c) a b 3)) := by
  have eg : ∀ args w, (callFunc 27 args).run Try.prog w = .ok (.enter 27 args) w := enters_of Try.func27 (by kernel_rfl) rfl
  have eg2 : ∀ args w, (callFunc 26 args).run Try.prog w = .ok (.enter 26 args) w := enters_of Try.func26 (by kernel_rfl) rfl
  have hne : ((a : Int) == -1) = false := by simp only [beq_eq_false_iff_ne]; omega
  have HEN : Hid (∀ (k : Nat) (z : Int) r, z = (k : Int) → metL c a k = r → ∀ W, Calls Try.prog 27 #[.agg #[.int .u64 (uv c.vh), .int .u64 (uv c.vl), .int .u64 (uv c.ch), .int .u64 (uv c.cl)], .int .i64 (a : Int), .int .i64 z] W fun e w' => e = .returned (.bool r) ∧ Below W.heap.size W w') := by
    intro k z r hz hr W
    subst hz
    exact enters_c c a k ha r hr W
  have d0 := (hN.cell 0).trans rfl
  have d1 := (hN.cell 1).trans rfl
  have d2 := (hN.cell 2).trans rfl
  have d3 := (hN.cell 3).trans rfl
  unfold ndCells at d0 d1 d2 d3
  simp only [List.getElem?_toArray, List.getElem?_cons_succ, List.getElem?_cons_zero] at d0 d1 d2 d3
  have HIH := Lib.hid ih
  have HN := Lib.hid hN
  have HT := Lib.hid hT
  have HSEP := Lib.hid hs
  have HSS := Lib.hid hS
  have HO := Lib.hid hO
  have HLN := Lib.hid (And.intro hn (srK_le (metL c) a b))
  have hT0 : TrAt w (.nd a s b) (ptrV B) S := ⟨B, vs, Ss, rfl, hN, hT, hs, hS⟩
  have HROW := Lib.hid (hT0.row hO)
  have HLT := Lib.hid hT0.lt
  have HB := Lib.hid hb
  clear ih hN hT hs hS hO hn ha hT0 hb
  go_enter Try.func26, Try.ntmps26
  go_wp2
  clear d0 d1 d2 d3
  have HIX : Hid (∀ (k : Nat) (z : Int), k < 3 → z = (k : Int) → ∀ W, (Instr.index 71 (.agg #[vs 0, vs 1, vs 2]) (.int .i64 z)).run Try.prog W = .ok (vs k) W) := by
    intro k z hk hz W
    subst hz
    match k, hk with
    | 0, _ => exact idx3_0 _ _ _ _
    | 1, _ => exact idx3_1 _ _ _ _
    | 2, _ => exact idx3_2 _ _ _ _
  generalize Value.agg #[vs 0, vs 1, vs 2] = arr at HIX ⊢
  go_loopg [2, 7, 8, 25] 3 (fun gk s2 s7 s8 s25 wr => ∃ (k : Nat) (z : Int) (Q : List Value), k ≤ 3 ∧ gk + k = 3 ∧ z = (k : Int) ∧ s25 = .int .i64 z ∧ (∃ x, s7 = x) ∧ (∃ x, s8 = x) ∧ Hid (Grw w wr lv.ownBlock s2.ownBlock) ∧ Hid (wr.ownsRow base 55 1 s2 (n + Q.length) (P ++ Q)) ∧ Hid (Lvs w S Q (srK (metL c) a b k)))
  case atStart => exact ⟨0, 0, [], by omega, rfl, rfl, rfl, ⟨_, rfl⟩, ⟨_, rfl⟩, Grw.refl w _, (by show World.ownsRow _ _ _ _ _ _ _; simpa using HO.out), (show Hid _ from trivial)⟩
  case round =>
    obtain ⟨k, z, Q, hk, hgk, hz, rfl, ⟨x7, rfl⟩, ⟨x8, rfl⟩, HG, HR, HV⟩ := hrel
    obtain ⟨m, hm⟩ : ∃ m, n + Q.length = m := ⟨_, rfl⟩
    have hch := grw_ch HG.out
    have hN2 := hch.blk HN.out (HROW.out B ((HSS.out B).2 (.inl rfl)))
    have HT2 := Lib.hid (fun k hk => (HT.out k hk).ch hch (fun x hx => HROW.out x ((HSS.out x).2 (.inr ⟨k, hk, hx⟩))) : ∀ k, k < 3 → TrAt wr (b k) (vs k) (Ss k))
    have HBK := Lib.hid (fun k hk x hx => hch.block x ((HT.out k hk).lt x hx) (HROW.out x ((HSS.out x).2 (.inr ⟨k, hk, hx⟩))) : ∀ k, k < 3 → ∀ x, Ss k x → wr.heap[x]? = w.heap[x]?)
    have d0 := (hN2.cell 0).trans rfl
    unfold ndCells at d0
    simp only [List.getElem?_toArray, List.getElem?_cons_zero] at d0
    have hlq := HV.out.len
    have hle3 := HLN.out
    rw [hm] at HR
    have HM := Lib.hid hm
    clear hch hN2
    rcases Nat.eq_or_lt_of_le (show 0 ≤ k by omega) with e | hk0
    · obtain rfl : k = 0 := e.symm
      obtain rfl : z = 0 := by omega
      clear hz
      have hix := HIX.out 0 0 (by omega) rfl
      have HLQ : Hid (n + (srK (metL c) a b 1).length ≤ 1099511627776 ∧ Q.length = (srK (metL c) a b 0).length) := by
        have q0 : (srK (metL c) a b 1).length ≤ (srK (metL c) a b 2).length := hle3.2 1
        have q1 : (srK (metL c) a b 2).length ≤ (srK (metL c) a b 3).length := hle3.2 2
        exact ⟨by have := hle3.1; omega, hlq⟩
      clear hlq hle3 hm
      cases hq : metL c a 0 with
      | true =>
        have he := HEN.out 0 0 true rfl hq
        have HQ := Lib.hid (srK_yes (b := b) hq)
        clear hq
        go_wp2_with (go_at_fn 27; (with_reducible refine (he wr).mono ?_); rintro e w2 ⟨rfl, hb2⟩)
        clear he d0
        have HT3 := (HT2.out 0 (by omega)).on hb2
        have HR3 := own_on HR.out hb2
        have hlim : m + ((b 0).srch (metL c)).length ≤ 1099511627776 := by
          have := HLQ.out
          have := HQ.out
          have hm := HM.out
          have e1 : (srK (metL c) a b 1).length = (srK (metL c) a b 0).length + ((b 0).srch (metL c)).length := by rw [show srK (metL c) a b 1 = _ from HQ.out, List.length_append]
          omega
        have hcall := HIH.out 0 (by omega) w2 _ m (P ++ Q) HT3 (by have := HB.out; have := HG.out.1.size; have := hb2.size; omega) HR3 hlim
        have HG3 := Lib.hid (grw_trans HG.out (grw_below hb2 _))
        have HBK2 := Lib.hid (fun x hx => (hb2.block x (by have := (HT.out 0 (by omega)).lt x hx; have := HG.out.1.size; omega)).trans (HBK.out 0 (by omega) x hx) : ∀ x, Ss 0 x → w2.heap[x]? = w.heap[x]?)
        clear HT3 HR3 hb2 hlim hix
        have HC := Lib.hid hcall
        clear hcall
        go_wp2_with (go_at_fn 26; (with_reducible refine HC.out.mono ?_); rintro e w3 ⟨lv3, Q3, rfl, hO3, hg3, hv3⟩)
        have HV3 : Hid (Lvs w S (Q ++ Q3) (srK (metL c) a b 1)) := by
          show Lvs _ _ _ _
          rw [show srK (metL c) a b 1 = _ from HQ.out]
          exact HV.out.app ((Lvs.back (HT.out 0 (by omega)) HBK2.out hv3).mono fun x hx => (HSS.out x).2 (.inr ⟨0, by omega, hx⟩))
        have HO3 : Hid (w3.ownsRow base 55 1 lv3 (n + (Q ++ Q3).length) (P ++ (Q ++ Q3))) := by
          show World.ownsRow _ _ _ _ _ _ _
          rw [List.length_append, ← Nat.add_assoc, HM.out, ← List.append_assoc]
          exact hO3
        have HG4 := Lib.hid (grw_trans HG3.out hg3)
        clear hO3 hg3 hv3 HC HV HG HG3 HR HLQ HQ HBK2
        go_wp2
        go_roundg 2
        case measure => omega
        case rel => exact ⟨1, 1, Q ++ Q3, by omega, by omega, rfl, rfl, ⟨_, rfl⟩, ⟨_, rfl⟩, HG4, HO3, HV3⟩
      | false =>
        have he := HEN.out 0 0 false rfl hq
        have HV3 : Hid (Lvs w S Q (srK (metL c) a b 1)) := by
          show Lvs _ _ _ _
          rw [show srK (metL c) a b 1 = _ from srK_no (b := b) hq]
          exact HV.out
        clear hq
        go_wp2_with (go_at_fn 27; (with_reducible refine (he wr).mono ?_); rintro e w2 ⟨rfl, hb2⟩)
        clear he d0
        have HR3 := own_on HR.out hb2
        rw [← HM.out] at HR3
        have HO3 := Lib.hid HR3
        have HG4 := Lib.hid (grw_trans HG.out (grw_below hb2 _))
        clear HR3 hb2 hix HV HG HR HLQ
        go_wp2
        go_roundg 2
        case measure => omega
        case rel => exact ⟨1, 1, Q, by omega, by omega, rfl, rfl, ⟨_, rfl⟩, ⟨_, rfl⟩, HG4, HO3, HV3⟩
    rcases Nat.eq_or_lt_of_le (show 1 ≤ k by omega) with e | hk1
    · obtain rfl : k = 1 := e.symm
      obtain rfl : z = 1 := by omega
      clear hz
      have hix := HIX.out 1 1 (by omega) rfl
      have HLQ : Hid (n + (srK (metL c) a b 2).length ≤ 1099511627776 ∧ Q.length = (srK (metL c) a b 1).length) := by
        have q0 : (srK (metL c) a b 1).length ≤ (srK (metL c) a b 2).length := hle3.2 1
        have q1 : (srK (metL c) a b 2).length ≤ (srK (metL c) a b 3).length := hle3.2 2
        exact ⟨by have := hle3.1; omega, hlq⟩
      clear hlq hle3 hm
      cases hq : metL c a 1 with
      | true =>
        have he := HEN.out 1 1 true rfl hq
        have HQ := Lib.hid (srK_yes (b := b) hq)
        clear hq
        go_wp2_with (go_at_fn 27; (with_reducible refine (he wr).mono ?_); rintro e w2 ⟨rfl, hb2⟩)
        clear he d0
        have HT3 := (HT2.out 1 (by omega)).on hb2
        have HR3 := own_on HR.out hb2
        have hlim : m + ((b 1).srch (metL c)).length ≤ 1099511627776 := by
          have := HLQ.out
          have := HQ.out
          have hm := HM.out
          have e1 : (srK (metL c) a b 2).length = (srK (metL c) a b 1).length + ((b 1).srch (metL c)).length := by rw [show srK (metL c) a b 2 = _ from HQ.out, List.length_append]
          omega
        have hcall := HIH.out 1 (by omega) w2 _ m (P ++ Q) HT3 (by have := HB.out; have := HG.out.1.size; have := hb2.size; omega) HR3 hlim
        have HG3 := Lib.hid (grw_trans HG.out (grw_below hb2 _))
        have HBK2 := Lib.hid (fun x hx => (hb2.block x (by have := (HT.out 1 (by omega)).lt x hx; have := HG.out.1.size; omega)).trans (HBK.out 1 (by omega) x hx) : ∀ x, Ss 1 x → w2.heap[x]? = w.heap[x]?)
        clear HT3 HR3 hb2 hlim hix
        have HC := Lib.hid hcall
        clear hcall
        go_wp2_with (go_at_fn 26; (with_reducible refine HC.out.mono ?_); rintro e w3 ⟨lv3, Q3, rfl, hO3, hg3, hv3⟩)
        have HV3 : Hid (Lvs w S (Q ++ Q3) (srK (metL c) a b 2)) := by
          show Lvs _ _ _ _
          rw [show srK (metL c) a b 2 = _ from HQ.out]
          exact HV.out.app ((Lvs.back (HT.out 1 (by omega)) HBK2.out hv3).mono fun x hx => (HSS.out x).2 (.inr ⟨1, by omega, hx⟩))
        have HO3 : Hid (w3.ownsRow base 55 1 lv3 (n + (Q ++ Q3).length) (P ++ (Q ++ Q3))) := by
          show World.ownsRow _ _ _ _ _ _ _
          rw [List.length_append, ← Nat.add_assoc, HM.out, ← List.append_assoc]
          exact hO3
        have HG4 := Lib.hid (grw_trans HG3.out hg3)
        clear hO3 hg3 hv3 HC HV HG HG3 HR HLQ HQ HBK2
        go_wp2
        go_roundg 1
        case measure => omega
        case rel => exact ⟨2, 2, Q ++ Q3, by omega, by omega, rfl, rfl, ⟨_, rfl⟩, ⟨_, rfl⟩, HG4, HO3, HV3⟩
      | false =>
        have he := HEN.out 1 1 false rfl hq
        have HV3 : Hid (Lvs w S Q (srK (metL c) a b 2)) := by
          show Lvs _ _ _ _
          rw [show srK (metL c) a b 2 = _ from srK_no (b := b) hq]
          exact HV.out
        clear hq
        go_wp2_with (go_at_fn 27; (with_reducible refine (he wr).mono ?_); rintro e w2 ⟨rfl, hb2⟩)
        clear he d0
        have HR3 := own_on HR.out hb2
        rw [← HM.out] at HR3
        have HO3 := Lib.hid HR3
        have HG4 := Lib.hid (grw_trans HG.out (grw_below hb2 _))
        clear HR3 hb2 hix HV HG HR HLQ
        go_wp2
        go_roundg 1
        case measure => omega
        case rel => exact ⟨2, 2, Q, by omega, by omega, rfl, rfl, ⟨_, rfl⟩, ⟨_, rfl⟩, HG4, HO3, HV3⟩
    rcases Nat.eq_or_lt_of_le (show 2 ≤ k by omega) with e | hk2
    · obtain rfl : k = 2 := e.symm
      obtain rfl : z = 2 := by omega
      clear hz
      have hix := HIX.out 2 2 (by omega) rfl
      have HLQ : Hid (n + (srK (metL c) a b 3).length ≤ 1099511627776 ∧ Q.length = (srK (metL c) a b 2).length) := by
        have q0 : (srK (metL c) a b 1).length ≤ (srK (metL c) a b 2).length := hle3.2 1
        have q1 : (srK (metL c) a b 2).length ≤ (srK (metL c) a b 3).length := hle3.2 2
        exact ⟨by have := hle3.1; omega, hlq⟩
      clear hlq hle3 hm
      cases hq : metL c a 2 with
      | true =>
        have he := HEN.out 2 2 true rfl hq
        have HQ := Lib.hid (srK_yes (b := b) hq)
        clear hq
        go_wp2_with (go_at_fn 27; (with_reducible refine (he wr).mono ?_); rintro e w2 ⟨rfl, hb2⟩)
        clear he d0
        have HT3 := (HT2.out 2 (by omega)).on hb2
        have HR3 := own_on HR.out hb2
        have hlim : m + ((b 2).srch (metL c)).length ≤ 1099511627776 := by
          have := HLQ.out
          have := HQ.out
          have hm := HM.out
          have e1 : (srK (metL c) a b 3).length = (srK (metL c) a b 2).length + ((b 2).srch (metL c)).length := by rw [show srK (metL c) a b 3 = _ from HQ.out, List.length_append]
          omega
        have hcall := HIH.out 2 (by omega) w2 _ m (P ++ Q) HT3 (by have := HB.out; have := HG.out.1.size; have := hb2.size; omega) HR3 hlim
        have HG3 := Lib.hid (grw_trans HG.out (grw_below hb2 _))
        have HBK2 := Lib.hid (fun x hx => (hb2.block x (by have := (HT.out 2 (by omega)).lt x hx; have := HG.out.1.size; omega)).trans (HBK.out 2 (by omega) x hx) : ∀ x, Ss 2 x → w2.heap[x]? = w.heap[x]?)
        clear HT3 HR3 hb2 hlim hix
        have HC := Lib.hid hcall
        clear hcall
        go_wp2_with (go_at_fn 26; (with_reducible refine HC.out.mono ?_); rintro e w3 ⟨lv3, Q3, rfl, hO3, hg3, hv3⟩)
        have HV3 : Hid (Lvs w S (Q ++ Q3) (srK (metL c) a b 3)) := by
          show Lvs _ _ _ _
          rw [show srK (metL c) a b 3 = _ from HQ.out]
          exact HV.out.app ((Lvs.back (HT.out 2 (by omega)) HBK2.out hv3).mono fun x hx => (HSS.out x).2 (.inr ⟨2, by omega, hx⟩))
        have HO3 : Hid (w3.ownsRow base 55 1 lv3 (n + (Q ++ Q3).length) (P ++ (Q ++ Q3))) := by
          show World.ownsRow _ _ _ _ _ _ _
          rw [List.length_append, ← Nat.add_assoc, HM.out, ← List.append_assoc]
          exact hO3
        have HG4 := Lib.hid (grw_trans HG3.out hg3)
        clear hO3 hg3 hv3 HC HV HG HG3 HR HLQ HQ HBK2
        go_wp2
        go_roundg 0
        case measure => omega
        case rel => exact ⟨3, 3, Q ++ Q3, by omega, by omega, rfl, rfl, ⟨_, rfl⟩, ⟨_, rfl⟩, HG4, HO3, HV3⟩
      | false =>
        have he := HEN.out 2 2 false rfl hq
        have HV3 : Hid (Lvs w S Q (srK (metL c) a b 3)) := by
          show Lvs _ _ _ _
          rw [show srK (metL c) a b 3 = _ from srK_no (b := b) hq]
          exact HV.out
        clear hq
        go_wp2_with (go_at_fn 27; (with_reducible refine (he wr).mono ?_); rintro e w2 ⟨rfl, hb2⟩)
        clear he d0
        have HR3 := own_on HR.out hb2
        rw [← HM.out] at HR3
        have HO3 := Lib.hid HR3
        have HG4 := Lib.hid (grw_trans HG.out (grw_below hb2 _))
        clear HR3 hb2 hix HV HG HR HLQ
        go_wp2
        go_roundg 0
        case measure => omega
        case rel => exact ⟨3, 3, Q, by omega, by omega, rfl, rfl, ⟨_, rfl⟩, ⟨_, rfl⟩, HG4, HO3, HV3⟩
    obtain rfl : k = 3 := by omega
    obtain rfl : z = 3 := by omega
    clear hz hk0 hk1 hk2 d0 hlq hle3 hm
    go_wp2
    go_ret
    exact ⟨_, Q, rfl, by rw [HM.out]; exact HR.out, HG.out, HV.out⟩
/-- A search finds the leaves that Pt.srch says. -/
theorem sr_c (c : Cb) (base : Nat) : ∀ (t : Pt), t.Ok → ∀ (v : Value) (S : Nat → Prop) (w : World) (lv : Value) (n : Nat) (P : List Value), TrAt w t v S → base ≤ w.heap.size → w.ownsRow base 55 1 lv n P → n + (t.srch (metL c)).length ≤ 1099511627776 →
    Calls Try.prog 26 #[v, .func (.func 27) #[.agg #[.int .u64 (uv c.vh), .int .u64 (uv c.vl), .int .u64 (uv c.ch), .int .u64 (uv c.cl)]] #[], lv] w (FndTo w base S lv n P (t.srch (metL c)))
  | .no, _, v, S, w, lv, n, P, h, _, hO, _ => by
    obtain ⟨rfl, _⟩ := h
    exact sr_nil c S w base lv n P hO
  | .lf d ids, _, v, S, w, lv, n, P, h, hb, hO, hn => by
    obtain ⟨B, u, rfl, hL, hS⟩ := h
    exact sr_leaf c d B ids u S w base lv n P hL hS hb hO hn
  | .nd a s b, ok, v, S, w, lv, n, P, h, hb, hO, hn => by
    obtain ⟨B, vs, Ss, rfl, hN, hT, hs, hS⟩ := h
    obtain ⟨_, hbr⟩ := Ok_nd.1 ok
    rw [srK_all] at hn ⊢
    exact sr_nd c a s b B vs Ss S w base lv n P hbr.lt hb hN hT hs hS hO hn (fun k hk W lv n P hW hb hO hn => sr_c c base (b k) (hbr.ok k hk) _ _ W lv n P hW hb hO hn)
end Go.Proofs

namespace Go.Proofs.Hd
open Go.RowKit Go.Sort
/-- World w' is W behind some draws, with some blocks laid behind it. -/
def Grew (W w' : World) : Prop := ∃ q os, w' = grow (W.drewN q) os
theorem Grew.refl (W : World) : Grew W W := ⟨0, #[], by rw [grow_empty]; rfl⟩
theorem Grew.trans {a b c : World} (h : Grew a b) (k : Grew b c) : Grew a c := by
  obtain ⟨q, os, rfl⟩ := h
  obtain ⟨q', os', rfl⟩ := k
  exact ⟨q + q', os ++ os', by show grow (grow ((a.drewN q).drewN q') os) os' = _; rw [grow_grow, World.drewN_drewN]⟩
theorem Grew.drew1 (W : World) : Grew W W.drew := ⟨1, #[], by rw [grow_empty]; rfl⟩
theorem Grew.alloc1 (W : World) (o : Obj) : Grew W (W.alloc o) := ⟨0, #[o], by rw [← alloc_eq_grow]; rfl⟩
theorem Grew.drewN1 (W : World) (n : Nat) : Grew W (W.drewN n) := ⟨n, #[], by rw [grow_empty]⟩
theorem Grew.below {W w' : World} (h : Grew W w') : Below W.heap.size W w' := by
  obtain ⟨q, os, rfl⟩ := h
  exact ⟨rfl, rfl, rfl, by simp [grow], fun k hk => heap_grow_old _ _ hk⟩
/-- What Go's cmp.Compare says of two ints. -/
def icmp (a b : Int) : Int := if a < b then -1 else if b < a then 1 else 0
def or2 (x y : Int) : Int := if x = 0 then y else x
end Go.Proofs.Hd
namespace Go.Proofs
open Go.RowKit Go.Proofs.Hd Go.Sort
attribute [local go_sem] uv_nonneg
theorem nanI_c (a : Int) (w : World) : Calls Try.prog 64 #[.int .i64 a] w fun e w' => e = .returned (.bool false) ∧ w = w' := by
  go_enter Try.func64, Try.ntmps64
  go_wp2
  go_ret
  exact ⟨by simp, rfl⟩
end Go.Proofs
