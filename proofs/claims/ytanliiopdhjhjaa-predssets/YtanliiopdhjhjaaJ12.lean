/-
  Contract of preds.Of: all that is asked of a header at any moment, or why not. Conditions as each theorem lists them.
  Contract of the reference's Stamp of layer 8. Conditions as the theorem lists them.
  What the law says of a configuration and a version, of a stamp, and how many bits a cube cares for, sign by sign. Conditions as each theorem lists them.
  Contracts of slices.Clone, slices.Grow (of nil) and slices.Concat (of two) over cubes. Conditions as each theorem lists them.
  Contract of pile.without: the differences of each cube and the one that goes, in a row. Conditions as the theorem lists them.
  A cube added to a slice of cubes, if it is not there: the law's add, told as addC. Conditions as the theorem lists them.
-/
import Derived.Test.YtanliiopdhjhjaaJ11
import Derived.Lib.SliceRun
import Derived.OrdersHeld
namespace Go.Proofs.Hd
open Go Go.RowKit Go.Proofs
/-- What Of answers for a sound configuration. -/
def OfR (w : World) (L : List Cb) (e : Ending) (w' : World) : Prop := (L.length ≤ 500 → ∃ v, e = .returned (.tuple #[v, .int .i64 0]) ∧ Pl w' v (toldL keyC 129 L)) ∧ (500 < L.length → e = .returned (.tuple #[.slice none 0 0, .int .i64 10])) ∧ Below w.heap.size w w'
/-- The list in memory, and the block of deferred calls that an ended range left. -/
def AsI (w3 : World) (B D : Nat) (l : List Cb) (W : World) : Prop := DsI w3 B (fun x => x = D) l W ∧ W.heap[D]? = some (.deferred (some []))
/-- bodyPostM, where nothing panics. -/
def bodyPostN (F : Fence) (n : Nat) (P : Program) (fn : Func) (R : Ending → World → Prop) : Exit → Act → World → Prop
  | .panic _, _, _ => False
  | e, a, w => bodyPostM F n P fn R e a w
theorem retN {P : Program} {F : Fence} {n : Nat} {fn : Func} {R : Ending → World → Prop} {a : Act} {w : World} {v : Value} (hr : (results fn a.tmps).run P w = .ok v w) (hd : a.defers = []) (hR : R (.returned v) w) : bodyPostN F n P fn R .ret a w := retM hr hd hR
theorem retDN {P : Program} {F : Fence} {n : Nat} {fn : Func} {R : Ending → World → Prop} {a : Act} {w : World} {v : Value} {D : Nat} (hd : a.defers = [{ target := .collected D, args := #[] }]) (hK : w.heap[D]? = some (.deferred (some []))) (hr : (results fn a.tmps).run P (w.putObj D (.deferred none)) = .ok v (w.putObj D (.deferred none))) (hR : R (.returned v) (w.putObj D (.deferred none))) : bodyPostN F n P fn R .ret a w := retD hd hK hr hR
theorem callsIn_marksN {P : Program} {F : Fence} {n : Nat} {f : FuncId} {fn : Func} {c : Code} {args : Array Value} {w : World} {R : Ending → World → Prop} (hf : P.funcs[f]? = some fn) (hb : fn.body = some c) (hF : F.fn f)
    (h : c.wpIn F n P (bodyPostN F n P fn R) { tmps := args ++ Array.replicate (fn.ntmps - args.size) undef, defers := [] } w) (hro : F.round = none := by rfl) : CallsIn F n P f args w R :=
  callsIn_of_wp_marks hf hb hF (wpIn_mono h (fun e a w h => by
    cases e with
    | panic c => exact h.elim
    | normal => exact h
    | ret => exact h
    | exit i => exact h
    | goto t => exact h
    | outgrown => exact h)) hro
theorem AsI.on {w3 : World} {B D : Nat} {l : List Cb} {w w' : World} (h : AsI w3 B D l w) (hb : Below w.heap.size w w') : AsI w3 B D l w' := ⟨h.1.on hb, (hb.block D (Array.getElem?_eq_some_iff.1 h.2).1).trans h.2⟩
theorem DsI.weak {w4 : World} {B : Nat} {N N' : Nat → Prop} {l : List Cb} {w : World} (h : DsI w4 B N l w) (hN : ∀ x, N' x → N x) : DsI w4 B N' l w := by
  obtain ⟨S, h1, h2, h3⟩ := h
  exact ⟨S, h1, fun x hx => ⟨(h2 x hx).1, fun hn => (h2 x hx).2 (hN x hn)⟩, h3⟩
theorem Pl.chb {Q : Nat → Prop} {w w' : World} {v : Value} {L : List Cb} (h : Pl w v L) (hc : Ch Q w w') (hn : ∀ b off cap, v = .slice (some ⟨b, off, none⟩) L.length cap → ¬ Q b) : Pl w' v L := by
  rcases h with h | ⟨b, off, cap, e, hl, hs, h⟩
  · exact .inl h
  · have hb := hn b off cap e
    exact .inr ⟨b, off, cap, e, hl, Nat.lt_of_lt_of_le hs hc.size, fun k c hk => ⟨hc.cell (h k c hk).1 hb, hc.cell (h k c hk).2.1 hb, hc.cell (h k c hk).2.2.1 hb, hc.cell (h k c hk).2.2.2 hb⟩⟩
end Go.Proofs.Hd
namespace Go.Proofs
open Go.RowKit Go.Proofs.Hd Go.Lib Go.Shelf
attribute [local go_sem] uv_nonneg Oper.semAt_some
theorem dadd_a (c : Cb) (w3 : World) (B D : Nat) (l : List Cb) (w : World) (h : AsI w3 B D l w) (hlen : l.length ≤ 1099511627776) : Calls Try.prog 23 #[.pointer (some ⟨B, 0, none⟩), .agg #[.int .u64 (uv c.vh), .int .u64 (uv c.vl), .int .u64 (uv c.ch), .int .u64 (uv c.cl)]] w fun e w' => e = .returned (.tuple #[]) ∧ AsI w3 B D (addC l c) w' := by
  have hD := (Array.getElem?_eq_some_iff.1 h.2).1
  refine (dadd_i c w3 B _ l w h.1 (fun x hx => by omega) hlen).mono ?_
  rintro e w' ⟨rfl, h1, h2⟩
  exact ⟨rfl, h1, (h2.block D hD (fun h => h.2 rfl)).trans h.2⟩
set_option maxRecDepth 100000 in
set_option maxHeartbeats 4000000 in
theorem pof_bad (tv pv wv bv : Value) (T : List (List Pt)) (ten : Int) (P : List (Int × Int)) (Q : List Wa) (BB : List (List (List Rl))) (ver z : Int) (w : World) (hT : PsT w tv T) (hP : Pe w pv P) (hQ : Wy w wv Q) (hB : RuQ w bv BB) (hc : wrgZ (cfgT T ten P Q BB) ver = z) (hz : z ≠ 0) :
    Calls Try.prog 11 #[.agg #[tv, .int .i64 ten, pv, wv, bv], .int .i64 ver] w fun e w' => e = .returned (.tuple #[.slice none 0 0, .int .i64 z]) ∧ Below w.heap.size w w' := by
  have HT := Lib.hid hT
  have HP := Lib.hid hP
  have HQ := Lib.hid hQ
  have HBQ := Lib.hid hB
  obtain ⟨A, cap, rfl, -, -⟩ := hT
  obtain ⟨pA, pc, rfl, -, -⟩ := hP
  obtain ⟨wA, wc, rfl, -, -⟩ := hQ
  obtain ⟨bA, bc, rfl, -, -⟩ := hB
  have B0 := Lib.hid (below1 w (.cells #[.slice A T.length cap, .int .i64 ten, .slice pA P.length pc, .slice wA Q.length wc, .slice bA BB.length bc] 31))
  have N0 : Hid (Blk (w.alloc (.cells #[.slice A T.length cap, .int .i64 ten, .slice pA P.length pc, .slice wA Q.length wc, .slice bA BB.length bc] 31)) w.heap.size 31 #[.slice A T.length cap, .int .i64 ten, .slice pA P.length pc, .slice wA Q.length wc, .slice bA BB.length bc]) := Blk.new w _ _
  refine (callsIn_wide (n := 10)).1 ?_
  refine callsIn_marksN Try.func11 rfl trivial ?_
  simp only [Try.ntmps11, List.size_toArray, List.length_cons, List.length_nil, Nat.reduceAdd, Nat.reduceSub, Array.replicate_succ, Array.replicate_zero, List.push_toArray, List.append_toArray, List.nil_append, List.cons_append]
  refine wpIn_wide.2 ?_
  go_upto_region 1 with (fail)
  generalize (w.alloc (.cells #[.slice A T.length cap, .int .i64 ten, .slice pA P.length pc, .slice wA Q.length wc, .slice bA BB.length bc] 31)) = w1 at B0 N0 ⊢
  obtain ⟨d0, d1, d2, d3, d4⟩ := N0.out.five
  go_wp2_with fail
  (with_reducible refine (psets_bad _ _ _ _ T ten P Q BB ver z _ (HT.out.on B0.out) (HP.out.on B0.out) (HQ.out.on B0.out) (HBQ.out.on B0.out) hc hz).mono ?_)
  rintro e w2 ⟨rfl, hb2⟩
  have B2 := Lib.hid (B0.out.trans (hb2.mono B0.out.size))
  clear hb2 hc d0 d1 d2 d3 d4 N0
  go_wp2
  refine retN (v := .tuple #[.slice none 0 0, .int .i64 z]) (by simp [results, Try.results11, go_sem]) rfl ⟨rfl, B2.out⟩
set_option maxRecDepth 100000 in
set_option maxHeartbeats 8000000 in
theorem pof_ok (tv pv wv bv : Value) (T : List (List Pt)) (ten : Int) (P : List (Int × Int)) (Q : List Wa) (BB : List (List (List Rl))) (m : Nat) (L : List Cb) (w : World) (hT : PsT w tv T) (hP : Pe w pv P) (hQ : Wy w wv Q) (hB : RuQ w bv BB) (hc : cfgT T ten P Q BB = 0) (hm : m ≤ 255) (hz : ∀ X ∈ BB, ∀ R ∈ X, R.length ≤ 1466015503658) (hL : cloC bfC (allS T BB m) 500 501 0 (mtcL BB) = L) :
    Calls Try.prog 11 #[.agg #[tv, .int .i64 ten, pv, wv, bv], .int .i64 (m : Int)] w (OfR w L) := by
  have HT := Lib.hid hT
  have HP := Lib.hid hP
  have HQ := Lib.hid hQ
  have HBQ := Lib.hid hB
  have HZ := Lib.hid hc
  have HZZ := Lib.hid hz
  have H576 := Lib.hid (mtcL_len hc hz)
  have HR576 := Lib.hid (rul_len hc hz)
  have HS612 := Lib.hid (allS_len hc hz m)
  clear hc hz
  obtain ⟨A, cap, rfl, -, -⟩ := hT
  obtain ⟨pA, pc, rfl, -, -⟩ := hP
  obtain ⟨wA, wc, rfl, -, -⟩ := hQ
  obtain ⟨bA, bc, rfl, -, -⟩ := hB
  have B0 := Lib.hid (below1 w (.cells #[.slice A T.length cap, .int .i64 ten, .slice pA P.length pc, .slice wA Q.length wc, .slice bA BB.length bc] 31))
  have N0 : Hid (Blk (w.alloc (.cells #[.slice A T.length cap, .int .i64 ten, .slice pA P.length pc, .slice wA Q.length wc, .slice bA BB.length bc] 31)) w.heap.size 31 #[.slice A T.length cap, .int .i64 ten, .slice pA P.length pc, .slice wA Q.length wc, .slice bA BB.length bc]) := Blk.new w _ _
  refine (callsIn_wide (n := 10)).1 ?_
  refine callsIn_marksN Try.func11 rfl trivial ?_
  simp only [Try.ntmps11, List.size_toArray, List.length_cons, List.length_nil, Nat.reduceAdd, Nat.reduceSub, Array.replicate_succ, Array.replicate_zero, List.push_toArray, List.append_toArray, List.nil_append, List.cons_append]
  refine wpIn_wide.2 ?_
  go_upto_region 1 with (fail)
  generalize (w.alloc (.cells #[.slice A T.length cap, .int .i64 ten, .slice pA P.length pc, .slice wA Q.length wc, .slice bA BB.length bc] 31)) = w1 at B0 N0 ⊢
  obtain ⟨d0, d1, d2, d3, d4⟩ := N0.out.five
  go_wp2_with fail
  (with_reducible refine (psets_ok _ _ _ _ T ten P Q BB m _ (HT.out.on B0.out) (HP.out.on B0.out) (HQ.out.on B0.out) (HBQ.out.on B0.out) HZ.out hm HZZ.out).mono ?_)
  rintro e w2 ⟨sv, rfl, OS, hb2⟩
  obtain ⟨S, hS⟩ : ∃ S, allS T BB m = S := ⟨_, rfl⟩
  rw [hS] at OS hL
  have hS6 : S.length ≤ 612 := by rw [← hS]; exact HS612.out
  obtain ⟨sA, sc, rfl⟩ := own_slD OS
  have B2 := Lib.hid (B0.out.trans (hb2.mono B0.out.size))
  have N2 := Lib.hid (N0.out.on hb2)
  have HOS := Lib.hid OS
  have HL := Lib.hid hL
  clear hL hS OS hb2 B0 N0 d0 d1 d2 d3 d4 HZ HZZ HS612
  go_upto_region 5 with (fail)
  have HD := Lib.hid (DsAt.made w2)
  have hb3 := below1 w2 (.cells #[.slice none 0 0, .map none] 72)
  have HBS : Hid (w.heap.size ≤ w2.heap.size) := B2.out.size
  have B3 := Lib.hid (B2.out.trans (hb3.mono B2.out.size))
  have N3 := Lib.hid (N2.out.on hb3)
  have HNB : Hid (w.heap.size < w2.heap.size) := N2.out.lt
  have HSG : Hid (∀ g, (Value.slice sA S.length sc).ownBlock = some g → g ≠ w2.heap.size) := fun g hg => Nat.ne_of_lt (HOS.out.lt g hg).2
  have HO3 := Lib.hid (own_on HOS.out hb3)
  generalize w2.alloc (.cells #[.slice none 0 0, .map none] 72) = w3 at HD B3 N3 HO3 ⊢
  generalize w2.heap.size = B at HD HBS HNB HSG ⊢
  have HBL : Hid (B < w3.heap.size) := (HD.out.ge rfl).2
  have HI : Hid (DsI w3 B (fun _ => False) [] w3) := ⟨_, HD.out, fun x hx => ⟨.inl hx, fun h => h⟩, Ch.refl _ _⟩
  clear hb3 B2 N2 HOS HD
  obtain ⟨d0, d1, d2, d3, d4⟩ := N3.out.five
  go_wp2
  clear d0 d1 d2 d3 d4
  have hBw : w.heap.size ≤ B := HBS.out
  have hB3 : B < w3.heap.size := HBL.out
  refine (wpIn_wide (n := 10)).1 ?_
  refine wpIn_rangeFunc_all (encs := fun x : Rl => #[.agg #[.int .i64 x.pri, .int .u64 (uv x.m.vh), .int .u64 (uv x.m.vl), .int .u64 (uv x.m.ch), .int .u64 (uv x.m.cl), .int .i64 x.kind, .int .i64 x.port, .int .i64 x.tab, .int .u64 (uv x.s.vh), .int .u64 (uv x.s.vl), .int .u64 (uv x.s.ch), .int .u64 (uv x.s.cl)]]) rfl (by decide) (gf := 24) (rv := .slice bA BB.length bc) rfl trivial (enters_of Try.func24 (by kernel_rfl) rfl) B3.out.size (rules_seq _ (by decide) _ BB w w3 HBQ.out B3.out) (fun _ => rfl)
    (fun pre W => DsI w3 B (fun x => x = w3.heap.size ∨ x = w3.heap.size + 1) (addsC [] (pre.map Rl.m)) W) ?hI ?h0 ?round ?done
  case hI =>
    intro s A' B' hs hc
    refine hs.ch hc (fun x hx => ⟨hx, ?_⟩)
    rcases hx with rfl | rfl <;> omega
  case h0 =>
    refine HI.out.avoid (fun x hx => ?_)
    rcases hx with rfl | rfl <;> omega
  case round =>
    intro l pre x W hWs hI hpre K hK
    have hIl : (addsC [] (pre.map Rl.m)).length ≤ 1099511627776 := by
      have h1 := addsC_len (pre.map Rl.m) []
      have h4 := hpre.length_le
      have h5 := HR576.out
      rw [List.length_append] at h4
      rw [List.length_map] at h1
      simp only [List.length_cons, List.length_nil] at h4 h1
      omega
    have HIL := Lib.hid hIl
    have HHI := Lib.hid hI
    have HWS := Lib.hid hWs
    have HK := Lib.hid hK
    clear hIl hI hWs hK hpre
    gi_wp2
    refine HK.out _ _ ⟨Ch.of_below (below1 W _), fun Wb hWb hcb => ?_⟩
    have hXb : Blk Wb W.heap.size 51 #[.int .i64 x.pri, .int .u64 (uv x.m.vh), .int .u64 (uv x.m.vl), .int .u64 (uv x.m.ch), .int .u64 (uv x.m.cl), .int .i64 x.kind, .int .i64 x.port, .int .i64 x.tab, .int .u64 (uv x.s.vh), .int .u64 (uv x.s.vl), .int .u64 (uv x.s.ch), .int .u64 (uv x.s.cl)] := hcb.blk (Blk.new W _ _) (by have := HWS.out; omega)
    have HIB : Hid (DsI w3 B (fun x => x = w3.heap.size ∨ x = w3.heap.size + 1) (addsC [] (pre.map Rl.m)) Wb) := (HHI.out.on (below1 W _)).ch hcb (fun y hy => ⟨.inr hy, by rw [hy]; omega⟩)
    have HSB : Hid (w3.heap.size + 1 < Wb.heap.size) := by show _ < _; have h1 := HWS.out; rw [World.size_alloc] at hWb; omega
    have c1 : Wb.cell? ⟨W.heap.size, 1, none⟩ = some (.int .u64 (uv x.m.vh)) := (hXb.cell 1).trans rfl
    have c2 : Wb.cell? ⟨W.heap.size, 2, none⟩ = some (.int .u64 (uv x.m.vl)) := (hXb.cell 2).trans rfl
    have c3 : Wb.cell? ⟨W.heap.size, 3, none⟩ = some (.int .u64 (uv x.m.ch)) := (hXb.cell 3).trans rfl
    have c4 : Wb.cell? ⟨W.heap.size, 4, none⟩ = some (.int .u64 (uv x.m.cl)) := (hXb.cell 4).trans rfl
    have HRS : Hid (addsC [] ((pre ++ [x]).map Rl.m) = addC (addsC [] (pre.map Rl.m)) x.m) := by
      show _ = _
      rw [List.map_append]
      exact addsC_snoc _ _ _
    generalize hbx : W.heap.size = bx at c1 c2 c3 c4 ⊢
    clear hXb hWb hcb HK hbx
    gi_wp2
    refine ⟨trivial, ?_⟩
    refine (CallsIn.inRound l (callsIn_wide.2 (dadd_i x.m w3 B _ _ _ HIB.out (fun y hy => by have := HSB.out; rcases hy with rfl | rfl <;> omega) HIL.out))).mono ?_
    rintro e W3 ⟨rfl, hI3, hc3⟩
    rw [← HRS.out] at hI3
    have HI3 := Lib.hid hI3
    have HC3 := Lib.hid hc3
    clear hI3 hc3 HRS HIB HIL c1 c2 c3 c4
    gi_wp2
    refine ⟨HC3.out.block _ (by have := HSB.out; omega) (fun h => h.2 (.inl rfl)), HC3.out.block _ HSB.out (fun h => h.2 (.inr rfl)), HC3.out.below (by have := HSB.out; have := B3.out.size; omega) (fun k hk h => ?_), HI3.out⟩
    have h1 := B3.out.size
    rcases h.1 with rfl | h2
    · omega
    · omega
  case done =>
    intro W hI hK
    obtain ⟨D, hD⟩ : ∃ D, w3.heap.size = D := ⟨_, rfl⟩
    rw [hD] at hK ⊢
    have HDB : Hid (w.heap.size ≤ D) := by have := B3.out.size; show _ ≤ _; omega
    have HA0 : Hid (AsI w3 B D (mtcL BB) W) := ⟨hI.weak (fun x hx => .inl (by omega)), hK⟩
    have hm6 := H576.out
    have HC0 : Hid (cloC bfC S 500 501 0 (mtcL BB) = L) := HL.out
    clear hI hK HI H576 HR576 HL N3 hD
    go_wp2
    go_loopg [10] 501 (fun gk s10 wr => ∃ (n : Nat) (l : List Cb), n + gk = 501 ∧ s10 = .int .i64 n ∧ l.length ≤ 1112 ∧ Hid (cloC bfC S 500 gk n l = L) ∧ Hid (AsI w3 B D l wr))
    case atStart => exact ⟨0, mtcL BB, rfl, by go_num, by omega, HC0, HA0⟩
    case round =>
      clear HC0 HA0 hm6
      obtain ⟨n, l, hn, rfl, hl, HC, HA⟩ := hrel
      by_cases hlt : n < l.length
      · have hnz : (n : Int) < (l.length : Int) := by omega
        by_cases h5 : l.length ≤ 500
        · have h5z : (l.length : Int) ≤ 500 := by omega
          obtain ⟨gj, rfl⟩ : ∃ gj, gk = gj + 1 := ⟨gk - 1, by omega⟩
          obtain ⟨c, hc⟩ : ∃ c, l[n]? = some c := ⟨_, List.getElem?_eq_getElem hlt⟩
          have HC2 : Hid (cloC bfC S 500 gj (n + 1) (askS bfC S c l) = L) := (cloC_step hc h5).symm.trans HC.out
          have HCN := Lib.hid hc
          obtain ⟨⟨S9, ⟨lv, mb, b1, b2, b3, b4, b5⟩, b6, b7⟩, b8⟩ := HA.out
          obtain ⟨e0, e1⟩ := b1.both
          obtain ⟨lA, lc, rfl⟩ := own_slD b2
          clear b1 b2 b3 b4 b5 b6 b7 b8 hc HC
          go_wp2
          clear e0 e1
          go_loopg [46] S.length (fun gi s46 wr => ∃ i, i ≤ S.length ∧ gi = S.length - i ∧ s46 = .int .i64 i ∧ Hid (AsI w3 B D (askS bfC (S.take i) c l) wr))
          case atStart => exact ⟨0, Nat.zero_le _, rfl, by go_num, HA⟩
          case round =>
            clear HA
            obtain ⟨i, hi, rfl, rfl, HA⟩ := hrel
            by_cases hil : i < S.length
            · have hilz : (i : Int) < (S.length : Int) := by omega
              obtain ⟨s, hs⟩ : ∃ s, S[i]? = some s := ⟨_, List.getElem?_eq_getElem hil⟩
              have hfr := HA.out.1.frame
              have hoS := hfr.own HO3.out (fun g hg h => HSG.out g hg h)
              obtain ⟨sA', sc', heq, hne⟩ := own_form hoS
              obtain ⟨g, rfl⟩ := hne (by omega)
              injection heq with heq1 heq2 heq3
              subst heq1
              have c0 : wr.cell? ⟨g, i * 4, none⟩ = some (.int .u64 (uv s.vh)) := (own_at hoS i hs 0 (by decide)).trans rfl
              have c1 : wr.cell? ⟨g, i * 4 + 1, none⟩ = some (.int .u64 (uv s.vl)) := (own_at hoS i hs 1 (by decide)).trans rfl
              have c2 : wr.cell? ⟨g, i * 4 + 2, none⟩ = some (.int .u64 (uv s.ch)) := (own_at hoS i hs 2 (by decide)).trans rfl
              have c3 : wr.cell? ⟨g, i * 4 + 3, none⟩ = some (.int .u64 (uv s.cl)) := (own_at hoS i hs 3 (by decide)).trans rfl
              have HSK := Lib.hid (askS_take (bf := bfC) (c := c) (l := l) hs)
              have hpre := askS_pre bfC (S.take i) c l
              have hlen := askS_len bfC (S.take i) c l
              rw [List.length_take] at hlen
              clear hs hfr hoS hne heq2 heq3
              go_upto_region 14 with (fail)
              have hbx := below1 wr (.cells #[.int .u64 (uv s.vh), .int .u64 (uv s.vl), .int .u64 (uv s.ch), .int .u64 (uv s.cl)] 43)
              have HSX : Hid (Blk (wr.alloc (.cells #[.int .u64 (uv s.vh), .int .u64 (uv s.vl), .int .u64 (uv s.ch), .int .u64 (uv s.cl)] 43)) wr.heap.size 43 #[.int .u64 (uv s.vh), .int .u64 (uv s.vl), .int .u64 (uv s.ch), .int .u64 (uv s.cl)]) := Blk.new wr _ _
              have HA5 := Lib.hid (HA.out.on hbx)
              have HB5 : Hid (Below wr.heap.size wr (wr.alloc (.cells #[.int .u64 (uv s.vh), .int .u64 (uv s.vl), .int .u64 (uv s.ch), .int .u64 (uv s.cl)] 43))) := hbx
              clear HA hbx c0 c1 c2 c3
              generalize wr.alloc (.cells #[.int .u64 (uv s.vh), .int .u64 (uv s.vl), .int .u64 (uv s.ch), .int .u64 (uv s.cl)] 43) = w5 at HSX HA5 HB5 ⊢
              generalize wr.heap.size = bs at HSX ⊢
              obtain ⟨l2, hl2⟩ : ∃ l2, askS bfC (S.take i) c l = l2 := ⟨_, rfl⟩
              rw [hl2] at HA5 HSK hpre hlen
              have hc2 : l2[n]? = some c := by
                obtain ⟨t, ht⟩ := hpre
                rw [← ht, List.getElem?_append_left hlt]
                exact HCN.out
              obtain ⟨⟨S9, ⟨lv, mb2, b1, b2, b3, b4, b5⟩, b6, b7⟩, b8⟩ := HA5.out
              obtain ⟨lA2, lc, rfl, hA2⟩ := own_form b2
              have hn2 : n < l2.length := (List.getElem?_eq_some_iff.1 hc2).1
              obtain ⟨g2, rfl⟩ := hA2 (by omega)
              have hn2z : (n : Int) < (l2.length : Int) := by omega
              have HKP : Hid (∀ W, Below w5.heap.size w5 W → (Below w5.heap.size w5 W ∧ W.cell? ⟨B, 0, none⟩ = some (.slice (some ⟨g2, 0, none⟩) l2.length lc) ∧ W.cell? ⟨g2, n * 4, none⟩ = some (.int .u64 (uv c.vh)) ∧ W.cell? ⟨g2, n * 4 + 1, none⟩ = some (.int .u64 (uv c.vl)) ∧ W.cell? ⟨g2, n * 4 + 2, none⟩ = some (.int .u64 (uv c.ch)) ∧ W.cell? ⟨g2, n * 4 + 3, none⟩ = some (.int .u64 (uv c.cl)) ∧ W.cell? ⟨bs, 0, none⟩ = some (.int .u64 (uv s.vh)) ∧ W.cell? ⟨bs, 1, none⟩ = some (.int .u64 (uv s.vl)) ∧ W.cell? ⟨bs, 2, none⟩ = some (.int .u64 (uv s.ch)) ∧ W.cell? ⟨bs, 3, none⟩ = some (.int .u64 (uv s.cl)))) := by
                intro W hb
                have k1 := b1.on hb
                have k2 := own_on b2 hb
                exact ⟨hb, (k1.cell 0).trans rfl, (own_at k2 n hc2 0 (by decide)).trans rfl, (own_at k2 n hc2 1 (by decide)).trans rfl, (own_at k2 n hc2 2 (by decide)).trans rfl, (own_at k2 n hc2 3 (by decide)).trans rfl, ((HSX.out.on hb).cell 0).trans rfl, ((HSX.out.on hb).cell 1).trans rfl, ((HSX.out.on hb).cell 2).trans rfl, ((HSX.out.on hb).cell 3).trans rfl⟩
              clear b1 b2 b3 b4 b5 b6 b7 b8 hA2 hc2 hl2 hpre HSX
              by_cases hY : c.snd = true ∧ c.agr s = true
              · have HY := Lib.hid hY
                have HTK : Hid (askS bfC (S.take (i + 1)) c l = addC l2 ⟨c.vh &&& (c.ch &&& ~~~s.ch), c.vl &&& (c.cl &&& ~~~s.cl), c.ch &&& ~~~s.ch, c.cl &&& ~~~s.cl⟩) := by
                  show _ = _
                  rw [HSK.out, bfC_some hY.1 hY.2]
                  rfl
                clear HSK hY
                refine wp_region_held_drew (S := fun w' => Below w5.heap.size w5 w' ∧ w'.cell? ⟨B, 0, none⟩ = some (.slice (some ⟨g2, 0, none⟩) l2.length lc) ∧ w'.cell? ⟨g2, n * 4, none⟩ = some (.int .u64 (uv c.vh)) ∧ w'.cell? ⟨g2, n * 4 + 1, none⟩ = some (.int .u64 (uv c.vl)) ∧ w'.cell? ⟨g2, n * 4 + 2, none⟩ = some (.int .u64 (uv c.ch)) ∧ w'.cell? ⟨g2, n * 4 + 3, none⟩ = some (.int .u64 (uv c.cl)) ∧ w'.cell? ⟨bs, 0, none⟩ = some (.int .u64 (uv s.vh)) ∧ w'.cell? ⟨bs, 1, none⟩ = some (.int .u64 (uv s.vl)) ∧ w'.cell? ⟨bs, 2, none⟩ = some (.int .u64 (uv s.ch)) ∧ w'.cell? ⟨bs, 3, none⟩ = some (.int .u64 (uv s.cl))) (by kernel_rfl) (HKP.out _ (Below.refl _ w5).drew) (fun hHeld => ?_)
                have hB : Below w5.heap.size w5 w5.drew := (Below.refl _ w5).drew
                generalize w5.drew = u0 at hHeld hB ⊢
                refine wpAnyH_take (i := 0) (oi := ⟨some 51, _, _, _, _, _⟩) (v := ?vya0_1) rfl (by kernel_rfl) (by kernel_rfl) (by kernel_rfl) (fun _ _ _ h => h) (Or.inl ⟨by rfl, ?yya0_1⟩) hHeld ?rya0_1
                case yya0_1 => (intro w' hSw; (try dsimp only at hSw); go_simp; try (with_reducible rfl))
                simp only [Act.put, List.setIfInBounds_toArray, List.set_cons_zero, List.set_cons_succ]
                refine wpAnyH_take (i := 1) (oi := ⟨some 52, _, _, _, _, _⟩) (v := ?vya1_2) rfl (by kernel_rfl) (by kernel_rfl) (by kernel_rfl) (fun _ _ _ h => h) (Or.inl ⟨by rfl, ?yya1_2⟩) hHeld ?rya1_2
                case yya1_2 => (intro w' hSw; (try dsimp only at hSw); go_simp; try (with_reducible rfl))
                simp only [Act.put, List.setIfInBounds_toArray, List.set_cons_zero, List.set_cons_succ]
                refine wpAnyH_take (i := 2) (oi := ⟨some 53, _, _, _, _, _⟩) (v := ?vya2_3) rfl (by kernel_rfl) (by kernel_rfl) (by kernel_rfl) (fun _ _ _ h => h) (Or.inl ⟨by rfl, ?yya2_3⟩) hHeld ?rya2_3
                case yya2_3 => (intro w' hSw; (try dsimp only at hSw); go_simp; try (with_reducible rfl))
                simp only [Act.put, List.setIfInBounds_toArray, List.set_cons_zero, List.set_cons_succ]
                refine wpAnyH_take (i := 3) (oi := ⟨some 54, _, _, _, _, _⟩) (v := ?vya3_4) rfl (by kernel_rfl) (by kernel_rfl) (by kernel_rfl) (fun _ _ _ h => h) (Or.inl ⟨by rfl, ?yya3_4⟩) hHeld ?rya3_4
                case yya3_4 => (intro w' hSw; (try dsimp only at hSw); go_simp; try (with_reducible rfl))
                simp only [Act.put, List.setIfInBounds_toArray, List.set_cons_zero, List.set_cons_succ]
                refine wpAnyH_take (i := 4) (oi := ⟨some 55, _, _, _, _, _⟩) (v := ?vya4_5) rfl (by kernel_rfl) (by kernel_rfl) (by kernel_rfl) (fun _ _ _ h => h) (Or.inl ⟨by rfl, ?yya4_5⟩) hHeld ?rya4_5
                case yya4_5 => (intro w' hSw; (try dsimp only at hSw); go_simp; try (with_reducible rfl))
                simp only [Act.put, List.setIfInBounds_toArray, List.set_cons_zero, List.set_cons_succ]
                refine wpAnyH_take (i := 5) (oi := ⟨some 56, _, _, _, _, _⟩) (v := ?vya5_6) rfl (by kernel_rfl) (by kernel_rfl) (by kernel_rfl) (fun _ _ _ h => h) (Or.inl ⟨by rfl, ?yya5_6⟩) hHeld ?rya5_6
                case yya5_6 => (intro w' hSw; (try dsimp only at hSw); go_simp; try (with_reducible rfl))
                simp only [Act.put, List.setIfInBounds_toArray, List.set_cons_zero, List.set_cons_succ]
                refine wpAnyH_ready (rs := [6, 10]) (by kernel_rfl) (by simp) ?_
                refine AllReadyH.cons (o := ⟨some 57, _, _, _, _, _⟩) rfl (fun K hK => ?_) ?_
                · go_simp
                  (with_reducible refine (cbef_t c s _ HY.out.1 HY.out.2).mono ?_)
                  rintro e u1 ⟨rfl, hb⟩
                  (try dsimp only)
                  have hB2 := hB.trans (hb.mono hB.size)
                  refine hK.out _ _ (HKP.out _ hB2) (fun hNext => ?_)
                  clear hK K hHeld
                  have hHeld := hNext
                  clear hNext
                  clear hB
                  have hB := hB2
                  clear hB2
                  clear hb
                  try simp only [Act.put, List.setIfInBounds_toArray, List.set_cons_zero, List.set_cons_succ]
                  refine wpAnyH_take (i := 7) (oi := ⟨some 50, _, _, _, _, _⟩) (v := ?vya7_7) rfl (by kernel_rfl) (by kernel_rfl) (by kernel_rfl) (fun _ _ _ h => h) (Or.inl ⟨by rfl, ?yya7_7⟩) hHeld ?rya7_7
                  case yya7_7 => (intro w' hSw; (try dsimp only at hSw); go_simp; try (with_reducible rfl))
                  simp only [Act.put, List.setIfInBounds_toArray, List.set_cons_zero, List.set_cons_succ]
                  refine wpAnyH_take (i := 8) (oi := ⟨some 58, _, _, _, _, _⟩) (v := ?vya8_8) rfl (by kernel_rfl) (by kernel_rfl) (by kernel_rfl) (fun _ _ _ h => h) (Or.inl ⟨by rfl, ?yya8_8⟩) hHeld ?rya8_8
                  case yya8_8 => (intro w' hSw; (try dsimp only at hSw); go_simp; try (with_reducible rfl))
                  simp only [Act.put, List.setIfInBounds_toArray, List.set_cons_zero, List.set_cons_succ]
                  refine wpAnyH_take (i := 9) (oi := ⟨some 59, _, _, _, _, _⟩) (v := ?vya9_9) rfl (by kernel_rfl) (by kernel_rfl) (by kernel_rfl) (fun _ _ _ h => h) (Or.inl ⟨by rfl, ?yya9_9⟩) hHeld ?rya9_9
                  case yya9_9 => (intro w' hSw; (try dsimp only at hSw); go_simp; try (with_reducible rfl))
                  simp only [Act.put, List.setIfInBounds_toArray, List.set_cons_zero, List.set_cons_succ]
                  refine wpAnyH_ready (rs := [10]) (by kernel_rfl) (by simp) ?_
                  refine AllReadyH.cons (o := ⟨some 13, _, _, _, _, _⟩) rfl (fun K hK => ?_) AllReadyH.nil
                  go_simp
                  have hb := below1 u1 (.cells #[.int .u64 0, .int .u64 0, .int .u64 0, .int .u64 0] 43)
                  have hB2 := hB.trans (hb.mono hB.size)
                  refine hK.out _ _ (HKP.out _ hB2) (fun hNext => ?_)
                  have t_p : Nb w5.heap.size (u1.alloc (.cells #[.int .u64 0, .int .u64 0, .int .u64 0, .int .u64 0] 43)) u1.heap.size 43 #[.int .u64 0, .int .u64 0, .int .u64 0, .int .u64 0] := Nb.top u1 hB.size
                  clear hK K hHeld
                  have hHeld := hNext
                  clear hNext
                  clear hB
                  have hB := hB2
                  clear hB2
                  clear hb
                  generalize hgen : (u1.alloc (.cells #[.int .u64 0, .int .u64 0, .int .u64 0, .int .u64 0] 43)) = u2 at hHeld hB  t_p ⊢
                  clear hgen
                  generalize hgen : u1.heap.size = b_p at t_p  ⊢
                  clear hgen
                  try simp only [Act.put, List.setIfInBounds_toArray, List.set_cons_zero, List.set_cons_succ]
                  refine wpAnyH_ready (rs := [11]) (by kernel_rfl) (by simp) ?_
                  refine AllReadyH.cons (o := ⟨none, _, _, _, _, _⟩) rfl (fun K hK => ?_) AllReadyH.nil
                  rw [if_pos (by rfl)]
                  refine wp_store_mid 43 _ _ rfl b_p 0 #[.int .u64 (uv (c.vh &&& (c.ch &&& ~~~s.ch))), .int .u64 (uv (c.vl &&& (c.cl &&& ~~~s.cl))), .int .u64 (uv (c.ch &&& ~~~s.ch)), .int .u64 (uv (c.cl &&& ~~~s.cl))] rfl rfl t_p.there infoCubeS (by simp [Value.oneCell']) ?_
                  (try dsimp only)
                  have hB2 := (Below.setCells [.int .u64 (uv (c.vh &&& (c.ch &&& ~~~s.ch))), .int .u64 (uv (c.vl &&& (c.cl &&& ~~~s.cl))), .int .u64 (uv (c.ch &&& ~~~s.ch)), .int .u64 (uv (c.cl &&& ~~~s.cl))] 0 _ hB t_p.2)
                  refine hK.out _ _ (HKP.out _ hB2) (fun hNext => ?_)
                  clear hK K hHeld
                  have hHeld := hNext
                  clear hNext
                  clear hB
                  have hB := hB2
                  clear hB2
                  replace t_p := t_p.put [.int .u64 (uv (c.vh &&& (c.ch &&& ~~~s.ch))), .int .u64 (uv (c.vl &&& (c.cl &&& ~~~s.cl))), .int .u64 (uv (c.ch &&& ~~~s.ch)), .int .u64 (uv (c.cl &&& ~~~s.cl))] rfl
                  generalize hgen : (World.setCells u2 b_p 0 [.int .u64 (uv (c.vh &&& (c.ch &&& ~~~s.ch))), .int .u64 (uv (c.vl &&& (c.cl &&& ~~~s.cl))), .int .u64 (uv (c.ch &&& ~~~s.ch)), .int .u64 (uv (c.cl &&& ~~~s.cl))]) = u3 at hHeld hB t_p ⊢
                  clear hgen
                  try simp only [Act.put]
                  refine wpAnyH_take (i := 12) (oi := ⟨some 14, _, _, _, _, _⟩) (v := ?vya12_10) rfl (by kernel_rfl) (by kernel_rfl) (by kernel_rfl) (fun _ _ _ h => h) (Or.inl ⟨by rfl, ?yya12_10⟩) hHeld ?rya12_10
                  case yya12_10 => (intro w' hSw; (try dsimp only at hSw); go_simp; try (with_reducible rfl))
                  simp only [Act.put, List.setIfInBounds_toArray, List.set_cons_zero, List.set_cons_succ]
                  refine wpAnyH_done (by kernel_rfl) ?_ _
                  have hs5 := HB5.out.size
                  have HA7 := Lib.hid (HA5.out.on hB)
                  obtain ⟨f0, f1, f2, f3⟩ := quad t_p.1
                  clear hHeld hB HKP
                  go_wp2_with fail
                  (with_reducible refine (dadd_a ⟨c.vh &&& (c.ch &&& ~~~s.ch), c.vl &&& (c.cl &&& ~~~s.cl), c.ch &&& ~~~s.ch, c.cl &&& ~~~s.cl⟩ w3 B D l2 _ HA7.out (by omega)).mono ?_)
                  rintro e w8 ⟨rfl, HA8⟩
                  have HA9 := Lib.hid HA8
                  clear HA8 HA7 f0 f1 f2 f3 t_p
                  rw [← HTK.out] at HA9
                  go_wp2
                  go_roundg (S.length - (i + 1))
                  case measure => omega
                  case rel => exact ⟨i + 1, by omega, rfl, by go_num, HA9⟩
                refine AllReadyH.cons (o := ⟨some 13, _, _, _, _, _⟩) rfl (fun K hK => ?_) AllReadyH.nil
                go_simp
                have hb := below1 u0 (.cells #[.int .u64 0, .int .u64 0, .int .u64 0, .int .u64 0] 43)
                have hB2 := hB.trans (hb.mono hB.size)
                refine hK.out _ _ (HKP.out _ hB2) (fun hNext => ?_)
                have t_p : Nb w5.heap.size (u0.alloc (.cells #[.int .u64 0, .int .u64 0, .int .u64 0, .int .u64 0] 43)) u0.heap.size 43 #[.int .u64 0, .int .u64 0, .int .u64 0, .int .u64 0] := Nb.top u0 hB.size
                clear hK K hHeld
                have hHeld := hNext
                clear hNext
                clear hB
                have hB := hB2
                clear hB2
                clear hb
                generalize hgen : (u0.alloc (.cells #[.int .u64 0, .int .u64 0, .int .u64 0, .int .u64 0] 43)) = u4 at hHeld hB  t_p ⊢
                clear hgen
                generalize hgen : u0.heap.size = b_p at t_p  ⊢
                clear hgen
                try simp only [Act.put, List.setIfInBounds_toArray, List.set_cons_zero, List.set_cons_succ]
                refine wpAnyH_ready (rs := [6]) (by kernel_rfl) (by simp) ?_
                refine AllReadyH.cons (o := ⟨some 57, _, _, _, _, _⟩) rfl (fun K hK => ?_) AllReadyH.nil
                go_simp
                (with_reducible refine (cbef_t c s _ HY.out.1 HY.out.2).mono ?_)
                rintro e u5 ⟨rfl, hb⟩
                (try dsimp only)
                have hB2 := hB.trans (hb.mono hB.size)
                refine hK.out _ _ (HKP.out _ hB2) (fun hNext => ?_)
                clear hK K hHeld
                have hHeld := hNext
                clear hNext
                clear hB
                have hB := hB2
                clear hB2
                replace t_p := t_p.on hb
                clear hb
                try simp only [Act.put, List.setIfInBounds_toArray, List.set_cons_zero, List.set_cons_succ]
                refine wpAnyH_take (i := 7) (oi := ⟨some 50, _, _, _, _, _⟩) (v := ?vya7_11) rfl (by kernel_rfl) (by kernel_rfl) (by kernel_rfl) (fun _ _ _ h => h) (Or.inl ⟨by rfl, ?yya7_11⟩) hHeld ?rya7_11
                case yya7_11 => (intro w' hSw; (try dsimp only at hSw); go_simp; try (with_reducible rfl))
                simp only [Act.put, List.setIfInBounds_toArray, List.set_cons_zero, List.set_cons_succ]
                refine wpAnyH_take (i := 8) (oi := ⟨some 58, _, _, _, _, _⟩) (v := ?vya8_12) rfl (by kernel_rfl) (by kernel_rfl) (by kernel_rfl) (fun _ _ _ h => h) (Or.inl ⟨by rfl, ?yya8_12⟩) hHeld ?rya8_12
                case yya8_12 => (intro w' hSw; (try dsimp only at hSw); go_simp; try (with_reducible rfl))
                simp only [Act.put, List.setIfInBounds_toArray, List.set_cons_zero, List.set_cons_succ]
                refine wpAnyH_take (i := 9) (oi := ⟨some 59, _, _, _, _, _⟩) (v := ?vya9_13) rfl (by kernel_rfl) (by kernel_rfl) (by kernel_rfl) (fun _ _ _ h => h) (Or.inl ⟨by rfl, ?yya9_13⟩) hHeld ?rya9_13
                case yya9_13 => (intro w' hSw; (try dsimp only at hSw); go_simp; try (with_reducible rfl))
                simp only [Act.put, List.setIfInBounds_toArray, List.set_cons_zero, List.set_cons_succ]
                refine wpAnyH_ready (rs := [11]) (by kernel_rfl) (by simp) ?_
                refine AllReadyH.cons (o := ⟨none, _, _, _, _, _⟩) rfl (fun K hK => ?_) AllReadyH.nil
                rw [if_pos (by rfl)]
                refine wp_store_mid 43 _ _ rfl b_p 0 #[.int .u64 (uv (c.vh &&& (c.ch &&& ~~~s.ch))), .int .u64 (uv (c.vl &&& (c.cl &&& ~~~s.cl))), .int .u64 (uv (c.ch &&& ~~~s.ch)), .int .u64 (uv (c.cl &&& ~~~s.cl))] rfl rfl t_p.there infoCubeS (by simp [Value.oneCell']) ?_
                (try dsimp only)
                have hB2 := (Below.setCells [.int .u64 (uv (c.vh &&& (c.ch &&& ~~~s.ch))), .int .u64 (uv (c.vl &&& (c.cl &&& ~~~s.cl))), .int .u64 (uv (c.ch &&& ~~~s.ch)), .int .u64 (uv (c.cl &&& ~~~s.cl))] 0 _ hB t_p.2)
                refine hK.out _ _ (HKP.out _ hB2) (fun hNext => ?_)
                clear hK K hHeld
                have hHeld := hNext
                clear hNext
                clear hB
                have hB := hB2
                clear hB2
                replace t_p := t_p.put [.int .u64 (uv (c.vh &&& (c.ch &&& ~~~s.ch))), .int .u64 (uv (c.vl &&& (c.cl &&& ~~~s.cl))), .int .u64 (uv (c.ch &&& ~~~s.ch)), .int .u64 (uv (c.cl &&& ~~~s.cl))] rfl
                generalize hgen : (World.setCells u5 b_p 0 [.int .u64 (uv (c.vh &&& (c.ch &&& ~~~s.ch))), .int .u64 (uv (c.vl &&& (c.cl &&& ~~~s.cl))), .int .u64 (uv (c.ch &&& ~~~s.ch)), .int .u64 (uv (c.cl &&& ~~~s.cl))]) = u6 at hHeld hB t_p ⊢
                clear hgen
                try simp only [Act.put]
                refine wpAnyH_take (i := 12) (oi := ⟨some 14, _, _, _, _, _⟩) (v := ?vya12_14) rfl (by kernel_rfl) (by kernel_rfl) (by kernel_rfl) (fun _ _ _ h => h) (Or.inl ⟨by rfl, ?yya12_14⟩) hHeld ?rya12_14
                case yya12_14 => (intro w' hSw; (try dsimp only at hSw); go_simp; try (with_reducible rfl))
                simp only [Act.put, List.setIfInBounds_toArray, List.set_cons_zero, List.set_cons_succ]
                refine wpAnyH_done (by kernel_rfl) ?_ _
                have hs5 := HB5.out.size
                have HA7 := Lib.hid (HA5.out.on hB)
                obtain ⟨f0, f1, f2, f3⟩ := quad t_p.1
                clear hHeld hB HKP
                go_wp2_with fail
                (with_reducible refine (dadd_a ⟨c.vh &&& (c.ch &&& ~~~s.ch), c.vl &&& (c.cl &&& ~~~s.cl), c.ch &&& ~~~s.ch, c.cl &&& ~~~s.cl⟩ w3 B D l2 _ HA7.out (by omega)).mono ?_)
                rintro e w8 ⟨rfl, HA8⟩
                have HA9 := Lib.hid HA8
                clear HA8 HA7 f0 f1 f2 f3 t_p
                rw [← HTK.out] at HA9
                go_wp2
                go_roundg (S.length - (i + 1))
                case measure => omega
                case rel => exact ⟨i + 1, by omega, rfl, by go_num, HA9⟩
              · have HY : Hid (c.snd = false ∨ (c.snd = true ∧ c.agr s = false)) := by
                  show _ ∨ _
                  cases h1 : c.snd with
                  | false => exact .inl rfl
                  | true =>
                    cases h2 : c.agr s with
                    | false => exact .inr ⟨rfl, rfl⟩
                    | true => exact absurd ⟨h1, h2⟩ hY
                have HTK : Hid (askS bfC (S.take (i + 1)) c l = l2) := by
                  show _ = _
                  rw [HSK.out, bfC_none hY]
                  rfl
                clear HSK hY
                refine wp_region_held_drew (S := fun w' => Below w5.heap.size w5 w' ∧ w'.cell? ⟨B, 0, none⟩ = some (.slice (some ⟨g2, 0, none⟩) l2.length lc) ∧ w'.cell? ⟨g2, n * 4, none⟩ = some (.int .u64 (uv c.vh)) ∧ w'.cell? ⟨g2, n * 4 + 1, none⟩ = some (.int .u64 (uv c.vl)) ∧ w'.cell? ⟨g2, n * 4 + 2, none⟩ = some (.int .u64 (uv c.ch)) ∧ w'.cell? ⟨g2, n * 4 + 3, none⟩ = some (.int .u64 (uv c.cl)) ∧ w'.cell? ⟨bs, 0, none⟩ = some (.int .u64 (uv s.vh)) ∧ w'.cell? ⟨bs, 1, none⟩ = some (.int .u64 (uv s.vl)) ∧ w'.cell? ⟨bs, 2, none⟩ = some (.int .u64 (uv s.ch)) ∧ w'.cell? ⟨bs, 3, none⟩ = some (.int .u64 (uv s.cl))) (by kernel_rfl) (HKP.out _ (Below.refl _ w5).drew) (fun hHeld => ?_)
                have hB : Below w5.heap.size w5 w5.drew := (Below.refl _ w5).drew
                generalize w5.drew = u0 at hHeld hB ⊢
                refine wpAnyH_take (i := 0) (oi := ⟨some 51, _, _, _, _, _⟩) (v := ?vna0_1) rfl (by kernel_rfl) (by kernel_rfl) (by kernel_rfl) (fun _ _ _ h => h) (Or.inl ⟨by rfl, ?yna0_1⟩) hHeld ?rna0_1
                case yna0_1 => (intro w' hSw; (try dsimp only at hSw); go_simp; try (with_reducible rfl))
                simp only [Act.put, List.setIfInBounds_toArray, List.set_cons_zero, List.set_cons_succ]
                refine wpAnyH_take (i := 1) (oi := ⟨some 52, _, _, _, _, _⟩) (v := ?vna1_2) rfl (by kernel_rfl) (by kernel_rfl) (by kernel_rfl) (fun _ _ _ h => h) (Or.inl ⟨by rfl, ?yna1_2⟩) hHeld ?rna1_2
                case yna1_2 => (intro w' hSw; (try dsimp only at hSw); go_simp; try (with_reducible rfl))
                simp only [Act.put, List.setIfInBounds_toArray, List.set_cons_zero, List.set_cons_succ]
                refine wpAnyH_take (i := 2) (oi := ⟨some 53, _, _, _, _, _⟩) (v := ?vna2_3) rfl (by kernel_rfl) (by kernel_rfl) (by kernel_rfl) (fun _ _ _ h => h) (Or.inl ⟨by rfl, ?yna2_3⟩) hHeld ?rna2_3
                case yna2_3 => (intro w' hSw; (try dsimp only at hSw); go_simp; try (with_reducible rfl))
                simp only [Act.put, List.setIfInBounds_toArray, List.set_cons_zero, List.set_cons_succ]
                refine wpAnyH_take (i := 3) (oi := ⟨some 54, _, _, _, _, _⟩) (v := ?vna3_4) rfl (by kernel_rfl) (by kernel_rfl) (by kernel_rfl) (fun _ _ _ h => h) (Or.inl ⟨by rfl, ?yna3_4⟩) hHeld ?rna3_4
                case yna3_4 => (intro w' hSw; (try dsimp only at hSw); go_simp; try (with_reducible rfl))
                simp only [Act.put, List.setIfInBounds_toArray, List.set_cons_zero, List.set_cons_succ]
                refine wpAnyH_take (i := 4) (oi := ⟨some 55, _, _, _, _, _⟩) (v := ?vna4_5) rfl (by kernel_rfl) (by kernel_rfl) (by kernel_rfl) (fun _ _ _ h => h) (Or.inl ⟨by rfl, ?yna4_5⟩) hHeld ?rna4_5
                case yna4_5 => (intro w' hSw; (try dsimp only at hSw); go_simp; try (with_reducible rfl))
                simp only [Act.put, List.setIfInBounds_toArray, List.set_cons_zero, List.set_cons_succ]
                refine wpAnyH_take (i := 5) (oi := ⟨some 56, _, _, _, _, _⟩) (v := ?vna5_6) rfl (by kernel_rfl) (by kernel_rfl) (by kernel_rfl) (fun _ _ _ h => h) (Or.inl ⟨by rfl, ?yna5_6⟩) hHeld ?rna5_6
                case yna5_6 => (intro w' hSw; (try dsimp only at hSw); go_simp; try (with_reducible rfl))
                simp only [Act.put, List.setIfInBounds_toArray, List.set_cons_zero, List.set_cons_succ]
                refine wpAnyH_ready (rs := [6, 10]) (by kernel_rfl) (by simp) ?_
                refine AllReadyH.cons (o := ⟨some 57, _, _, _, _, _⟩) rfl (fun K hK => ?_) ?_
                · go_simp
                  (with_reducible refine (cbef_f c s _ HY.out).mono ?_)
                  rintro e u1 ⟨rfl, hb⟩
                  (try dsimp only)
                  have hB2 := hB.trans (hb.mono hB.size)
                  refine hK.out _ _ (HKP.out _ hB2) (fun hNext => ?_)
                  clear hK K hHeld
                  have hHeld := hNext
                  clear hNext
                  clear hB
                  have hB := hB2
                  clear hB2
                  clear hb
                  try simp only [Act.put, List.setIfInBounds_toArray, List.set_cons_zero, List.set_cons_succ]
                  refine wpAnyH_take (i := 7) (oi := ⟨some 50, _, _, _, _, _⟩) (v := ?vna7_7) rfl (by kernel_rfl) (by kernel_rfl) (by kernel_rfl) (fun _ _ _ h => h) (Or.inl ⟨by rfl, ?yna7_7⟩) hHeld ?rna7_7
                  case yna7_7 => (intro w' hSw; (try dsimp only at hSw); go_simp; try (with_reducible rfl))
                  simp only [Act.put, List.setIfInBounds_toArray, List.set_cons_zero, List.set_cons_succ]
                  refine wpAnyH_take (i := 8) (oi := ⟨some 58, _, _, _, _, _⟩) (v := ?vna8_8) rfl (by kernel_rfl) (by kernel_rfl) (by kernel_rfl) (fun _ _ _ h => h) (Or.inl ⟨by rfl, ?yna8_8⟩) hHeld ?rna8_8
                  case yna8_8 => (intro w' hSw; (try dsimp only at hSw); go_simp; try (with_reducible rfl))
                  simp only [Act.put, List.setIfInBounds_toArray, List.set_cons_zero, List.set_cons_succ]
                  refine wpAnyH_take (i := 9) (oi := ⟨some 59, _, _, _, _, _⟩) (v := ?vna9_9) rfl (by kernel_rfl) (by kernel_rfl) (by kernel_rfl) (fun _ _ _ h => h) (Or.inl ⟨by rfl, ?yna9_9⟩) hHeld ?rna9_9
                  case yna9_9 => (intro w' hSw; (try dsimp only at hSw); go_simp; try (with_reducible rfl))
                  simp only [Act.put, List.setIfInBounds_toArray, List.set_cons_zero, List.set_cons_succ]
                  refine wpAnyH_ready (rs := [10]) (by kernel_rfl) (by simp) ?_
                  refine AllReadyH.cons (o := ⟨some 13, _, _, _, _, _⟩) rfl (fun K hK => ?_) AllReadyH.nil
                  go_simp
                  have hb := below1 u1 (.cells #[.int .u64 0, .int .u64 0, .int .u64 0, .int .u64 0] 43)
                  have hB2 := hB.trans (hb.mono hB.size)
                  refine hK.out _ _ (HKP.out _ hB2) (fun hNext => ?_)
                  have t_p : Nb w5.heap.size (u1.alloc (.cells #[.int .u64 0, .int .u64 0, .int .u64 0, .int .u64 0] 43)) u1.heap.size 43 #[.int .u64 0, .int .u64 0, .int .u64 0, .int .u64 0] := Nb.top u1 hB.size
                  clear hK K hHeld
                  have hHeld := hNext
                  clear hNext
                  clear hB
                  have hB := hB2
                  clear hB2
                  clear hb
                  generalize hgen : (u1.alloc (.cells #[.int .u64 0, .int .u64 0, .int .u64 0, .int .u64 0] 43)) = u2 at hHeld hB  t_p ⊢
                  clear hgen
                  generalize hgen : u1.heap.size = b_p at t_p  ⊢
                  clear hgen
                  try simp only [Act.put, List.setIfInBounds_toArray, List.set_cons_zero, List.set_cons_succ]
                  refine wpAnyH_ready (rs := [11]) (by kernel_rfl) (by simp) ?_
                  refine AllReadyH.cons (o := ⟨none, _, _, _, _, _⟩) rfl (fun K hK => ?_) AllReadyH.nil
                  rw [if_pos (by rfl)]
                  refine wp_store_mid 43 _ _ rfl b_p 0 #[.int .u64 0, .int .u64 0, .int .u64 0, .int .u64 0] rfl rfl t_p.there infoCubeS (by simp [Value.oneCell']) ?_
                  (try dsimp only)
                  have hB2 := (Below.setCells [.int .u64 0, .int .u64 0, .int .u64 0, .int .u64 0] 0 _ hB t_p.2)
                  refine hK.out _ _ (HKP.out _ hB2) (fun hNext => ?_)
                  clear hK K hHeld
                  have hHeld := hNext
                  clear hNext
                  clear hB
                  have hB := hB2
                  clear hB2
                  replace t_p := t_p.put [.int .u64 0, .int .u64 0, .int .u64 0, .int .u64 0] rfl
                  generalize hgen : (World.setCells u2 b_p 0 [.int .u64 0, .int .u64 0, .int .u64 0, .int .u64 0]) = u3 at hHeld hB t_p ⊢
                  clear hgen
                  try simp only [Act.put]
                  refine wpAnyH_take (i := 12) (oi := ⟨some 14, _, _, _, _, _⟩) (v := ?vna12_10) rfl (by kernel_rfl) (by kernel_rfl) (by kernel_rfl) (fun _ _ _ h => h) (Or.inl ⟨by rfl, ?yna12_10⟩) hHeld ?rna12_10
                  case yna12_10 => (intro w' hSw; (try dsimp only at hSw); go_simp; try (with_reducible rfl))
                  simp only [Act.put, List.setIfInBounds_toArray, List.set_cons_zero, List.set_cons_succ]
                  refine wpAnyH_done (by kernel_rfl) ?_ _
                  have hs5 := HB5.out.size
                  have HA7 := Lib.hid (HA5.out.on hB)
                  obtain ⟨f0, f1, f2, f3⟩ := quad t_p.1
                  clear hHeld hB HKP
                  have HA9 := HA7
                  clear HA7 f0 f1 f2 f3 t_p
                  rw [← HTK.out] at HA9
                  go_wp2
                  go_roundg (S.length - (i + 1))
                  case measure => omega
                  case rel => exact ⟨i + 1, by omega, rfl, by go_num, HA9⟩
                refine AllReadyH.cons (o := ⟨some 13, _, _, _, _, _⟩) rfl (fun K hK => ?_) AllReadyH.nil
                go_simp
                have hb := below1 u0 (.cells #[.int .u64 0, .int .u64 0, .int .u64 0, .int .u64 0] 43)
                have hB2 := hB.trans (hb.mono hB.size)
                refine hK.out _ _ (HKP.out _ hB2) (fun hNext => ?_)
                have t_p : Nb w5.heap.size (u0.alloc (.cells #[.int .u64 0, .int .u64 0, .int .u64 0, .int .u64 0] 43)) u0.heap.size 43 #[.int .u64 0, .int .u64 0, .int .u64 0, .int .u64 0] := Nb.top u0 hB.size
                clear hK K hHeld
                have hHeld := hNext
                clear hNext
                clear hB
                have hB := hB2
                clear hB2
                clear hb
                generalize hgen : (u0.alloc (.cells #[.int .u64 0, .int .u64 0, .int .u64 0, .int .u64 0] 43)) = u4 at hHeld hB  t_p ⊢
                clear hgen
                generalize hgen : u0.heap.size = b_p at t_p  ⊢
                clear hgen
                try simp only [Act.put, List.setIfInBounds_toArray, List.set_cons_zero, List.set_cons_succ]
                refine wpAnyH_ready (rs := [6]) (by kernel_rfl) (by simp) ?_
                refine AllReadyH.cons (o := ⟨some 57, _, _, _, _, _⟩) rfl (fun K hK => ?_) AllReadyH.nil
                go_simp
                (with_reducible refine (cbef_f c s _ HY.out).mono ?_)
                rintro e u5 ⟨rfl, hb⟩
                (try dsimp only)
                have hB2 := hB.trans (hb.mono hB.size)
                refine hK.out _ _ (HKP.out _ hB2) (fun hNext => ?_)
                clear hK K hHeld
                have hHeld := hNext
                clear hNext
                clear hB
                have hB := hB2
                clear hB2
                replace t_p := t_p.on hb
                clear hb
                try simp only [Act.put, List.setIfInBounds_toArray, List.set_cons_zero, List.set_cons_succ]
                refine wpAnyH_take (i := 7) (oi := ⟨some 50, _, _, _, _, _⟩) (v := ?vna7_11) rfl (by kernel_rfl) (by kernel_rfl) (by kernel_rfl) (fun _ _ _ h => h) (Or.inl ⟨by rfl, ?yna7_11⟩) hHeld ?rna7_11
                case yna7_11 => (intro w' hSw; (try dsimp only at hSw); go_simp; try (with_reducible rfl))
                simp only [Act.put, List.setIfInBounds_toArray, List.set_cons_zero, List.set_cons_succ]
                refine wpAnyH_take (i := 8) (oi := ⟨some 58, _, _, _, _, _⟩) (v := ?vna8_12) rfl (by kernel_rfl) (by kernel_rfl) (by kernel_rfl) (fun _ _ _ h => h) (Or.inl ⟨by rfl, ?yna8_12⟩) hHeld ?rna8_12
                case yna8_12 => (intro w' hSw; (try dsimp only at hSw); go_simp; try (with_reducible rfl))
                simp only [Act.put, List.setIfInBounds_toArray, List.set_cons_zero, List.set_cons_succ]
                refine wpAnyH_take (i := 9) (oi := ⟨some 59, _, _, _, _, _⟩) (v := ?vna9_13) rfl (by kernel_rfl) (by kernel_rfl) (by kernel_rfl) (fun _ _ _ h => h) (Or.inl ⟨by rfl, ?yna9_13⟩) hHeld ?rna9_13
                case yna9_13 => (intro w' hSw; (try dsimp only at hSw); go_simp; try (with_reducible rfl))
                simp only [Act.put, List.setIfInBounds_toArray, List.set_cons_zero, List.set_cons_succ]
                refine wpAnyH_ready (rs := [11]) (by kernel_rfl) (by simp) ?_
                refine AllReadyH.cons (o := ⟨none, _, _, _, _, _⟩) rfl (fun K hK => ?_) AllReadyH.nil
                rw [if_pos (by rfl)]
                refine wp_store_mid 43 _ _ rfl b_p 0 #[.int .u64 0, .int .u64 0, .int .u64 0, .int .u64 0] rfl rfl t_p.there infoCubeS (by simp [Value.oneCell']) ?_
                (try dsimp only)
                have hB2 := (Below.setCells [.int .u64 0, .int .u64 0, .int .u64 0, .int .u64 0] 0 _ hB t_p.2)
                refine hK.out _ _ (HKP.out _ hB2) (fun hNext => ?_)
                clear hK K hHeld
                have hHeld := hNext
                clear hNext
                clear hB
                have hB := hB2
                clear hB2
                replace t_p := t_p.put [.int .u64 0, .int .u64 0, .int .u64 0, .int .u64 0] rfl
                generalize hgen : (World.setCells u5 b_p 0 [.int .u64 0, .int .u64 0, .int .u64 0, .int .u64 0]) = u6 at hHeld hB t_p ⊢
                clear hgen
                try simp only [Act.put]
                refine wpAnyH_take (i := 12) (oi := ⟨some 14, _, _, _, _, _⟩) (v := ?vna12_14) rfl (by kernel_rfl) (by kernel_rfl) (by kernel_rfl) (fun _ _ _ h => h) (Or.inl ⟨by rfl, ?yna12_14⟩) hHeld ?rna12_14
                case yna12_14 => (intro w' hSw; (try dsimp only at hSw); go_simp; try (with_reducible rfl))
                simp only [Act.put, List.setIfInBounds_toArray, List.set_cons_zero, List.set_cons_succ]
                refine wpAnyH_done (by kernel_rfl) ?_ _
                have hs5 := HB5.out.size
                have HA7 := Lib.hid (HA5.out.on hB)
                obtain ⟨f0, f1, f2, f3⟩ := quad t_p.1
                clear hHeld hB HKP
                have HA9 := HA7
                clear HA7 f0 f1 f2 f3 t_p
                rw [← HTK.out] at HA9
                go_wp2
                go_roundg (S.length - (i + 1))
                case measure => omega
                case rel => exact ⟨i + 1, by omega, rfl, by go_num, HA9⟩
            · have hilz : ¬ (i : Int) < (S.length : Int) := by omega
              obtain rfl : i = S.length := by omega
              rw [List.take_length] at HA
              go_wp2
              go_roundg gj
              case measure => omega
              case rel =>
                have hlen := askS_len bfC S c l
                exact ⟨n + 1, askS bfC S c l, by omega, by go_num, by omega, HC2, HA⟩
        · have h5z : ¬ (l.length : Int) ≤ 500 := by omega
          have h5y : (500 : Int) < (l.length : Int) := by omega
          have hLl : l = L := by rw [← HC.out]; exact (cloC_big bfC S 500 gk n l (by omega)).symm
          subst hLl
          clear HC
          obtain ⟨⟨S9, ⟨lv, mb, b1, b2, b3, b4, b5⟩, b6, b7⟩, b8⟩ := HA.out
          obtain ⟨e0, e1⟩ := b1.both
          obtain ⟨lA, lc, rfl⟩ := own_slD b2
          have HO9 := Lib.hid b2
          have H5 := Lib.hid b5
          have H6 := Lib.hid b6
          have H7 := Lib.hid b7
          have H8 := Lib.hid b8
          have HBB := Lib.hid b1
          clear b1 b2 b3 b4 b5 b6 b7 b8
          go_wp2
          refine retDN (D := D) rfl H8.out (v := .tuple #[.slice none 0 0, .int .i64 10]) (by simp [results, Try.results11, go_sem]) ?_
          have hcD : Ch (fun k => k = D) wr (wr.putObj D (.deferred none)) := ⟨rfl, rfl, rfl, by simp, fun k _ hk => World.putObj_heap_other hk⟩
          have hW7 := H7.out.size
          have h3 := B3.out.size
          refine ⟨fun h => by omega, fun _ => rfl, ?_⟩
          exact B3.out.trans ((H7.out.below h3 (fun k hk h => by have := HBS.out; omega)).trans (hcD.below (by omega) (fun k hk h => by have := HDB.out; omega)))
      · have hnz : ¬ (n : Int) < (l.length : Int) := by omega
        have hLl : l = L := by rw [← HC.out]; exact (cloC_end bfC S 500 gk n l (by omega)).symm
        subst hLl
        clear HC
        by_cases h5 : l.length ≤ 500
        · have h5z : ¬ (500 : Int) < (l.length : Int) := by omega
          obtain ⟨⟨S9, ⟨lv, mb, b1, b2, b3, b4, b5⟩, b6, b7⟩, b8⟩ := HA.out
          obtain ⟨e0, e1⟩ := b1.both
          obtain ⟨lA, lc, rfl⟩ := own_slD b2
          have HO9 := Lib.hid b2
          have H5 := Lib.hid b5
          have H6 := Lib.hid b6
          have H7 := Lib.hid b7
          have H8 := Lib.hid b8
          have HBB := Lib.hid b1
          clear b1 b2 b3 b4 b5 b6 b7 b8
          go_wp2_with fail
          (with_reducible refine (csort_c (B + 1) _ l _ (by omega) HO9.out).mono ?_)
          rintro e w9 ⟨rfl, hc9, hp9⟩
          have hg9 : ∀ g, (Value.slice lA l.length lc).ownBlock = some g → B + 1 ≤ g ∧ g ≠ D := fun g hg => ⟨own_ge HO9.out hg, fun e => (H6.out g ((H5.out g).2 (.inr (.inr hg)))).2 e⟩
          have HB9 := Lib.hid (hc9.blk HBB.out (fun e => by have := (hg9 B e).1; omega))
          have hDl : D < wr.heap.size := (Array.getElem?_eq_some_iff.1 H8.out).1
          have HK9 : Hid (w9.heap[D]? = some (.deferred (some []))) := (hc9.block D hDl (fun e => (hg9 D e).2 rfl)).trans H8.out
          have HC9 := Lib.hid hc9
          have HP9 := Lib.hid hp9
          have HG9 := Lib.hid hg9
          clear hc9 hp9 hg9 e0 e1
          obtain ⟨e0, e1⟩ := HB9.out.both
          go_wp2
          refine retDN (D := D) rfl HK9.out (v := .tuple #[.slice lA l.length lc, .int .i64 0]) (by simp [results, Try.results11, go_sem]) ?_
          have hcD : Ch (fun k => k = D) w9 (w9.putObj D (.deferred none)) := ⟨rfl, rfl, rfl, by simp, fun k _ hk => World.putObj_heap_other hk⟩
          have hW9 := HC9.out.size
          have hW7 := H7.out.size
          have h3 := B3.out.size
          refine ⟨fun _ => ⟨_, rfl, Pl.chb HP9.out hcD (fun b off cap e h => ?_)⟩, fun h => by omega, ?_⟩
          · injection e with e1 e2 e3
            subst h
            exact (HG9.out b (by rw [e1]; rfl)).2 rfl
          · refine B3.out.trans ((H7.out.below h3 (fun k hk h => by have := HBS.out; omega)).trans ((HC9.out.below (by omega) (fun k hk h => ?_)).trans (hcD.below (by omega) (fun k hk h => by have := HDB.out; omega))))
            have := (HG9.out k h).1
            have := HBS.out
            omega
        · have h5z : (500 : Int) < (l.length : Int) := by omega
          obtain ⟨⟨S9, ⟨lv, mb, b1, b2, b3, b4, b5⟩, b6, b7⟩, b8⟩ := HA.out
          obtain ⟨e0, e1⟩ := b1.both
          obtain ⟨lA, lc, rfl⟩ := own_slD b2
          have HO9 := Lib.hid b2
          have H5 := Lib.hid b5
          have H6 := Lib.hid b6
          have H7 := Lib.hid b7
          have H8 := Lib.hid b8
          have HBB := Lib.hid b1
          clear b1 b2 b3 b4 b5 b6 b7 b8
          go_wp2
          refine retDN (D := D) rfl H8.out (v := .tuple #[.slice none 0 0, .int .i64 10]) (by simp [results, Try.results11, go_sem]) ?_
          have hcD : Ch (fun k => k = D) wr (wr.putObj D (.deferred none)) := ⟨rfl, rfl, rfl, by simp, fun k _ hk => World.putObj_heap_other hk⟩
          have hW7 := H7.out.size
          have h3 := B3.out.size
          refine ⟨fun h => by omega, fun _ => rfl, ?_⟩
          exact B3.out.trans ((H7.out.below h3 (fun k hk h => by have := HBS.out; omega)).trans (hcD.below (by omega) (fun k hk h => by have := HDB.out; omega)))
end Go.Proofs

namespace Go.Proofs.Hd
open Go.RowKit
/-- g from a below k, f elsewhere. -/
def ov (f g : Nat → Bool) (a k : Nat) : Nat → Bool := fun j => if a ≤ j ∧ j < k then g j else f j
theorem ov_start (f g : Nat → Bool) (a : Nat) : ov f g a a = f := by funext j; unfold ov; rw [if_neg (by omega)]
theorem ov_set (f g : Nat → Bool) (a k : Nat) (b : Bool) (ha : a ≤ k) (h : b = g k) : (bl (ov f g a k)).set k (.bool b) = bl (ov f g a (k + 1)) := by
  subst h
  rw [bl_set]
  apply bl_congr
  intro j _
  unfold ov
  by_cases e : j = k
  · subst e; simp [ha]
  · rw [if_neg e]
    have : (j < k + 1) ↔ (j < k) := by omega
    simp [this]
/-- The bits of a header that was stamped. -/
def sF (hh hl : BitVec 64) (n m : Nat) : Nat → Bool := fun j => if j < 88 then hbit hh hl j else Go.Proofs.stF n m j
theorem sF_all (hh hl : BitVec 64) (n m : Nat) : bl (ov (ov (ov (hbit hh hl) (fun _ => false) 88 128) (fun j => (n + 1).testBit (j - 88)) 88 112) (fun j => m.testBit (j - 112)) 112 120) = bl (sF hh hl n m) := bl_congr fun j hj => by
  unfold ov sF Go.Proofs.stF
  by_cases h1 : j < 88
  · rw [if_pos h1, if_neg (by omega), if_neg (by omega), if_neg (by omega)]
  · rw [if_neg h1]
    by_cases h2 : j < 112
    · rw [if_pos h2, if_neg (by omega), if_pos (by omega)]
    · rw [if_neg h2]
      by_cases h3 : j < 120
      · rw [if_pos h3, if_pos (by omega)]
      · rw [if_neg h3, if_neg (by omega), if_neg (by omega), if_pos (by omega)]
theorem odd_bit (N i q : Nat) (hq : q = N / 2 ^ i) : ((q : Int) % 2 == 1) = N.testBit i := by
  have e : (q : Int) % 2 = ((q % 2 : Nat) : Int) := rfl
  rw [e, Nat.testBit_eq_decide_div_mod_eq, hq]
  by_cases h : N / 2 ^ i % 2 = 1
  · simp [h]
  · have h2 : N / 2 ^ i % 2 = 0 := by omega
    simp [h2]
theorem half (N i q : Nat) (hq : q = N / 2 ^ i) : q / 2 = N / 2 ^ (i + 1) := by rw [hq, Nat.div_div_eq_div_mul, Nat.pow_succ]
/-- What Set makes of a stamp is what Stamp makes. -/
theorem set_stamp {n m : Nat} {vh vl ch cl : BitVec 64} (h : Go.Proofs.StB n m 3 vh vl ch cl) (hh hl : BitVec 64) : num (sF hh hl n m) 64 64 = ((hh &&& ~~~ch) ||| (vh &&& ch)) ∧ num (sF hh hl n m) 0 64 = ((hl &&& ~~~cl) ||| (vl &&& cl)) := by
  refine num_of_bits fun j hj => ?_
  rw [hbit_or, hbit_andNot _ _ _ _ _ hj, hbit_and, (h j hj).1, (h j hj).2]
  have e : Go.Proofs.stE 3 = 128 := rfl
  rw [e]
  unfold sF
  by_cases h1 : j < 88
  · have h2 : ¬ 88 ≤ j := by omega
    simp [h1, h2]
  · have h2 : 88 ≤ j := by omega
    simp [h1, h2, hj]
end Go.Proofs.Hd
namespace Go.Proofs
open Go.RowKit Go.Proofs.Hd Go.Lib
attribute [local go_sem] uv_nonneg
set_option maxRecDepth 100000 in
set_option maxHeartbeats 4000000 in
theorem rstamp_c (hh hl : BitVec 64) (n m : Nat) (hn : n ≤ 3) (hm : m ≤ 255) (w : World) : Calls Try.prog 35 #[.agg #[.int .u64 (uv hh), .int .u64 (uv hl)], .int .i64 (n : Int), .int .i64 (m : Int)] w fun e w' => e = .returned (.agg #[.int .u64 (uv (num (sF hh hl n m) 64 64)), .int .u64 (uv (num (sF hh hl n m) 0 64))]) ∧ Below w.heap.size w w' := by
  have hnz : (n : Int) ≤ 3 := by omega
  have hmz : (m : Int) ≤ 255 := by omega
  have B0 := Lib.hid (below2 w (.cells #[.int .u64 (uv hh), .int .u64 (uv hl)] 41) (.cells #[.int .u64 0, .int .u64 0] 41))
  have Z0 := zero2_at (w.alloc (.cells #[.int .u64 (uv hh), .int .u64 (uv hl)] 41)) (w.heap.size + 1) (by simp)
  have hz := zero25
  have hbd := build25
  go_enter Try.func35, Try.ntmps35
  go_wp2_with fail
  (with_reducible refine (bits_c hh hl _).mono ?_)
  rintro e w1 ⟨rfl, hb1⟩
  have B1 := Lib.hid (B0.out.trans (hb1.mono B0.out.size))
  have Z1 := Lib.hid (Zero2.on hb1 Z0)
  have hzl : w.heap.size + 1 < w1.heap.size := World.block_lt_of_cell? w1 ⟨w.heap.size + 1, 0, none⟩ (Z1.out 0 (by omega)).1
  clear hb1 B0 Z0
  go_wp2_with (refine put_new rfl _ _ rfl (fun _ => false) (hbit hh hl) _ rfl rfl rfl ?_)
  have bR := below1 w1 (.cells (bl (hbit hh hl)).toArray 92)
  have hR : Row (w1.alloc (.cells (bl (hbit hh hl)).toArray 92)) w1.heap.size (hbit hh hl) := ⟨range_of_alloc w1 _ _, there_of_alloc w1 _ _⟩
  have HB := Lib.hid (B1.out.trans (bR.mono B1.out.size))
  have HZ := Lib.hid (Zero2.on bR Z1.out)
  have HR : Hid (Row (w1.alloc (.cells (bl (hbit hh hl)).toArray 92)) w1.heap.size (ov (hbit hh hl) (fun _ => false) 88 88)) := by show Row _ _ _; rw [ov_start]; exact hR
  clear bR hR hz hbd
  generalize w1.alloc (.cells (bl (hbit hh hl)).toArray 92) = w2 at HB HZ HR ⊢
  go_wp2
  go_loopg [10] 40 (fun gk s10 wr => ∃ k : Nat, 88 ≤ k ∧ k ≤ 128 ∧ gk = 128 - k ∧ s10 = .int .i64 k ∧ Hid (Row wr w1.heap.size (ov (hbit hh hl) (fun _ => false) 88 k)) ∧ Hid (Zero2 wr (w.heap.size + 1)) ∧ Hid (Below w.heap.size w wr))
  case atStart => exact ⟨88, Nat.le_refl _, by omega, rfl, rfl, HR, HZ, HB⟩
  case round =>
    clear HR HZ HB
    obtain ⟨k, hk1, hk2, rfl, rfl, HR, HZ, HB⟩ := hrel
    by_cases hlt : k < 128
    · have hlt' : (k : Int) < 128 := by omega
      have c7 := HR.out.cell hlt
      have f7 := HR.out.froz hlt
      have HR2 := Lib.hid (HR.out.set hlt (ov_set (hbit hh hl) (fun _ => false) 88 k false hk1 rfl))
      have HZ2 := Lib.hid (z2far (p := ⟨w1.heap.size, k, none⟩) (v := .bool false) HZ.out (by dsimp only; omega))
      have HB2 := Lib.hid (HB.out.setCell (p := ⟨w1.heap.size, k, none⟩) (by dsimp only; omega) (.bool false))
      clear HR HZ HB
      go_wp2
      go_roundg (128 - (k + 1))
      case measure => omega
      case rel => exact ⟨k + 1, by omega, by omega, rfl, by go_num, HR2, HZ2, HB2⟩
    · obtain rfl : k = 128 := by omega
      have HR1 : Hid (Row wr w1.heap.size (ov (ov (hbit hh hl) (fun _ => false) 88 128) (fun j => (n + 1).testBit (j - 88)) 88 88)) := by show Row _ _ _; rw [ov_start]; exact HR.out
      clear HR
      go_wp2
      go_loopg [8, 11] 24 (fun gk s8 s11 wr => ∃ (k q : Nat), 88 ≤ k ∧ k ≤ 112 ∧ gk = 112 - k ∧ s8 = .int .i64 (q : Int) ∧ s11 = .int .i64 k ∧ q ≤ 4 ∧ Hid (q = (n + 1) / 2 ^ (k - 88)) ∧ Hid (Row wr w1.heap.size (ov (ov (hbit hh hl) (fun _ => false) 88 128) (fun j => (n + 1).testBit (j - 88)) 88 k)) ∧ Hid (Zero2 wr (w.heap.size + 1)) ∧ Hid (Below w.heap.size w wr))
      case atStart => exact ⟨88, n + 1, Nat.le_refl _, by omega, rfl, rfl, rfl, by omega, (by show n + 1 = (n + 1) / 2 ^ (88 - 88); simp), HR1, HZ, HB⟩
      case round =>
        clear HR1 HZ HB
        rename_i wr0
        obtain ⟨k, q, hk1, hk2, rfl, rfl, rfl, hq4, HQ, HR, HZ, HB⟩ := hrel
        by_cases hlt : k < 112
        · have hlt' : (k : Int) < 112 := by omega
          have hlt2 : (k : Int) < 128 := by omega
          have hq4z : (q : Int) ≤ 4 := by omega
          have hk128 : k < 128 := by omega
          have c7 := HR.out.cell hk128
          have f7 := HR.out.froz hk128
          obtain ⟨b, hb⟩ : ∃ b, ((q : Int) % 2 == 1) = b := ⟨_, rfl⟩
          have hbk : b = (fun j => (n + 1).testBit (j - 88)) k := by rw [← hb]; exact odd_bit (n + 1) (k - 88) q HQ.out
          have HR2 := Lib.hid (HR.out.set hk128 (ov_set (ov (hbit hh hl) (fun _ => false) 88 128) (fun j => (n + 1).testBit (j - 88)) 88 k b hk1 hbk))
          have HZ2 := Lib.hid (z2far (p := ⟨w1.heap.size, k, none⟩) (v := .bool b) HZ.out (by dsimp only; omega))
          have HB2 := Lib.hid (HB.out.setCell (p := ⟨w1.heap.size, k, none⟩) (by dsimp only; omega) (.bool b))
          obtain ⟨q2, hq2⟩ : ∃ q2 : Nat, q2 = q / 2 := ⟨_, rfl⟩
          have hd : (q : Int).tdiv 2 = (q2 : Int) := by rw [hq2]; rfl
          have HQ2 : Hid (q2 = (n + 1) / 2 ^ (k + 1 - 88)) := by show _ = _; rw [hq2, show k + 1 - 88 = k - 88 + 1 by omega]; exact half (n + 1) (k - 88) q HQ.out
          have hq24 : q2 ≤ 4 := by omega
          have hq24z : (q2 : Int) ≤ 4 := by omega
          clear HR HZ HB hbk hq2 HQ
          go_wp2
          go_roundg (112 - (k + 1))
          case measure => omega
          case rel => exact ⟨k + 1, q2, by omega, by omega, rfl, rfl, by go_num, hq24, HQ2, HR2, HZ2, HB2⟩
        · obtain rfl : k = 112 := by omega
          have HR1 : Hid (Row wr w1.heap.size (ov (ov (ov (hbit hh hl) (fun _ => false) 88 128) (fun j => (n + 1).testBit (j - 88)) 88 112) (fun j => m.testBit (j - 112)) 112 112)) := by show Row _ _ _; rw [ov_start]; exact HR.out
          clear HR HQ
          go_wp2
          go_loopg [9, 12] 8 (fun gk s9 s12 wr => ∃ (k q : Nat), 112 ≤ k ∧ k ≤ 120 ∧ gk = 120 - k ∧ s9 = .int .i64 (q : Int) ∧ s12 = .int .i64 k ∧ q ≤ 255 ∧ Hid (q = m / 2 ^ (k - 112)) ∧ Hid (Row wr w1.heap.size (ov (ov (ov (hbit hh hl) (fun _ => false) 88 128) (fun j => (n + 1).testBit (j - 88)) 88 112) (fun j => m.testBit (j - 112)) 112 k)) ∧ Hid (Zero2 wr (w.heap.size + 1)) ∧ Hid (Below w.heap.size w wr))
          case atStart => exact ⟨112, m, Nat.le_refl _, by omega, rfl, rfl, rfl, by omega, (by show m = m / 2 ^ (112 - 112); simp), HR1, HZ, HB⟩
          case round =>
            clear HR1 HZ HB
            rename_i wr1
            obtain ⟨k, q, hk1, hk2, rfl, rfl, rfl, hq4, HQ, HR, HZ, HB⟩ := hrel
            by_cases hlt : k < 120
            · have hlt' : (k : Int) < 120 := by omega
              have hlt2 : (k : Int) < 128 := by omega
              have hq4z : (q : Int) ≤ 255 := by omega
              have hk128 : k < 128 := by omega
              have c7 := HR.out.cell hk128
              have f7 := HR.out.froz hk128
              obtain ⟨b, hb⟩ : ∃ b, ((q : Int) % 2 == 1) = b := ⟨_, rfl⟩
              have hbk : b = (fun j => m.testBit (j - 112)) k := by rw [← hb]; exact odd_bit m (k - 112) q HQ.out
              have HR2 := Lib.hid (HR.out.set hk128 (ov_set (ov (ov (hbit hh hl) (fun _ => false) 88 128) (fun j => (n + 1).testBit (j - 88)) 88 112) (fun j => m.testBit (j - 112)) 112 k b hk1 hbk))
              have HZ2 := Lib.hid (z2far (p := ⟨w1.heap.size, k, none⟩) (v := .bool b) HZ.out (by dsimp only; omega))
              have HB2 := Lib.hid (HB.out.setCell (p := ⟨w1.heap.size, k, none⟩) (by dsimp only; omega) (.bool b))
              obtain ⟨q2, hq2⟩ : ∃ q2 : Nat, q2 = q / 2 := ⟨_, rfl⟩
              have hd : (q : Int).tdiv 2 = (q2 : Int) := by rw [hq2]; rfl
              have HQ2 : Hid (q2 = m / 2 ^ (k + 1 - 112)) := by show _ = _; rw [hq2, show k + 1 - 112 = k - 112 + 1 by omega]; exact half m (k - 112) q HQ.out
              have hq24 : q2 ≤ 255 := by omega
              have hq24z : (q2 : Int) ≤ 255 := by omega
              clear HR HZ HB hbk hq2 HQ
              go_wp2
              go_roundg (120 - (k + 1))
              case measure => omega
              case rel => exact ⟨k + 1, q2, by omega, by omega, rfl, rfl, by go_num, hq24, HQ2, HR2, HZ2, HB2⟩
            · obtain rfl : k = 120 := by omega
              have RX := HR.out.congr (sF_all hh hl n m)
              have hi1 : (Try.prog.info? 92).map (·.size) = some (bl (sF hh hl n m)).length := by rw [(zero_of_info info25).2, bl_len]
              clear HR HQ
              go_wp2_with (refine wpList_load_mid rfl 92 (.tmp 7) rfl w1.heap.size 0 rfl (bl (sF hh hl n m)) _ RX.1 Try.underlying92 rfl hi1 ?_)
              (with_reducible refine (refhead_c (sF hh hl n m) _).mono ?_)
              rintro e w5 ⟨rfl, hb⟩
              have BE := Lib.hid (HB.out.trans (hb.mono HB.out.size))
              have Y := (Zero2.on hb HZ.out).out
              clear hb RX HZ HB hi1
              go_wp2
              exact bodyPost_ret (v := .agg #[.int .u64 (uv (num (sF hh hl n m) 64 64)), .int .u64 (uv (num (sF hh hl n m) 0 64))]) (by simp [results, Try.results35, go_sem, Y]) rfl ⟨rfl, BE.out.trans ((sets2 _ _ _ _).mono (by omega))⟩
end Go.Proofs

namespace Go.Proofs
open Go.RowKit Go.Proofs.Hd Go.Lib
attribute [local go_sem] uv_nonneg
set_option maxRecDepth 100000 in
set_option maxHeartbeats 4000000 in
theorem wrong_r (tv pv wv bv : Value) (T : List (List Pt)) (ten : Int) (P : List (Int × Int)) (Q : List Wa) (BB : List (List (List Rl))) (ver z : Int) (w : World) (hT : PsT w tv T) (hP : Pe w pv P) (hQ : Wy w wv Q) (hB : RuQ w bv BB) (hc : wrgZ (cfgT T ten P Q BB) ver = z) :
    Calls Try.prog 8 #[.agg #[tv, .int .i64 ten, pv, wv, bv], .int .i64 ver] w fun e w' => e = .returned (.int .i64 z) ∧ Below w.heap.size w w' := by
  have HT := Lib.hid hT
  have HP := Lib.hid hP
  have HQ := Lib.hid hQ
  have HBQ := Lib.hid hB
  have HZ := Lib.hid hc
  obtain ⟨A, cap, rfl, -, -⟩ := hT
  obtain ⟨pA, pc, rfl, -, -⟩ := hP
  obtain ⟨wA, wc, rfl, -, -⟩ := hQ
  obtain ⟨bA, bc, rfl, -, -⟩ := hB
  have B0 := Lib.hid (below1 w (.cells #[.slice A T.length cap, .int .i64 ten, .slice pA P.length pc, .slice wA Q.length wc, .slice bA BB.length bc] 31))
  have N0 : Hid (Blk (w.alloc (.cells #[.slice A T.length cap, .int .i64 ten, .slice pA P.length pc, .slice wA Q.length wc, .slice bA BB.length bc] 31)) w.heap.size 31 #[.slice A T.length cap, .int .i64 ten, .slice pA P.length pc, .slice wA Q.length wc, .slice bA BB.length bc]) := Blk.new w _ _
  clear hc
  go_enter Try.func8, Try.ntmps8
  go_upto_region 1 with (fail)
  generalize (w.alloc (.cells #[.slice A T.length cap, .int .i64 ten, .slice pA P.length pc, .slice wA Q.length wc, .slice bA BB.length bc] 31)) = w1 at B0 N0 ⊢
  obtain ⟨d0, d1, d2, d3, d4⟩ := N0.out.five
  go_wp2_with fail
  (with_reducible refine (rcsound_c _ _ _ _ T ten P Q BB _ (HT.out.on B0.out) (HP.out.on B0.out) (HQ.out.on B0.out) (HBQ.out.on B0.out)).mono ?_)
  rintro e w2 ⟨rfl, hb2⟩
  obtain ⟨y, hy⟩ : ∃ y, cfgT T ten P Q BB = y := ⟨_, rfl⟩
  rw [hy]
  have B2 := Lib.hid (B0.out.trans (hb2.mono B0.out.size))
  have HR : Hid (wrgZ y ver = z) := by have h := HZ.out; rwa [hy] at h
  clear hb2 B0 N0 d0 d1 d2 d3 d4 hy HZ
  by_cases hy0 : y = 0
  · subst hy0
    by_cases hv1 : ver < 0
    · have HF : Hid (z = 4) := by
        have h := HR.out
        unfold wrgZ at h
        rw [if_pos rfl, if_neg (by omega)] at h
        exact h.symm
      go_wp2
      go_ret
      exact ⟨by rw [HF.out]; rfl, B2.out⟩
    · by_cases hv2 : 255 < ver
      · have HF : Hid (z = 4) := by
          have h := HR.out
          unfold wrgZ at h
          rw [if_pos rfl, if_neg (by omega)] at h
          exact h.symm
        go_wp2
        go_ret
        exact ⟨by rw [HF.out]; rfl, B2.out⟩
      · have HF : Hid (z = 0) := by
          have h := HR.out
          unfold wrgZ at h
          rw [if_pos rfl, if_pos (by omega)] at h
          exact h.symm
        go_wp2
        go_ret
        exact ⟨by rw [HF.out]; rfl, B2.out⟩
  · have HF : Hid (z = y) := by
      have h := HR.out
      unfold wrgZ at h
      rw [if_neg hy0] at h
      exact h.symm
    go_wp2
    go_ret
    exact ⟨by rw [HF.out]; rfl, B2.out⟩
set_option maxRecDepth 100000 in
set_option maxHeartbeats 4000000 in
theorem mask_r (n m : Nat) (hn : n ≤ 3) (hm : m ≤ 255) (c : Cb) (hc : stC n m = c) (w : World) : Calls Try.prog 28 #[.int .i64 (n : Int), .int .i64 (m : Int)] w fun e w' => e = .returned (.agg #[.int .u64 (uv c.vh), .int .u64 (uv c.vl), .int .u64 (uv c.ch), .int .u64 (uv c.cl)]) ∧ Below w.heap.size w w' := by
  have hk := stC_ok n m
  have hcr := stC_care n m
  rw [hc] at hk hcr
  have e1 := set_stamp hk 0#64 0#64
  have hs := stC_snd n m
  rw [hc] at hs
  unfold Cb.snd sndB at hs
  simp only [Bool.and_eq_true, beq_iff_eq] at hs
  rw [BitVec.zero_and, BitVec.zero_or, BitVec.zero_and, BitVec.zero_or, hs.1, hs.2] at e1
  have hz1 : uv c.ch = 18446744073692774400 := by rw [hcr.1]; rfl
  have hz2 : uv c.cl = 0 := by rw [hcr.2]; rfl
  have B0 := Lib.hid (below1 w (.cells #[.int .u64 0, .int .u64 0, .int .u64 0, .int .u64 0] 43))
  have K0 : Hid (Blk (w.alloc (.cells #[.int .u64 0, .int .u64 0, .int .u64 0, .int .u64 0] 43)) w.heap.size 43 #[.int .u64 0, .int .u64 0, .int .u64 0, .int .u64 0]) := Blk.new w _ _
  have hst := rstamp_c 0#64 0#64 n m hn hm
  rw [e1.1, e1.2] at hst
  rw [show uv 0#64 = 0 from rfl] at hst
  have HST := Lib.hid hst
  rw [hz1, hz2]
  clear hst e1 hs hk hcr hz1 hz2 hc
  go_enter Try.func28, Try.ntmps28
  go_upto_region 1 with (fail)
  generalize w.alloc (.cells #[.int .u64 0, .int .u64 0, .int .u64 0, .int .u64 0] 43) = w1 at B0 K0 ⊢
  go_wp2_with fail
  (with_reducible refine (HST.out _).mono ?_)
  rintro e w2 ⟨rfl, hb2⟩
  have K2 := K0.out.on hb2
  have B2 := Lib.hid (B0.out.trans (hb2.mono B0.out.size))
  obtain ⟨f0, f1, f2, f3⟩ := free4 K2
  obtain ⟨z0, z1, z2, z3⟩ := quad K2
  obtain ⟨q0, q1, q2, q3⟩ := quad (put4 K2 (.int .u64 (uv c.vh)) (.int .u64 (uv c.vl)) (.int .u64 18446744073692774400) (.int .u64 0))
  have B6 := Lib.hid (B2.out.trans ((sets4 w2 w.heap.size (.int .u64 (uv c.vh)) (.int .u64 (uv c.vl)) (.int .u64 18446744073692774400) (.int .u64 0)).mono (Nat.le_refl _)))
  clear hb2 B0 K0 K2 HST B2
  go_wp2
  exact bodyPost_ret (v := .agg #[.int .u64 (uv c.vh), .int .u64 (uv c.vl), .int .u64 18446744073692774400, .int .u64 0]) (by simp [results, Try.results28, go_sem, q0, q1, q2, q3]) rfl ⟨rfl, B6.out⟩
set_option maxRecDepth 100000 in
set_option maxHeartbeats 4000000 in
theorem ones_r (c : Cb) (hs : c.snd = true) (r : Nat) (hr : keyC c = r) (w : World) : Calls Try.prog 33 #[.agg #[.int .u64 (uv c.vh), .int .u64 (uv c.vl), .int .u64 (uv c.ch), .int .u64 (uv c.cl)]] w fun e w' => e = .returned (.int .i64 (r : Int)) ∧ Below w.heap.size w w' := by
  have B0 := Lib.hid (below1 w (.cells #[.int .u64 (uv c.vh), .int .u64 (uv c.vl), .int .u64 (uv c.ch), .int .u64 (uv c.cl)] 43))
  have K0 : Hid (Blk (w.alloc (.cells #[.int .u64 (uv c.vh), .int .u64 (uv c.vl), .int .u64 (uv c.ch), .int .u64 (uv c.cl)] 43)) w.heap.size 43 #[.int .u64 (uv c.vh), .int .u64 (uv c.vl), .int .u64 (uv c.ch), .int .u64 (uv c.cl)]) := Blk.new w _ _
  have HSN := Lib.hid hs
  have HR := Lib.hid hr
  clear hr
  go_enter Try.func33, Try.ntmps33
  go_upto_region 1 with (fail)
  generalize w.alloc (.cells #[.int .u64 (uv c.vh), .int .u64 (uv c.vl), .int .u64 (uv c.ch), .int .u64 (uv c.cl)] 43) = w1 at B0 K0 ⊢
  obtain ⟨q0, q1, q2, q3⟩ := quad K0.out
  go_wp2_with fail
  (with_reducible refine (text_yes c _ HSN.out).mono ?_)
  rintro e w2 ⟨rfl, hb2⟩
  have B2 := Lib.hid (B0.out.trans (hb2.mono B0.out.size))
  obtain ⟨s, hss⟩ : ∃ s, txt c = s := ⟨_, rfl⟩
  rw [hss]
  have HS := Lib.hid hss
  have l1 : s.size ≤ 128 := by rw [text_len hss]; omega
  have l2 : 128 ≤ s.size := by rw [text_len hss]; omega
  have hsz : (s.size : Int) = 128 := by omega
  clear hb2 B0 K0 q0 q1 q2 q3 hss hs
  go_wp2
  go_loopg [5, 6] 128 (fun g s5 s6 wr => ∃ k n : Nat, k ≤ 128 ∧ g = 128 - k ∧ s5 = .int .i64 n ∧ s6 = .int .i64 k ∧ n ≤ k ∧ Hid (n = topC c k) ∧ Hid (Below w.heap.size w wr))
  case atStart => exact ⟨0, 0, by omega, rfl, by go_num, by go_num, Nat.le_refl _, rfl, B2⟩
  case round =>
    clear B2
    obtain ⟨k, n, hk, rfl, rfl, rfl, hnk, HN, HB⟩ := hrel
    by_cases hlt : k < 128
    · have hlt' : (k : Int) < 128 := by omega
      have hks : k < s.size := by omega
      have hks' : (k : Int) < (s.size : Int) := by omega
      obtain ⟨m, hm⟩ : ∃ m, m + k = 127 := ⟨127 - k, by omega⟩
      have HM := Lib.hid hm
      have HT := Lib.hid (topC_step c k m hm)
      clear hm
      cases hKa : c.K m
      · have sgs := sign_x HS.out k m HM.out hks hKa
        rw [hKa] at HT
        have HT2 : Hid (n = topC c (k + 1)) := by show _ = _; rw [HT.out, ← HN.out]; rfl
        clear hKa HT HN
        go_wp2
        go_roundg (128 - (k + 1))
        case measure => omega
        case rel => exact ⟨k + 1, n, by omega, rfl, rfl, by go_num, by omega, HT2, HB⟩
      · rw [hKa] at HT
        have HT2 : Hid (n + 1 = topC c (k + 1)) := by show _ = _; rw [HT.out, ← HN.out]; rfl
        cases hVa : c.V m
        · have sgs := sign_0 HS.out k m HM.out hks hKa hVa
          clear hKa hVa HT HN
          go_wp2
          go_roundg (128 - (k + 1))
          case measure => omega
          case rel => exact ⟨k + 1, n + 1, by omega, rfl, by go_num, by go_num, by omega, HT2, HB⟩
        · have sgs := sign_1 HS.out k m HM.out hks hKa hVa
          clear hKa hVa HT HN
          go_wp2
          go_roundg (128 - (k + 1))
          case measure => omega
          case rel => exact ⟨k + 1, n + 1, by omega, rfl, by go_num, by go_num, by omega, HT2, HB⟩
    · obtain rfl : k = 128 := by omega
      have hnr : n = r := by rw [HN.out, topC_all, HR.out]
      subst hnr
      go_wp2
      go_ret
      exact ⟨rfl, HB.out⟩
end Go.Proofs

namespace Go.Proofs
open Go.RowKit Go.Proofs.Hd Go.Lib
attribute [local go_sem] uv_nonneg
end Go.Proofs

namespace Go.Proofs.Hd
open Go.RowKit
theorem flat_append (A B : List Cb) : flat (A ++ B) = flat A ++ flat B := by simp [flat]
end Go.Proofs.Hd
namespace Go.Proofs
open Go.RowKit Go.Proofs.Hd Go.Lib
attribute [local go_sem] uv_nonneg
end Go.Proofs

namespace Go.Proofs.Hd
open Go Go.RowKit Go.Proofs
theorem eq4_ne {d c : Cb} (h : eq4 (uv d.vh) (uv d.vl) (uv d.ch) (uv d.cl) (uv c.vh) (uv c.vl) (uv c.ch) (uv c.cl) = false) : d ≠ c := by
  rintro rfl
  rw [eq4_self] at h
  cases h
theorem eq4_eq {d c : Cb} (h : eq4 (uv d.vh) (uv d.vl) (uv d.ch) (uv d.cl) (uv c.vh) (uv c.vl) (uv c.ch) (uv c.cl) = true) : d = c := by
  rw [eq4_uv] at h
  simp only [Bool.and_eq_true, beq_iff_eq] at h
  cases d; cases c
  simp only at h
  rw [h.1, h.2.1, h.2.2.1, h.2.2.2]
end Go.Proofs.Hd
namespace Go.Proofs
open Go.RowKit Go.Proofs.Hd Go.Sort Go.Shelf Go.Lib
attribute [local go_sem] uv_nonneg
attribute [local go_sem high] run_eq4
set_option maxHeartbeats 8000000 in
set_option maxRecDepth 100000 in
theorem ladd_r (v : Value) (L : List Cb) (c : Cb) (w : World) (hl : L.length ≤ 1000000) (hv : Pl w v L) : Calls Try.prog 13 #[v, .agg #[.int .u64 (uv c.vh), .int .u64 (uv c.vl), .int .u64 (uv c.ch), .int .u64 (uv c.cl)]] w fun e w' => (∃ v', e = .returned v' ∧ Pl w' v' (addC L c)) ∧ Below w.heap.size w w' := by
  have HV := Lib.hid hv
  obtain ⟨A, cap, rfl, -, -⟩ := hv.form
  obtain ⟨i1, hi1, hz0, hz1, hz2⟩ := info_parts infoCube
  have hlz : (L.length : Int) ≤ 9223372036854775807 := by omega
  have B0 := Lib.hid (below1 w (.cells #[.int .u64 (uv c.vh), .int .u64 (uv c.vl), .int .u64 (uv c.ch), .int .u64 (uv c.cl)] 43))
  have K0 : Hid (Blk (w.alloc (.cells #[.int .u64 (uv c.vh), .int .u64 (uv c.vl), .int .u64 (uv c.ch), .int .u64 (uv c.cl)] 43)) w.heap.size 43 #[.int .u64 (uv c.vh), .int .u64 (uv c.vl), .int .u64 (uv c.ch), .int .u64 (uv c.cl)]) := Blk.new w _ _
  clear hv
  go_enter Try.func13, Try.ntmps13
  go_upto_region 1 with (fail)
  generalize w.alloc (.cells #[.int .u64 (uv c.vh), .int .u64 (uv c.vl), .int .u64 (uv c.ch), .int .u64 (uv c.cl)] 43) = w1 at B0 K0 ⊢
  go_wp2
  go_loopg [5] L.length (fun gk s5 wr => ∃ k : Nat, k ≤ L.length ∧ gk = L.length - k ∧ s5 = .int .i64 k ∧ Hid (∀ x, x ∈ L.take k → x ≠ c) ∧ Hid (Below w1.heap.size w1 wr))
  case atStart => exact ⟨0, Nat.zero_le _, rfl, by go_num, fun x hx => by simp at hx, Below.refl _ _⟩
  case round =>
    obtain ⟨k, hk, rfl, rfl, HN, HB⟩ := hrel
    have KR := Lib.hid (K0.out.on HB.out)
    have BW := Lib.hid (B0.out.trans (HB.out.mono B0.out.size))
    have HVR := Lib.hid (HV.out.on BW.out)
    by_cases hlt : k < L.length
    · have hltz : (k : Int) < (L.length : Int) := by omega
      obtain ⟨d, hd⟩ : ∃ d, L[k]? = some d := ⟨_, List.getElem?_eq_getElem hlt⟩
      obtain ⟨q0, q1, q2, q3⟩ := quad KR.out
      obtain ⟨A', c', e', -, hA⟩ := HVR.out.form
      injection e' with e1 _ e3
      subst e1 e3
      obtain ⟨b, o, rfl, _, hpc⟩ := hA (by rintro rfl; simp at hd)
      obtain ⟨x0, x1, x2, x3⟩ := hpc k d hd
      have HT : Hid (L.take (k + 1) = L.take k ++ [d]) := by show _ = _; rw [List.take_add_one, hd]; rfl
      have HDM : Hid (d ∈ L) := List.mem_of_getElem? hd
      clear hd hpc hA KR
      cases he : eq4 (uv d.vh) (uv d.vl) (uv d.ch) (uv d.cl) (uv c.vh) (uv c.vl) (uv c.ch) (uv c.cl)
      · have HNE := Lib.hid (eq4_ne he)
        go_wp2_with fail
        go_quiet (fail)
        have HB2 := Lib.hid (bldrewN HB.out nq)
        clear HB x0 x1 x2 x3 q0 q1 q2 q3 BW HVR he
        generalize wr.drewN nq = w3 at HB2 ⊢
        clear nq
        go_wp2
        go_roundg (L.length - (k + 1))
        case measure => omega
        case rel =>
          refine ⟨k + 1, by omega, rfl, by go_num, ?_, HB2⟩
          show ∀ x, x ∈ L.take (k + 1) → x ≠ c
          rw [HT.out]
          intro x hx
          rcases List.mem_append.1 hx with h | h
          · exact HN.out x h
          · rw [List.mem_singleton.1 h]; exact HNE.out
      · have HE : Hid (addC L c = L) := by
          show _ = _
          have := HDM.out
          rw [eq4_eq he] at this
          exact addC_in this
        go_wp2_with fail
        go_quiet (fail)
        have HB2 := Lib.hid (bldrewN HB.out nq)
        clear HB x0 x1 x2 x3 q0 q1 q2 q3 BW HVR he
        generalize wr.drewN nq = w3 at HB2 ⊢
        clear nq
        go_wp2
        go_ret
        have BW := B0.out.trans (HB2.out.mono B0.out.size)
        exact ⟨⟨_, rfl, by rw [HE.out]; exact HV.out.on BW⟩, BW⟩
    · have hltz : ¬ (k : Int) < (L.length : Int) := by omega
      obtain rfl : k = L.length := by omega
      have HE : Hid (addC L c = L ++ [c]) := by
        show _ = _
        refine addC_new fun h => ?_
        have := HN.out c (by rw [List.take_length]; exact h)
        exact this rfl
      clear HN
      go_upto_region 6 with (fail)
      have KP : ∀ W, Below wr.heap.size wr W → (Below wr.heap.size wr W ∧ W.cell? ⟨w.heap.size, 0, none⟩ = some (.int .u64 (uv c.vh)) ∧ W.cell? ⟨w.heap.size, 1, none⟩ = some (.int .u64 (uv c.vl)) ∧ W.cell? ⟨w.heap.size, 2, none⟩ = some (.int .u64 (uv c.ch)) ∧ W.cell? ⟨w.heap.size, 3, none⟩ = some (.int .u64 (uv c.cl))) := fun W hb => ⟨hb, quad (KR.out.on hb)⟩
      have HKP := Lib.hid KP
      clear KP
      refine wp_region_held_drew (S := fun w' => Below wr.heap.size wr w' ∧ w'.cell? ⟨w.heap.size, 0, none⟩ = some (.int .u64 (uv c.vh)) ∧ w'.cell? ⟨w.heap.size, 1, none⟩ = some (.int .u64 (uv c.vl)) ∧ w'.cell? ⟨w.heap.size, 2, none⟩ = some (.int .u64 (uv c.ch)) ∧ w'.cell? ⟨w.heap.size, 3, none⟩ = some (.int .u64 (uv c.cl))) (by kernel_rfl) (HKP.out _ (Below.refl _ wr).drew) (fun hHeld => ?_)
      generalize wr.drew = u0 at hHeld ⊢
      refine wpAnyH_take (i := 1) (oi := ⟨some 20, _, _, _, _, _⟩) (v := ?vp6x1) rfl (by kernel_rfl) (by kernel_rfl) (by kernel_rfl) (fun _ _ _ h => h) (Or.inl ⟨by rfl, ?yp6x1⟩) hHeld ?rp6x1
      case yp6x1 => (intro w' hSw; (try dsimp only at hSw); go_simp; try (with_reducible rfl))
      simp only [Act.put, List.setIfInBounds_toArray, List.set_cons_zero, List.set_cons_succ]
      refine wpAnyH_take (i := 3) (oi := ⟨some 22, _, _, _, _, _⟩) (v := ?vp6x2) rfl (by kernel_rfl) (by kernel_rfl) (by kernel_rfl) (fun _ _ _ h => h) (Or.inl ⟨by rfl, ?yp6x2⟩) hHeld ?rp6x2
      case yp6x2 => (intro w' hSw; (try dsimp only at hSw); go_simp; try (with_reducible rfl))
      simp only [Act.put, List.setIfInBounds_toArray, List.set_cons_zero, List.set_cons_succ]
      refine wpAnyH_ready (rs := [0, 4]) (by kernel_rfl) (by simp) ?_
      refine AllReadyH.cons (o := ⟨some 19, _, _, _, _, _⟩) rfl (fun K hK => ?_) ?_
      · go_simp
        have hb := below1 u0 (.cells #[] 43)
        refine hK.out _ _ (HKP.out _ (hHeld.1.trans (hb.mono hHeld.1.size))) (fun hNext => ?_)
        have O0 : (u0.alloc (.cells #[] 43)).ownsRow wr.heap.size 43 4 (.slice (some ⟨u0.heap.size, 0, none⟩) 0 0) ([] : List Cb).length (flat []) := World.ownsRow_made u0 #[] 0 hHeld.1.size (Nat.zero_le _) rfl
        have G0 : u0.heap.size < (u0.alloc (.cells #[] 43)).heap.size := by simp
        clear hK K hHeld
        have hHeld := hNext
        clear hNext
        clear hb
        generalize hgen : (u0.alloc (.cells #[] 43)) = u1 at hHeld O0 G0 ⊢
        clear hgen
        generalize hgen : u0.heap.size = g0 at O0 G0 ⊢
        clear hgen
        try simp only [Act.put, List.setIfInBounds_toArray, List.set_cons_zero, List.set_cons_succ]
        refine wpAnyH_ready (rs := [2, 4]) (by kernel_rfl) (by simp) ?_
        refine AllReadyH.cons (o := ⟨some 21, _, _, _, _, _⟩) rfl (fun K hK => ?_) ?_
        · have SR := (HVR.out.on hHeld.1).src
          refine step_app _ rfl (.tmp 19) (.tmp 20) 32 rfl wr.heap.size 43 i1 _ 4 32 Try.underlying32 hi1 hz0 hz1 hz2 rfl (by decide) (.slice (some ⟨g0, 0, none⟩) 0 0) 0 (flat []) rfl O0 _ L.length (flat L) rfl SR (by unfold maxLen; omega) (by omega) hHeld.1.size ?_
          intro v2 u2 O2 hg2
          have B2 := hHeld.1.grown hg2 hHeld.1.size (fun j hj => (O0.lt j hj).1)
          refine hK.out _ _ (HKP.out _ B2) (fun hNext => ?_)
          clear hK K hHeld
          have hHeld := hNext
          clear hNext
          clear O0 G0 hg2 B2 SR
          rw [Nat.zero_add] at O2
          rw [show flat ([] : List Cb) = [] from rfl, List.nil_append] at O2
          try simp only [Act.put, List.setIfInBounds_toArray, List.set_cons_zero, List.set_cons_succ]
          refine wpAnyH_ready (rs := [4]) (by kernel_rfl) (by simp) ?_
          refine AllReadyH.cons (o := ⟨some 23, _, _, _, _, _⟩) rfl (fun K hK => ?_) AllReadyH.nil
          go_simp
          have hb := below1 u2 (.cells #[.int .u64 (uv c.vh), .int .u64 (uv c.vl), .int .u64 (uv c.ch), .int .u64 (uv c.cl)] 43)
          refine hK.out _ _ (HKP.out _ (hHeld.1.trans (hb.mono hHeld.1.size))) (fun hNext => ?_)
          have N4 : Blk (u2.alloc (.cells #[.int .u64 (uv c.vh), .int .u64 (uv c.vl), .int .u64 (uv c.ch), .int .u64 (uv c.cl)] 43)) u2.heap.size 43 #[.int .u64 (uv c.vh), .int .u64 (uv c.vl), .int .u64 (uv c.ch), .int .u64 (uv c.cl)] := Blk.new u2 _ _
          replace O2 := own_on O2 hb
          clear hK K hHeld
          have hHeld := hNext
          clear hNext
          clear hb
          generalize hgen : (u2.alloc (.cells #[.int .u64 (uv c.vh), .int .u64 (uv c.vl), .int .u64 (uv c.ch), .int .u64 (uv c.cl)] 43)) = u3 at hHeld N4 O2 ⊢
          clear hgen
          generalize hgen : u2.heap.size = g4 at N4 ⊢
          clear hgen
          try simp only [Act.put, List.setIfInBounds_toArray, List.set_cons_zero, List.set_cons_succ]
          refine wpAnyH_ready (rs := [5]) (by kernel_rfl) (by simp) ?_
          refine AllReadyH.cons (o := ⟨some 24, _, _, _, _, _⟩) rfl (fun K hK => ?_) AllReadyH.nil
          refine step_app _ rfl (.tmp 21) (.tmp 23) 32 rfl wr.heap.size 43 i1 _ 4 32 Try.underlying32 hi1 hz0 hz1 hz2 rfl (by decide) _ L.length (flat L) rfl O2 (.slice (some ⟨g4, 0, none⟩) 1 1) 1 (flat [c]) rfl (src_cbD N4) (by unfold maxLen; omega) (by omega) hHeld.1.size ?_
          intro v5 u4 O5 hg5
          have B5 := hHeld.1.grown hg5 hHeld.1.size (fun j hj => (O2.lt j hj).1)
          have R5 : Pl u4 v5 (L ++ [c]) := own_Pl (base := wr.heap.size) (by rw [List.length_append, flat_append]; exact O5)
          refine hK.out _ _ (HKP.out _ B5) (fun hNext => ?_)
          clear hK K hHeld
          have hHeld := hNext
          clear hNext
          clear O2 O5 hg5 B5 N4
          try simp only [Act.put, List.setIfInBounds_toArray, List.set_cons_zero, List.set_cons_succ]
          refine wpAnyH_take (i := 6) (oi := ⟨some 4, _, _, _, _, _⟩) (v := ?vp6x3) rfl (by kernel_rfl) (by kernel_rfl) (by kernel_rfl) (fun _ _ _ h => h) (Or.inl ⟨by rfl, ?yp6x3⟩) hHeld ?rp6x3
          case yp6x3 => (intro w' hSw; (try dsimp only at hSw); go_simp; try (with_reducible rfl))
          simp only [Act.put, List.setIfInBounds_toArray, List.set_cons_zero, List.set_cons_succ]
          refine wpAnyH_done (by kernel_rfl) ?_ _
          go_wp2_with fail
          go_ret
          exact ⟨⟨_, rfl, by rw [HE.out]; exact R5⟩, BW.out.trans (hHeld.1.mono BW.out.size)⟩
        refine AllReadyH.cons (o := ⟨some 23, _, _, _, _, _⟩) rfl (fun K hK => ?_) AllReadyH.nil
        go_simp
        have hb := below1 u1 (.cells #[.int .u64 (uv c.vh), .int .u64 (uv c.vl), .int .u64 (uv c.ch), .int .u64 (uv c.cl)] 43)
        refine hK.out _ _ (HKP.out _ (hHeld.1.trans (hb.mono hHeld.1.size))) (fun hNext => ?_)
        have N4 : Blk (u1.alloc (.cells #[.int .u64 (uv c.vh), .int .u64 (uv c.vl), .int .u64 (uv c.ch), .int .u64 (uv c.cl)] 43)) u1.heap.size 43 #[.int .u64 (uv c.vh), .int .u64 (uv c.vl), .int .u64 (uv c.ch), .int .u64 (uv c.cl)] := Blk.new u1 _ _
        have hne : u1.heap.size ≠ g0 := Nat.ne_of_gt G0
        replace G0 := Nat.lt_of_lt_of_le G0 hb.size
        replace O0 := own_on O0 hb
        clear hK K hHeld
        have hHeld := hNext
        clear hNext
        clear hb
        generalize hgen : (u1.alloc (.cells #[.int .u64 (uv c.vh), .int .u64 (uv c.vl), .int .u64 (uv c.ch), .int .u64 (uv c.cl)] 43)) = u5 at hHeld N4 O0 G0 ⊢
        clear hgen
        generalize hgen : u1.heap.size = g4 at N4 hne ⊢
        clear hgen
        try simp only [Act.put, List.setIfInBounds_toArray, List.set_cons_zero, List.set_cons_succ]
        refine wpAnyH_ready (rs := [2]) (by kernel_rfl) (by simp) ?_
        refine AllReadyH.cons (o := ⟨some 21, _, _, _, _, _⟩) rfl (fun K hK => ?_) AllReadyH.nil
        have SR := (HVR.out.on hHeld.1).src
        refine step_app _ rfl (.tmp 19) (.tmp 20) 32 rfl wr.heap.size 43 i1 _ 4 32 Try.underlying32 hi1 hz0 hz1 hz2 rfl (by decide) (.slice (some ⟨g0, 0, none⟩) 0 0) 0 (flat []) rfl O0 _ L.length (flat L) rfl SR (by unfold maxLen; omega) (by omega) hHeld.1.size ?_
        intro v2 u6 O2 hg2
        have B2 := hHeld.1.grown hg2 hHeld.1.size (fun j hj => (O0.lt j hj).1)
        replace N4 := N4.grown hg2 (by intro e; simp [Value.ownBlock] at e; exact hne e)
        refine hK.out _ _ (HKP.out _ B2) (fun hNext => ?_)
        clear hK K hHeld
        have hHeld := hNext
        clear hNext
        clear O0 G0 hg2 B2 SR hne
        rw [Nat.zero_add] at O2
        rw [show flat ([] : List Cb) = [] from rfl, List.nil_append] at O2
        try simp only [Act.put, List.setIfInBounds_toArray, List.set_cons_zero, List.set_cons_succ]
        refine wpAnyH_ready (rs := [5]) (by kernel_rfl) (by simp) ?_
        refine AllReadyH.cons (o := ⟨some 24, _, _, _, _, _⟩) rfl (fun K hK => ?_) AllReadyH.nil
        refine step_app _ rfl (.tmp 21) (.tmp 23) 32 rfl wr.heap.size 43 i1 _ 4 32 Try.underlying32 hi1 hz0 hz1 hz2 rfl (by decide) _ L.length (flat L) rfl O2 (.slice (some ⟨g4, 0, none⟩) 1 1) 1 (flat [c]) rfl (src_cbD N4) (by unfold maxLen; omega) (by omega) hHeld.1.size ?_
        intro v5 u7 O5 hg5
        have B5 := hHeld.1.grown hg5 hHeld.1.size (fun j hj => (O2.lt j hj).1)
        have R5 : Pl u7 v5 (L ++ [c]) := own_Pl (base := wr.heap.size) (by rw [List.length_append, flat_append]; exact O5)
        refine hK.out _ _ (HKP.out _ B5) (fun hNext => ?_)
        clear hK K hHeld
        have hHeld := hNext
        clear hNext
        clear O2 O5 hg5 B5 N4
        try simp only [Act.put, List.setIfInBounds_toArray, List.set_cons_zero, List.set_cons_succ]
        refine wpAnyH_take (i := 6) (oi := ⟨some 4, _, _, _, _, _⟩) (v := ?vp6x4) rfl (by kernel_rfl) (by kernel_rfl) (by kernel_rfl) (fun _ _ _ h => h) (Or.inl ⟨by rfl, ?yp6x4⟩) hHeld ?rp6x4
        case yp6x4 => (intro w' hSw; (try dsimp only at hSw); go_simp; try (with_reducible rfl))
        simp only [Act.put, List.setIfInBounds_toArray, List.set_cons_zero, List.set_cons_succ]
        refine wpAnyH_done (by kernel_rfl) ?_ _
        go_wp2_with fail
        go_ret
        exact ⟨⟨_, rfl, by rw [HE.out]; exact R5⟩, BW.out.trans (hHeld.1.mono BW.out.size)⟩
      refine AllReadyH.cons (o := ⟨some 23, _, _, _, _, _⟩) rfl (fun K hK => ?_) AllReadyH.nil
      go_simp
      have hb := below1 u0 (.cells #[.int .u64 (uv c.vh), .int .u64 (uv c.vl), .int .u64 (uv c.ch), .int .u64 (uv c.cl)] 43)
      refine hK.out _ _ (HKP.out _ (hHeld.1.trans (hb.mono hHeld.1.size))) (fun hNext => ?_)
      have N4 : Blk (u0.alloc (.cells #[.int .u64 (uv c.vh), .int .u64 (uv c.vl), .int .u64 (uv c.ch), .int .u64 (uv c.cl)] 43)) u0.heap.size 43 #[.int .u64 (uv c.vh), .int .u64 (uv c.vl), .int .u64 (uv c.ch), .int .u64 (uv c.cl)] := Blk.new u0 _ _
      clear hK K hHeld
      have hHeld := hNext
      clear hNext
      clear hb
      generalize hgen : (u0.alloc (.cells #[.int .u64 (uv c.vh), .int .u64 (uv c.vl), .int .u64 (uv c.ch), .int .u64 (uv c.cl)] 43)) = u8 at hHeld N4 ⊢
      clear hgen
      generalize hgen : u0.heap.size = g4 at N4 ⊢
      clear hgen
      try simp only [Act.put, List.setIfInBounds_toArray, List.set_cons_zero, List.set_cons_succ]
      refine wpAnyH_ready (rs := [0]) (by kernel_rfl) (by simp) ?_
      refine AllReadyH.cons (o := ⟨some 19, _, _, _, _, _⟩) rfl (fun K hK => ?_) AllReadyH.nil
      go_simp
      have hb := below1 u8 (.cells #[] 43)
      refine hK.out _ _ (HKP.out _ (hHeld.1.trans (hb.mono hHeld.1.size))) (fun hNext => ?_)
      have O0 : (u8.alloc (.cells #[] 43)).ownsRow wr.heap.size 43 4 (.slice (some ⟨u8.heap.size, 0, none⟩) 0 0) ([] : List Cb).length (flat []) := World.ownsRow_made u8 #[] 0 hHeld.1.size (Nat.zero_le _) rfl
      have G0 : u8.heap.size < (u8.alloc (.cells #[] 43)).heap.size := by simp
      have hne : g4 ≠ u8.heap.size := Nat.ne_of_lt N4.lt
      replace N4 := N4.on hb
      clear hK K hHeld
      have hHeld := hNext
      clear hNext
      clear hb
      generalize hgen : (u8.alloc (.cells #[] 43)) = u9 at hHeld O0 G0 N4 ⊢
      clear hgen
      generalize hgen : u8.heap.size = g0 at O0 G0 hne ⊢
      clear hgen
      try simp only [Act.put, List.setIfInBounds_toArray, List.set_cons_zero, List.set_cons_succ]
      refine wpAnyH_ready (rs := [2]) (by kernel_rfl) (by simp) ?_
      refine AllReadyH.cons (o := ⟨some 21, _, _, _, _, _⟩) rfl (fun K hK => ?_) AllReadyH.nil
      have SR := (HVR.out.on hHeld.1).src
      refine step_app _ rfl (.tmp 19) (.tmp 20) 32 rfl wr.heap.size 43 i1 _ 4 32 Try.underlying32 hi1 hz0 hz1 hz2 rfl (by decide) (.slice (some ⟨g0, 0, none⟩) 0 0) 0 (flat []) rfl O0 _ L.length (flat L) rfl SR (by unfold maxLen; omega) (by omega) hHeld.1.size ?_
      intro v2 u10 O2 hg2
      have B2 := hHeld.1.grown hg2 hHeld.1.size (fun j hj => (O0.lt j hj).1)
      replace N4 := N4.grown hg2 (by intro e; simp [Value.ownBlock] at e; exact hne e)
      refine hK.out _ _ (HKP.out _ B2) (fun hNext => ?_)
      clear hK K hHeld
      have hHeld := hNext
      clear hNext
      clear O0 G0 hg2 B2 SR hne
      rw [Nat.zero_add] at O2
      rw [show flat ([] : List Cb) = [] from rfl, List.nil_append] at O2
      try simp only [Act.put, List.setIfInBounds_toArray, List.set_cons_zero, List.set_cons_succ]
      refine wpAnyH_ready (rs := [5]) (by kernel_rfl) (by simp) ?_
      refine AllReadyH.cons (o := ⟨some 24, _, _, _, _, _⟩) rfl (fun K hK => ?_) AllReadyH.nil
      refine step_app _ rfl (.tmp 21) (.tmp 23) 32 rfl wr.heap.size 43 i1 _ 4 32 Try.underlying32 hi1 hz0 hz1 hz2 rfl (by decide) _ L.length (flat L) rfl O2 (.slice (some ⟨g4, 0, none⟩) 1 1) 1 (flat [c]) rfl (src_cbD N4) (by unfold maxLen; omega) (by omega) hHeld.1.size ?_
      intro v5 u11 O5 hg5
      have B5 := hHeld.1.grown hg5 hHeld.1.size (fun j hj => (O2.lt j hj).1)
      have R5 : Pl u11 v5 (L ++ [c]) := own_Pl (base := wr.heap.size) (by rw [List.length_append, flat_append]; exact O5)
      refine hK.out _ _ (HKP.out _ B5) (fun hNext => ?_)
      clear hK K hHeld
      have hHeld := hNext
      clear hNext
      clear O2 O5 hg5 B5 N4
      try simp only [Act.put, List.setIfInBounds_toArray, List.set_cons_zero, List.set_cons_succ]
      refine wpAnyH_take (i := 6) (oi := ⟨some 4, _, _, _, _, _⟩) (v := ?vp6x5) rfl (by kernel_rfl) (by kernel_rfl) (by kernel_rfl) (fun _ _ _ h => h) (Or.inl ⟨by rfl, ?yp6x5⟩) hHeld ?rp6x5
      case yp6x5 => (intro w' hSw; (try dsimp only at hSw); go_simp; try (with_reducible rfl))
      simp only [Act.put, List.setIfInBounds_toArray, List.set_cons_zero, List.set_cons_succ]
      refine wpAnyH_done (by kernel_rfl) ?_ _
      go_wp2_with fail
      go_ret
      exact ⟨⟨_, rfl, by rw [HE.out]; exact R5⟩, BW.out.trans (hHeld.1.mono BW.out.size)⟩
end Go.Proofs
