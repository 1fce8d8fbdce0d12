/-
  customhouselaw03.PileHas returns true for every input, and each argument reads behind the call as before. No conditions.
  The walk of customhouselaw03.PileHas: it returns true. Conditions as each theorem lists them.
-/
import Derived.Test.YtipkefljicoldaaJ8
import Derived.Deep.RegionHeld3
import Derived.Test.YtipkefljicoldaaRows
import Derived.Below
import Derived.SizedLaws
namespace Go.Proofs.Hd
open Go.RowKit
/-- v counts down from k: k - 1. -/
def Idx (k : Nat) (v : Value) : Prop := (k = 0 ∧ v = .int .i64 (-1)) ∨ ∃ j : Nat, k = j + 1 ∧ v = .int .i64 (j : Int)
theorem idx_pred (j : Nat) : Idx j (.int .i64 ((j : Int) - 1)) := by
  cases j with
  | zero => exact .inl ⟨rfl, rfl⟩
  | succ j => exact .inr ⟨j, rfl, by congr 1; omega⟩
theorem idx_top (n : Nat) : Idx n (.int .i64 ((n : Int) - 1)) := idx_pred n
/-- The first sound cube of a list, if there is one, and its value. -/
def Fst (L : List Cb) (f : Bool) (x y : BitVec 64) : Prop :=
  (f = true ∧ ∃ (k : Nat) (c : Cb), L[k]? = some c ∧ c.snd = true ∧ (∀ (j : Nat) (d : Cb), j < k → L[j]? = some d → d.snd = false) ∧ x = c.vh ∧ y = c.vl) ∨
  (f = false ∧ (∀ (k : Nat) (c : Cb), L[k]? = some c → c.snd = false) ∧ x = 0#64 ∧ y = 0#64)
theorem Fst.start (L : List Cb) : Fst (L.drop L.length) false 0#64 0#64 := .inr ⟨rfl, fun k c h => by simp at h, rfl, rfl⟩
theorem drop_at {L : List Cb} {j : Nat} {c : Cb} (h : L[j]? = some c) : L.drop j = c :: L.drop (j + 1) := by
  obtain ⟨hj, rfl⟩ := List.getElem?_eq_some_iff.1 h
  exact List.drop_eq_getElem_cons hj
theorem Fst.skip {L : List Cb} {j : Nat} {c : Cb} {f : Bool} {x y : BitVec 64} (h : Fst (L.drop (j + 1)) f x y) (hc : L[j]? = some c) (hs : c.snd = false) : Fst (L.drop j) f x y := by
  rw [drop_at hc]
  rcases h with ⟨rfl, k, d, hd, hds, hb, rfl, rfl⟩ | ⟨rfl, hn, rfl, rfl⟩
  · refine .inl ⟨rfl, k + 1, d, by rw [List.getElem?_cons_succ]; exact hd, hds, fun i e hi he => ?_, rfl, rfl⟩
    cases i with
    | zero => simp at he; subst he; exact hs
    | succ i => rw [List.getElem?_cons_succ] at he; exact hb i e (by omega) he
  · refine .inr ⟨rfl, fun i e he => ?_, rfl, rfl⟩
    cases i with
    | zero => simp at he; subst he; exact hs
    | succ i => rw [List.getElem?_cons_succ] at he; exact hn i e he
theorem Fst.take {L : List Cb} {j : Nat} {c : Cb} {f : Bool} {x y : BitVec 64} (_h : Fst (L.drop (j + 1)) f x y) (hc : L[j]? = some c) (hs : c.snd = true) : Fst (L.drop j) true c.vh c.vl := by
  rw [drop_at hc]
  exact .inl ⟨rfl, 0, c, rfl, hs, fun i e hi => absurd hi (Nat.not_lt_zero _), rfl, rfl⟩
end Go.Proofs.Hd
namespace Go.Proofs
open Go.RowKit Go.Proofs.Hd Go.Lib
attribute [local go_sem] uv_nonneg
attribute [local go_sem high] run_eq2
attribute [local go_sem] eq2_self
set_option maxHeartbeats 4000000 in
set_option maxRecDepth 100000 in
theorem phas_yes (A1 : Option Addr) (c1 : Nat) (L : List Cb) (hh hl : BitVec 64) (w : World) (hl2 : L.length ≤ 4398046511104) (pa : Pl w (.slice A1 L.length c1) L) (ha : L.all Cb.snd = true) (x y : Bool) (hx : sndL L = x) (hy : anyHas L hh hl = y) :
    Calls Try.prog 3 #[.slice A1 L.length c1, .agg #[.int .u64 (uv hh), .int .u64 (uv hl)]] w fun e w' => e = .returned (.bool true) ∧ Below w.heap.size w w' := by
  have hlz : (L.length : Int) ≤ 4398046511104 := by omega
  obtain ⟨A1', c1', e0, _, hA'⟩ := pa.form
  obtain ⟨rfl, rfl⟩ : A1 = A1' ∧ c1 = c1' := by injection e0 with e1 _ e3; exact ⟨e1, e3⟩
  have HA := Lib.hid hA'
  have HX := Lib.hid hx
  have HY := Lib.hid hy
  have b0 := below1 w (.cells #[.int .u64 (uv hh), .int .u64 (uv hl)] 25)
  have N0 : Blk (w.alloc (.cells #[.int .u64 (uv hh), .int .u64 (uv hl)] 25)) w.heap.size 25 #[.int .u64 (uv hh), .int .u64 (uv hl)] := Blk.new w _ _
  have HPA := Lib.hid pa
  have hfl : decide (L.length ≤ 200) = x := by rw [← hx]; unfold sndL; rw [ha, Bool.and_true]
  have t1 := (texts_c _ L _ hl2 (pa.on b0)).mono fun e w' h => h.1 ha
  rw [hfl] at t1
  clear e0 hA' hx hy pa ha hfl
  go_enter Try.func3, Try.ntmps3
  go_wp2_with fail
  refine t1.mono ?_
  rintro e w1 ⟨vt, rfl, Ot, hb⟩
  have B1 := b0.trans (hb.mono b0.size)
  replace N0 := N0.on hb
  clear t1 b0 hb Ot
  have b2 := below1 w1 (.cells #[.int .u64 (uv 0#64), .int .u64 (uv 0#64)] 25)
  have G2 : Blk (w1.alloc (.cells #[.int .u64 (uv 0#64), .int .u64 (uv 0#64)] 25)) w1.heap.size 25 #[.int .u64 (uv 0#64), .int .u64 (uv 0#64)] := Blk.new w1 _ _
  have hlt1 : w.heap.size < w1.heap.size := N0.lt
  replace N0 := N0.on b2
  have HB2 := Lib.hid (B1.trans (b2.mono B1.size))
  have HN := Lib.hid N0
  have HG := Lib.hid G2
  clear b2 B1 N0 G2
  go_wp2
  go_loopg [8, 9] L.length (fun gk s8 s9 wr => ∃ k : Nat, k ≤ L.length ∧ gk = k ∧ Idx k s9 ∧ ∃ (f : Bool) (ph pl : BitVec 64), s8 = .bool f ∧ Hid (Fst (L.drop k) f ph pl) ∧ Below w.heap.size w wr ∧ Blk wr w.heap.size 25 #[.int .u64 (uv hh), .int .u64 (uv hl)] ∧ Blk wr w1.heap.size 25 #[.int .u64 (uv ph), .int .u64 (uv pl)])
  case atStart => exact ⟨L.length, Nat.le_refl _, rfl, idx_top _, false, 0#64, 0#64, rfl, Fst.start L, HB2.out, HN.out, HG.out⟩
  case round =>
    clear HB2 HN HG
    obtain ⟨k, hk, rfl, hi, f, ph, pl, rfl, HF, W, N, G⟩ := hrel
    rcases hi with ⟨rfl, rfl⟩ | ⟨j, rfl, rfl⟩
    · rw [List.drop_zero] at HF
      rcases HF.out with ⟨rfl, k, c, hck, hcs, hcb, rfl, rfl⟩ | ⟨rfl, hno, rfl, rfl⟩
      · have hcon := fun W h => ppick_yes (.slice A1 L.length c1) L W k c (by omega) hck hcs hcb h
        have Hcon := Lib.hid hcon
        clear hcon hck hcs hcb HF
        have hcon := Hcon.out wr (HPA.out.on W)
        go_wp2_with fail
        refine hcon.mono ?_
        rintro e w2 ⟨rfl, hb⟩
        have hb3 := hb.trans ((below1 w2 (.cells #[.int .u64 (uv c.vh), .int .u64 (uv c.vl)] 25)).mono hb.size)
        have Q3 : Blk (w2.alloc (.cells #[.int .u64 (uv c.vh), .int .u64 (uv c.vl)] 25)) w2.heap.size 25 #[.int .u64 (uv c.vh), .int .u64 (uv c.vl)] := Blk.new w2 _ _
        have N3 := N.on hb3
        have G3 := G.on hb3
        have W3 := W.trans (hb3.mono W.size)
        clear hcon Hcon hb hb3 W N G
        go_upto_region 10 with (fail)
        generalize (w2.alloc (.cells #[.int .u64 (uv c.vh), .int .u64 (uv c.vl)] 25)) = w3 at Q3 N3 G3 W3 ⊢
        have n0 := N3.cell 0
        have n1 := N3.cell 1
        have g0 := G3.cell 0
        have g1 := G3.cell 1
        have q0 := Q3.cell 0
        have q1 := Q3.cell 1
        have hPA := HPA.out.on W3
        have HP3 := Lib.hid hPA
        clear Q3 N3 G3 hPA
        cases x <;> cases y
        all_goals
          go_wp2_with fail
          go_region_held3 (fun w' => Below w3.heap.size w3 w' ∧ w'.cell? ⟨w.heap.size, 0, none⟩ = some (.int .u64 (uv hh)) ∧ w'.cell? ⟨w.heap.size, 1, none⟩ = some (.int .u64 (uv hl)) ∧ w'.cell? ⟨w1.heap.size, 0, none⟩ = some (.int .u64 (uv c.vh)) ∧ w'.cell? ⟨w1.heap.size, 1, none⟩ = some (.int .u64 (uv c.vl)) ∧ w'.cell? ⟨w2.heap.size, 0, none⟩ = some (.int .u64 (uv c.vh)) ∧ w'.cell? ⟨w2.heap.size, 1, none⟩ = some (.int .u64 (uv c.vl)))
            (first
              | exact hold6 (by assumption) (by assumption)
              | exact ⟨(Below.refl _ _).drew, n0, n1, g0, g1, q0, q1⟩)
            (first
              | (go_at_call 11; (with_reducible refine (awake3_c _).mono ?_); rintro e w' ⟨rfl, hb⟩)
              | (go_at_call 12; (with_reducible refine (psound_c _ _ L _ HX.out (HP3.out.on (And.left (by assumption)))).mono ?_); rintro e w' ⟨rfl, hb⟩)
              | (go_at_call 13; (with_reducible refine (phas_c _ _ L hh hl _ HY.out (HP3.out.on (And.left (by assumption)))).mono ?_); rintro e w' ⟨rfl, hb⟩)
              | (go_at_call 14; (with_reducible refine (rhas3_c _ _ L hh hl _ (by omega) HY.out (HP3.out.on (And.left (by assumption)))).mono ?_); rintro e w' ⟨rfl, hb⟩))
          rename_i hS
          have W4 := W3.trans (hS.1.mono W3.size)
          clear hS hb W3
          go_wp2
          go_ret
          exact ⟨rfl, W4⟩
      · have hcon := fun W h => ppick_no (.slice A1 L.length c1) L W hno h
        have Hcon := Lib.hid hcon
        clear hcon hno HF
        have hcon := Hcon.out wr (HPA.out.on W)
        change Calls Try.prog 10 _ wr fun e w' => e = .returned (.tuple #[.agg #[.int .u64 (uv 0#64), .int .u64 (uv 0#64)], .bool false]) ∧ Below wr.heap.size wr w' at hcon
        go_wp2_with fail
        refine hcon.mono ?_
        rintro e w2 ⟨rfl, hb⟩
        have hb3 := hb.trans ((below1 w2 (.cells #[.int .u64 (uv 0#64), .int .u64 (uv 0#64)] 25)).mono hb.size)
        have Q3 : Blk (w2.alloc (.cells #[.int .u64 (uv 0#64), .int .u64 (uv 0#64)] 25)) w2.heap.size 25 #[.int .u64 (uv 0#64), .int .u64 (uv 0#64)] := Blk.new w2 _ _
        have N3 := N.on hb3
        have G3 := G.on hb3
        have W3 := W.trans (hb3.mono W.size)
        clear hcon Hcon hb hb3 W N G
        go_upto_region 10 with (fail)
        generalize (w2.alloc (.cells #[.int .u64 (uv 0#64), .int .u64 (uv 0#64)] 25)) = w3 at Q3 N3 G3 W3 ⊢
        have n0 := N3.cell 0
        have n1 := N3.cell 1
        have g0 := G3.cell 0
        have g1 := G3.cell 1
        have q0 := Q3.cell 0
        have q1 := Q3.cell 1
        have hPA := HPA.out.on W3
        have HP3 := Lib.hid hPA
        clear Q3 N3 G3 hPA
        cases x <;> cases y
        all_goals
          go_wp2_with fail
          go_region_held3 (fun w' => Below w3.heap.size w3 w' ∧ w'.cell? ⟨w.heap.size, 0, none⟩ = some (.int .u64 (uv hh)) ∧ w'.cell? ⟨w.heap.size, 1, none⟩ = some (.int .u64 (uv hl)) ∧ w'.cell? ⟨w1.heap.size, 0, none⟩ = some (.int .u64 (uv 0#64)) ∧ w'.cell? ⟨w1.heap.size, 1, none⟩ = some (.int .u64 (uv 0#64)) ∧ w'.cell? ⟨w2.heap.size, 0, none⟩ = some (.int .u64 (uv 0#64)) ∧ w'.cell? ⟨w2.heap.size, 1, none⟩ = some (.int .u64 (uv 0#64)))
            (first
              | exact hold6 (by assumption) (by assumption)
              | exact ⟨(Below.refl _ _).drew, n0, n1, g0, g1, q0, q1⟩)
            (first
              | (go_at_call 11; (with_reducible refine (awake3_c _).mono ?_); rintro e w' ⟨rfl, hb⟩)
              | (go_at_call 12; (with_reducible refine (psound_c _ _ L _ HX.out (HP3.out.on (And.left (by assumption)))).mono ?_); rintro e w' ⟨rfl, hb⟩)
              | (go_at_call 13; (with_reducible refine (phas_c _ _ L hh hl _ HY.out (HP3.out.on (And.left (by assumption)))).mono ?_); rintro e w' ⟨rfl, hb⟩)
              | (go_at_call 14; (with_reducible refine (rhas3_c _ _ L hh hl _ (by omega) HY.out (HP3.out.on (And.left (by assumption)))).mono ?_); rintro e w' ⟨rfl, hb⟩))
          rename_i hS
          have W4 := W3.trans (hS.1.mono W3.size)
          clear hS hb W3
          go_wp2
          go_ret
          exact ⟨rfl, W4⟩
    · have hjz : (j : Int) < (L.length : Int) := by omega
      obtain ⟨c, hc⟩ : ∃ c, L[j]? = some c := ⟨_, List.getElem?_eq_getElem (by omega)⟩
      obtain ⟨b, off, rfl, hb, hpc⟩ := HA.out (ne_nil_of hc)
      have hpw := hpc j c hc
      obtain ⟨d0, d1, d2, d3⟩ := hpw.on W
      have HC := Lib.hid hc
      clear hc hpc
      cases hs : c.snd with
      | false =>
        have HN2 := Lib.hid (HF.out.skip HC.out hs)
        go_wp2_with fail
        (with_reducible refine (text_no c _ hs).mono ?_)
        rintro e w2 ⟨rfl, hb2⟩
        have W2 := W.trans (hb2.mono W.size)
        have N2 := N.on hb2
        have G2 := G.on hb2
        clear W N G hb2 d0 d1 d2 d3 HC HF
        go_wp2
        go_roundg j
        case measure => omega
        case rel => exact ⟨j, by omega, rfl, idx_pred j, _, _, _, rfl, HN2, W2, N2, G2⟩
      | true =>
        obtain ⟨s, HT⟩ : ∃ s, Hid (txt c = s) := ⟨_, rfl⟩
        have HN2 := Lib.hid (HF.out.take HC.out hs)
        go_wp2_with fail
        (with_reducible refine (text_s s c _ hs HT.out).mono ?_)
        rintro e w2 ⟨rfl, hb2⟩
        have W2 := W.trans (hb2.mono W.size)
        have N2 := N.on hb2
        have G2 := G.on hb2
        have fr := Blk.fr2 G2
        have g2 := Blk.pair G2
        obtain ⟨d0', d1', d2', d3'⟩ := hpw.on W2
        have hne : b ≠ w1.heap.size := by omega
        have hne2 : w.heap.size ≠ w1.heap.size := by omega
        clear W N G hb2 d0 d1 d2 d3 HC HF
        go_upto_region 5 with (fail)
        clear fr g2 d0' d1' d2' d3'
        have G3 : Blk ((w2.setCell ⟨w1.heap.size, 0, none⟩ (.int .u64 (uv c.vh))).setCell ⟨w1.heap.size, 1, none⟩ (.int .u64 (uv c.vl))) w1.heap.size 25 #[.int .u64 (uv c.vh), .int .u64 (uv c.vl)] := (G2.set 0 _).set 1 _
        have N3 := (N2.far (p := ⟨w1.heap.size, 0, none⟩) hne2 (.int .u64 (uv c.vh))).far (p := ⟨w1.heap.size, 1, none⟩) hne2 (.int .u64 (uv c.vl))
        have W3 := W2.trans ((sets2 w2 w1.heap.size (.int .u64 (uv c.vh)) (.int .u64 (uv c.vl))).mono (by omega))
        generalize ((w2.setCell ⟨w1.heap.size, 0, none⟩ (.int .u64 (uv c.vh))).setCell ⟨w1.heap.size, 1, none⟩ (.int .u64 (uv c.vl))) = w3 at G3 N3 W3 ⊢
        clear W2 N2 G2
        go_wp2
        go_roundg j
        case measure => omega
        case rel => exact ⟨j, by omega, rfl, idx_pred j, _, _, _, rfl, HN2, W3, N3, G3⟩
set_option maxHeartbeats 4000000 in
set_option maxRecDepth 100000 in
theorem phas_no (A1 : Option Addr) (c1 : Nat) (L : List Cb) (hh hl : BitVec 64) (w : World) (hl2 : L.length ≤ 4398046511104) (pa : Pl w (.slice A1 L.length c1) L) (ha : L.all Cb.snd = false) (x y : Bool) (hx : sndL L = x) (hy : anyHas L hh hl = y) :
    Calls Try.prog 3 #[.slice A1 L.length c1, .agg #[.int .u64 (uv hh), .int .u64 (uv hl)]] w fun e w' => e = .returned (.bool true) ∧ Below w.heap.size w w' := by
  have hlz : (L.length : Int) ≤ 4398046511104 := by omega
  obtain ⟨A1', c1', e0, _, hA'⟩ := pa.form
  obtain ⟨rfl, rfl⟩ : A1 = A1' ∧ c1 = c1' := by injection e0 with e1 _ e3; exact ⟨e1, e3⟩
  have HA := Lib.hid hA'
  have HX := Lib.hid hx
  have HY := Lib.hid hy
  have b0 := below1 w (.cells #[.int .u64 (uv hh), .int .u64 (uv hl)] 25)
  have N0 : Blk (w.alloc (.cells #[.int .u64 (uv hh), .int .u64 (uv hl)] 25)) w.heap.size 25 #[.int .u64 (uv hh), .int .u64 (uv hl)] := Blk.new w _ _
  have HPA := Lib.hid pa
  have hxf : x = false := by rw [← hx]; unfold sndL; rw [ha, Bool.and_false]
  subst hxf
  have t1 := (texts_c _ L _ hl2 (pa.on b0)).mono fun e w' h => h.2 ha
  clear e0 hA' hx hy pa ha
  go_enter Try.func3, Try.ntmps3
  go_wp2_with fail
  refine t1.mono ?_
  rintro e w1 ⟨rfl, hb⟩
  have B1 := b0.trans (hb.mono b0.size)
  replace N0 := N0.on hb
  clear t1 b0 hb
  have b2 := below1 w1 (.cells #[.int .u64 (uv 0#64), .int .u64 (uv 0#64)] 25)
  have G2 : Blk (w1.alloc (.cells #[.int .u64 (uv 0#64), .int .u64 (uv 0#64)] 25)) w1.heap.size 25 #[.int .u64 (uv 0#64), .int .u64 (uv 0#64)] := Blk.new w1 _ _
  have hlt1 : w.heap.size < w1.heap.size := N0.lt
  replace N0 := N0.on b2
  have HB2 := Lib.hid (B1.trans (b2.mono B1.size))
  have HN := Lib.hid N0
  have HG := Lib.hid G2
  clear b2 B1 N0 G2
  go_wp2
  go_loopg [8, 9] L.length (fun gk s8 s9 wr => ∃ k : Nat, k ≤ L.length ∧ gk = k ∧ Idx k s9 ∧ ∃ (f : Bool) (ph pl : BitVec 64), s8 = .bool f ∧ Hid (Fst (L.drop k) f ph pl) ∧ Below w.heap.size w wr ∧ Blk wr w.heap.size 25 #[.int .u64 (uv hh), .int .u64 (uv hl)] ∧ Blk wr w1.heap.size 25 #[.int .u64 (uv ph), .int .u64 (uv pl)])
  case atStart => exact ⟨L.length, Nat.le_refl _, rfl, idx_top _, false, 0#64, 0#64, rfl, Fst.start L, HB2.out, HN.out, HG.out⟩
  case round =>
    clear HB2 HN HG
    obtain ⟨k, hk, rfl, hi, f, ph, pl, rfl, HF, W, N, G⟩ := hrel
    rcases hi with ⟨rfl, rfl⟩ | ⟨j, rfl, rfl⟩
    · rw [List.drop_zero] at HF
      rcases HF.out with ⟨rfl, k, c, hck, hcs, hcb, rfl, rfl⟩ | ⟨rfl, hno, rfl, rfl⟩
      · have hcon := fun W h => ppick_yes (.slice A1 L.length c1) L W k c (by omega) hck hcs hcb h
        have Hcon := Lib.hid hcon
        clear hcon hck hcs hcb HF
        have hcon := Hcon.out wr (HPA.out.on W)
        go_wp2_with fail
        refine hcon.mono ?_
        rintro e w2 ⟨rfl, hb⟩
        have hb3 := hb.trans ((below1 w2 (.cells #[.int .u64 (uv c.vh), .int .u64 (uv c.vl)] 25)).mono hb.size)
        have Q3 : Blk (w2.alloc (.cells #[.int .u64 (uv c.vh), .int .u64 (uv c.vl)] 25)) w2.heap.size 25 #[.int .u64 (uv c.vh), .int .u64 (uv c.vl)] := Blk.new w2 _ _
        have N3 := N.on hb3
        have G3 := G.on hb3
        have W3 := W.trans (hb3.mono W.size)
        clear hcon Hcon hb hb3 W N G
        go_upto_region 10 with (fail)
        generalize (w2.alloc (.cells #[.int .u64 (uv c.vh), .int .u64 (uv c.vl)] 25)) = w3 at Q3 N3 G3 W3 ⊢
        have n0 := N3.cell 0
        have n1 := N3.cell 1
        have g0 := G3.cell 0
        have g1 := G3.cell 1
        have q0 := Q3.cell 0
        have q1 := Q3.cell 1
        have hPA := HPA.out.on W3
        have HP3 := Lib.hid hPA
        clear Q3 N3 G3 hPA
        cases y
        all_goals
          go_wp2_with fail
          go_region_held3 (fun w' => Below w3.heap.size w3 w' ∧ w'.cell? ⟨w.heap.size, 0, none⟩ = some (.int .u64 (uv hh)) ∧ w'.cell? ⟨w.heap.size, 1, none⟩ = some (.int .u64 (uv hl)) ∧ w'.cell? ⟨w1.heap.size, 0, none⟩ = some (.int .u64 (uv c.vh)) ∧ w'.cell? ⟨w1.heap.size, 1, none⟩ = some (.int .u64 (uv c.vl)) ∧ w'.cell? ⟨w2.heap.size, 0, none⟩ = some (.int .u64 (uv c.vh)) ∧ w'.cell? ⟨w2.heap.size, 1, none⟩ = some (.int .u64 (uv c.vl)))
            (first
              | exact hold6 (by assumption) (by assumption)
              | exact ⟨(Below.refl _ _).drew, n0, n1, g0, g1, q0, q1⟩)
            (first
              | (go_at_call 11; (with_reducible refine (awake3_c _).mono ?_); rintro e w' ⟨rfl, hb⟩)
              | (go_at_call 12; (with_reducible refine (psound_c _ _ L _ HX.out (HP3.out.on (And.left (by assumption)))).mono ?_); rintro e w' ⟨rfl, hb⟩)
              | (go_at_call 13; (with_reducible refine (phas_c _ _ L hh hl _ HY.out (HP3.out.on (And.left (by assumption)))).mono ?_); rintro e w' ⟨rfl, hb⟩)
              | (go_at_call 14; (with_reducible refine (rhas3_c _ _ L hh hl _ (by omega) HY.out (HP3.out.on (And.left (by assumption)))).mono ?_); rintro e w' ⟨rfl, hb⟩))
          rename_i hS
          have W4 := W3.trans (hS.1.mono W3.size)
          clear hS hb W3
          go_wp2
          go_ret
          exact ⟨rfl, W4⟩
      · have hcon := fun W h => ppick_no (.slice A1 L.length c1) L W hno h
        have Hcon := Lib.hid hcon
        clear hcon hno HF
        have hcon := Hcon.out wr (HPA.out.on W)
        change Calls Try.prog 10 _ wr fun e w' => e = .returned (.tuple #[.agg #[.int .u64 (uv 0#64), .int .u64 (uv 0#64)], .bool false]) ∧ Below wr.heap.size wr w' at hcon
        go_wp2_with fail
        refine hcon.mono ?_
        rintro e w2 ⟨rfl, hb⟩
        have hb3 := hb.trans ((below1 w2 (.cells #[.int .u64 (uv 0#64), .int .u64 (uv 0#64)] 25)).mono hb.size)
        have Q3 : Blk (w2.alloc (.cells #[.int .u64 (uv 0#64), .int .u64 (uv 0#64)] 25)) w2.heap.size 25 #[.int .u64 (uv 0#64), .int .u64 (uv 0#64)] := Blk.new w2 _ _
        have N3 := N.on hb3
        have G3 := G.on hb3
        have W3 := W.trans (hb3.mono W.size)
        clear hcon Hcon hb hb3 W N G
        go_upto_region 10 with (fail)
        generalize (w2.alloc (.cells #[.int .u64 (uv 0#64), .int .u64 (uv 0#64)] 25)) = w3 at Q3 N3 G3 W3 ⊢
        have n0 := N3.cell 0
        have n1 := N3.cell 1
        have g0 := G3.cell 0
        have g1 := G3.cell 1
        have q0 := Q3.cell 0
        have q1 := Q3.cell 1
        have hPA := HPA.out.on W3
        have HP3 := Lib.hid hPA
        clear Q3 N3 G3 hPA
        cases y
        all_goals
          go_wp2_with fail
          go_region_held3 (fun w' => Below w3.heap.size w3 w' ∧ w'.cell? ⟨w.heap.size, 0, none⟩ = some (.int .u64 (uv hh)) ∧ w'.cell? ⟨w.heap.size, 1, none⟩ = some (.int .u64 (uv hl)) ∧ w'.cell? ⟨w1.heap.size, 0, none⟩ = some (.int .u64 (uv 0#64)) ∧ w'.cell? ⟨w1.heap.size, 1, none⟩ = some (.int .u64 (uv 0#64)) ∧ w'.cell? ⟨w2.heap.size, 0, none⟩ = some (.int .u64 (uv 0#64)) ∧ w'.cell? ⟨w2.heap.size, 1, none⟩ = some (.int .u64 (uv 0#64)))
            (first
              | exact hold6 (by assumption) (by assumption)
              | exact ⟨(Below.refl _ _).drew, n0, n1, g0, g1, q0, q1⟩)
            (first
              | (go_at_call 11; (with_reducible refine (awake3_c _).mono ?_); rintro e w' ⟨rfl, hb⟩)
              | (go_at_call 12; (with_reducible refine (psound_c _ _ L _ HX.out (HP3.out.on (And.left (by assumption)))).mono ?_); rintro e w' ⟨rfl, hb⟩)
              | (go_at_call 13; (with_reducible refine (phas_c _ _ L hh hl _ HY.out (HP3.out.on (And.left (by assumption)))).mono ?_); rintro e w' ⟨rfl, hb⟩)
              | (go_at_call 14; (with_reducible refine (rhas3_c _ _ L hh hl _ (by omega) HY.out (HP3.out.on (And.left (by assumption)))).mono ?_); rintro e w' ⟨rfl, hb⟩))
          rename_i hS
          have W4 := W3.trans (hS.1.mono W3.size)
          clear hS hb W3
          go_wp2
          go_ret
          exact ⟨rfl, W4⟩
    · have hjz : (j : Int) < (L.length : Int) := by omega
      obtain ⟨c, hc⟩ : ∃ c, L[j]? = some c := ⟨_, List.getElem?_eq_getElem (by omega)⟩
      obtain ⟨b, off, rfl, hb, hpc⟩ := HA.out (ne_nil_of hc)
      have hpw := hpc j c hc
      obtain ⟨d0, d1, d2, d3⟩ := hpw.on W
      have HC := Lib.hid hc
      clear hc hpc
      cases hs : c.snd with
      | false =>
        have HN2 := Lib.hid (HF.out.skip HC.out hs)
        go_wp2_with fail
        (with_reducible refine (text_no c _ hs).mono ?_)
        rintro e w2 ⟨rfl, hb2⟩
        have W2 := W.trans (hb2.mono W.size)
        have N2 := N.on hb2
        have G2 := G.on hb2
        clear W N G hb2 d0 d1 d2 d3 HC HF
        go_wp2
        go_roundg j
        case measure => omega
        case rel => exact ⟨j, by omega, rfl, idx_pred j, _, _, _, rfl, HN2, W2, N2, G2⟩
      | true =>
        obtain ⟨s, HT⟩ : ∃ s, Hid (txt c = s) := ⟨_, rfl⟩
        have HN2 := Lib.hid (HF.out.take HC.out hs)
        go_wp2_with fail
        (with_reducible refine (text_s s c _ hs HT.out).mono ?_)
        rintro e w2 ⟨rfl, hb2⟩
        have W2 := W.trans (hb2.mono W.size)
        have N2 := N.on hb2
        have G2 := G.on hb2
        have fr := Blk.fr2 G2
        have g2 := Blk.pair G2
        obtain ⟨d0', d1', d2', d3'⟩ := hpw.on W2
        have hne : b ≠ w1.heap.size := by omega
        have hne2 : w.heap.size ≠ w1.heap.size := by omega
        clear W N G hb2 d0 d1 d2 d3 HC HF
        go_upto_region 5 with (fail)
        clear fr g2 d0' d1' d2' d3'
        have G3 : Blk ((w2.setCell ⟨w1.heap.size, 0, none⟩ (.int .u64 (uv c.vh))).setCell ⟨w1.heap.size, 1, none⟩ (.int .u64 (uv c.vl))) w1.heap.size 25 #[.int .u64 (uv c.vh), .int .u64 (uv c.vl)] := (G2.set 0 _).set 1 _
        have N3 := (N2.far (p := ⟨w1.heap.size, 0, none⟩) hne2 (.int .u64 (uv c.vh))).far (p := ⟨w1.heap.size, 1, none⟩) hne2 (.int .u64 (uv c.vl))
        have W3 := W2.trans ((sets2 w2 w1.heap.size (.int .u64 (uv c.vh)) (.int .u64 (uv c.vl))).mono (by omega))
        generalize ((w2.setCell ⟨w1.heap.size, 0, none⟩ (.int .u64 (uv c.vh))).setCell ⟨w1.heap.size, 1, none⟩ (.int .u64 (uv c.vl))) = w3 at G3 N3 W3 ⊢
        clear W2 N2 G2
        go_wp2
        go_roundg j
        case measure => omega
        case rel => exact ⟨j, by omega, rfl, idx_pred j, _, _, _, rfl, HN2, W3, N3, G3⟩
theorem phasl_c (A1 : Option Addr) (c1 : Nat) (L : List Cb) (hh hl : BitVec 64) (w : World) (hl2 : L.length ≤ 4398046511104) (pa : Pl w (.slice A1 L.length c1) L) :
    Calls Try.prog 3 #[.slice A1 L.length c1, .agg #[.int .u64 (uv hh), .int .u64 (uv hl)]] w fun e w' => e = .returned (.bool true) ∧ Below w.heap.size w w' := by
  cases ha : L.all Cb.snd with
  | true => exact phas_yes A1 c1 L hh hl w hl2 pa ha _ _ rfl rfl
  | false => exact phas_no A1 c1 L hh hl w hl2 pa ha _ _ rfl rfl
end Go.Proofs

namespace Go.Proofs.Ytipkefljicoldaa
open Go.ChangeShapes Go.WideShapes Go.ChangeAt Go.RowKit Go.Joins Go.Proofs.Hd

theorem laidOut_phasl : laidOutB Try.prog = true := by kernel_rfl
set_option maxRecDepth 100000 in
theorem phasl_lifted (os : Os) (started : os.Started) (H : Type) (enc : TypeId × Value → H) :
    ReturnsInHanded {} Try.checked os 3 .any (Rows.pileHasSpec.pre6 enc Try.prog Try.f3 Rows.pileHasRow.domain false) (Rows.pileHasSpec.post enc Try.prog Try.f3 false true false false) := by
  refine returnsInHanded_of_change_sized (C := Try.checked) own started (by kernel_rfl) Try.func3
    (ChangeSpec.witness6 (enc := enc) (C := Try.checked) false ⟨#[], #[.slice none 0 0, .agg #[.int .u64 0, .int .u64 0]], []⟩ 8 (by kernel_rfl) (by kernel_rfl) (by kernel_rfl) (by kernel_rfl)) ?_
  intro W base args ds gs before hval0 hW hcnd hsz _
  have hval : ∀ (j : Nat) t v, Try.f3.params[j]? = some t → args[j]? = some v → Value.okWide Try.prog W .any base t v := hval0
  have hW' := hW
  obtain ⟨p, q, hA0, hV, rfl, hfz, hnd⟩ := hW
  have hA : DataW.TrodAll enc Try.prog W 0 (fun _ => true) true Try.f3.params.toList args.toList ds p := hA0
  rw [Try.params3] at hA hval
  obtain ⟨v0, vs0, d0, ds0, p0, q0, hargs, rfl, rfl, h0, r0⟩ := trodAll_cons hA
  obtain ⟨v1, vs1, d1, ds1, p1, q1, rfl, rfl, rfl, h1, r1⟩ := trodAll_cons r0
  obtain ⟨rfl, rfl, rfl⟩ := trodAll_nil r1
  obtain rfl : args = #[v0, v1] := by cases args; simp_all
  obtain ⟨rfl, rfl⟩ := trodVars_none hV
  have k0 := h0
  have lt0 : ∀ x ∈ p0, x.block < W.heap.size := by obtain ⟨m, hm⟩ := k0; exact DataW.trod_lt m _ _ _ hm
  have da := open_len (hval 0 22 v0 rfl rfl) h0
  obtain ⟨aA, ac, aL, rfl, la, ma, pa⟩ := open_pl (hval 0 22 v0 rfl rfl) h0
  have za : aL.length ≤ 4398046511104 := by
    rcases da _ _ _ rfl with e | ⟨el, sp, e1, e2⟩
    · omega
    · subst e1
      have hh := sized_slice hsz (j := 0) (t := 22) (by rw [Try.params3]; rfl) rfl Try.underlying22
      have hb : Try.checked.prog.bytesOf 32 = 32 := by kernel_rfl
      have hr := reachBytes_lt
      rw [hb] at hh
      omega
  obtain ⟨hh, hl, rfl, rfl, rfl, s1⟩ := open_head (hval 1 25 v1 rfl rfl) h1
  clear hA0 hval0
  refine (phasl_c aA ac aL hh hl W za pa).mono fun e W' ⟨he, hg⟩ => ?_
  subst he
  exact ⟨_, rfl, _, _, _, [], _, [], hW', trodAll_mk1 (shut_bool Try.underlying4 _), (trodAll_cons_mk (Below.trod laidOut_phasl (by kernel_rfl) (of_decide_eq_true (by kernel_rfl)) k0 hg lt0) (trodAll_cons_mk (s1 _ _) trodAll_mk0)), rfl, hg.frame _, (fun h => by cases h)⟩

theorem phasl_holds : Rows.PileHasSaid :=
  OpenClaim.holds_of_wide 3 Try.f3 rfl rfl rfl rfl rfl rfl rfl ⟨rfl, rfl, rfl, rfl, rfl⟩ rfl rfl rfl rfl rfl (by kernel_rfl) Try.func3 (by kernel_rfl)
    (of_decide_eq_true (by kernel_rfl)) (by unfold Func.isWrapper; first | (rw [if_pos (by decide +kernel)]; kernel_rfl) | (rw [if_neg (by decide +kernel)]; exact ⟨rfl, rfl⟩))
    (fun os started H enc _ => phasl_lifted os started H enc)
#print axioms phasl_holds
end Go.Proofs.Ytipkefljicoldaa
