/-
  Contract of (*node).pruned. Conditions as each theorem lists them.
  The library's contract of slices.DeleteFunc lies at this program; the function that tells whether a number is the one to go; the row of numbers behind it. Conditions as each theorem lists them.
  Contract of (*node).without. Conditions as each theorem lists them.
-/
import Derived.Test.YtgoieipchhamgaaJ4
import Derived.Shelf.SlicesE.DeleteFunc
import Derived.Lib.SliceRun
import Derived.Test.YtgoieipchhamgaaProg
import Derived.Sort.OwnSortedInts
namespace Go.Proofs.Hd
open Go.RowKit
/-- Does a pointer lead somewhere? -/
def isP : Value → Bool
  | .pointer (some _) => true
  | _ => false
/-- The branches that are there, among the first k. -/
def lftV (vs : Nat → Value) : Nat → List Value
  | 0 => []
  | k + 1 => if isP (vs k) = true then lftV vs k ++ [vs k] else lftV vs k
theorem lftV_yes {vs : Nat → Value} {k : Nat} (h : isP (vs k) = true) : lftV vs (k + 1) = lftV vs k ++ [vs k] := if_pos h
theorem lftV_no {vs : Nat → Value} {k : Nat} (h : ¬ isP (vs k) = true) : lftV vs (k + 1) = lftV vs k := if_neg h
theorem lftV_le (vs : Nat → Value) : ∀ k, (lftV vs k).length ≤ k
  | 0 => Nat.le_refl _
  | k + 1 => by
    have := lftV_le vs k
    unfold lftV
    split
    · rw [List.length_append, List.length_singleton]; omega
    · omega
theorem lft_len {vs : Nat → Value} {b : Nat → Pt} (h : ∀ k, k < 3 → (isP (vs k) = true ↔ (b k).cnt = 1)) : (lftV vs 3).length = cntB b := by
  have h0 := h 0 (by omega)
  have h1 := h 1 (by omega)
  have h2 := h 2 (by omega)
  have l0 := (b 0).cnt_le
  have l1 := (b 1).cnt_le
  have l2 := (b 2).cnt_le
  unfold cntB lftV lftV lftV lftV
  by_cases e0 : isP (vs 0) = true <;> by_cases e1 : isP (vs 1) = true <;> by_cases e2 : isP (vs 2) = true <;> simp [e0, e1, e2] at h0 h1 h2 ⊢ <;> omega
theorem lft_first {vs : Nat → Value} {b : Nat → Pt} (h : ∀ k, k < 3 → (isP (vs k) = true ↔ (b k).cnt = 1)) (hc : 1 ≤ cntB b) : ∃ k, k < 3 ∧ fst3 b = b k ∧ (b k).cnt = 1 ∧ (lftV vs 3)[0]? = some (vs k) := by
  have h0 := h 0 (by omega)
  have h1 := h 1 (by omega)
  have h2 := h 2 (by omega)
  have l0 := (b 0).cnt_le
  have l1 := (b 1).cnt_le
  have l2 := (b 2).cnt_le
  unfold cntB at hc
  unfold fst3 lftV lftV lftV lftV
  by_cases e0 : (b 0).cnt = 1
  · refine ⟨0, by omega, if_pos e0, e0, ?_⟩
    rw [if_pos (h0.2 e0)]
    split <;> split <;> simp
  · by_cases e1 : (b 1).cnt = 1
    · refine ⟨1, by omega, by rw [if_neg e0, if_pos e1], e1, ?_⟩
      rw [if_neg (fun e => e0 (h0.1 e)), if_pos (h1.2 e1)]
      split <;> simp
    · refine ⟨2, by omega, by rw [if_neg e0, if_neg e1], by omega, ?_⟩
      rw [if_neg (fun e => e0 (h0.1 e)), if_neg (fun e => e1 (h1.1 e)), if_pos (h2.2 (by omega))]
      rfl
theorem TrAt.isP {w : World} {t : Pt} {v : Value} {S : Nat → Prop} (h : TrAt w t v S) : isP v = true ↔ t.cnt = 1 := by
  by_cases hc : t.cnt = 1
  · obtain ⟨B, _, _, _, _, rfl, _⟩ := h.top hc
    exact ⟨fun _ => hc, fun _ => rfl⟩
  · rw [h.nil hc]
    exact ⟨fun h => (by cases h), fun h => absurd h hc⟩
theorem isP_of {v : Value} (h : Hd.isP v = true) : ∃ a, v = .pointer (some a) := by
  cases v with
  | pointer p => cases p with
    | none => cases h
    | some a => exact ⟨a, rfl⟩
  | _ => cases h
theorem row_first {w : World} {base n : Nat} {e : TypeId} {A : Option Addr} {cap : Nat} {xs : List Value} {x : Value} (h : w.ownsRow base e 1 (.slice A n cap) n xs) (hx : xs[0]? = some x) : ∃ g, A = some ⟨g, 0, none⟩ ∧ 0 < n ∧ w.cell? ⟨g, 0, none⟩ = some x := by
  rcases h.2 with ⟨e, rfl⟩ | ⟨g, cap2, cur, e, _, hg, _, _, _, ht⟩
  · have := h.1
    rw [Nat.zero_mul] at this
    rw [List.eq_nil_of_length_eq_zero this] at hx
    cases hx
  · injection e with e1 e2 e3
    have hn : 0 < n := by
      have h1 := h.1
      obtain ⟨hl, _⟩ := List.getElem?_eq_some_iff.1 hx
      omega
    refine ⟨g, e1, hn, ?_⟩
    rw [← ht, List.getElem?_take, if_pos (by omega), Array.getElem?_toList] at hx
    rw [cell_of_row w g 0 cur e (0, 0) hg]
    exact hx
end Go.Proofs.Hd
namespace Go.Proofs
open Go.RowKit Go.Proofs.Hd Go.Lib
attribute [local go_sem] uv_nonneg
theorem info_ptrT : (Try.prog.info? 55).map (fun i => (i.zero, i.size, i.bytes)) = some (some (.pointer none), 1, 8) := by kernel_rfl
theorem idx3_0 (v0 v1 v2 : Value) (W : World) : (Instr.index 71 (.agg #[v0, v1, v2]) (.int .i64 0)).run Try.prog W = .ok v0 W := by
  simp [Instr.index, run_underlying Try.underlying71, asIntOf, Go.part, Try.isAgg55, Try.sizeOf55, go_sem]
theorem idx3_1 (v0 v1 v2 : Value) (W : World) : (Instr.index 71 (.agg #[v0, v1, v2]) (.int .i64 1)).run Try.prog W = .ok v1 W := by
  simp [Instr.index, run_underlying Try.underlying71, asIntOf, Go.part, Try.isAgg55, Try.sizeOf55, go_sem]
theorem idx3_2 (v0 v1 v2 : Value) (W : World) : (Instr.index 71 (.agg #[v0, v1, v2]) (.int .i64 2)).run Try.prog W = .ok v2 W := by
  simp [Instr.index, run_underlying Try.underlying71, asIntOf, Go.part, Try.isAgg55, Try.sizeOf55, go_sem]
set_option maxRecDepth 100000 in
set_option maxHeartbeats 4000000 in
/-- A node that has lost a cube: as it is, or its only branch. -/
theorem pruned_c (a : Nat) (s : Cb) (b : Nat → Pt) (B : Nat) (vs : Nat → Value) (Ss : Nat → Nat → Prop) (w : World) (hc : 1 ≤ cntB b)
    (hN : Blk w B 73 (ndCells (a : Int) (vs 0) (vs 1) (vs 2) s (.slice none 0 0))) (hT : ∀ k, k < 3 → TrAt w (b k) (vs k) (Ss k)) (hs : Sep B Ss) :
    Calls Try.prog 35 #[.pointer (some ⟨B, 0, none⟩)] w fun e w' => ∃ v' S', e = .returned v' ∧ TrAt w' (prune a b) v' S' ∧ (∀ x, S' x → x = B ∨ ∃ k, k < 3 ∧ Ss k x) ∧ Ch (· = B) w w' := by
  obtain ⟨ic, hic, hcz0, hcz1, hcz2⟩ := info_parts info_ptrT
  have hIP := fun k hk => (hT k hk).isP
  have HLEN := Lib.hid (lft_len hIP)
  obtain ⟨k0, hk0, hfst, hck, hget⟩ := lft_first hIP hc
  have HF := Lib.hid (And.intro hfst (And.intro hck hget))
  have HLE := Lib.hid (lftV_le vs)
  have HN := Lib.hid hN
  have HT := Lib.hid hT
  have HS := Lib.hid hs
  have HC := Lib.hid hc
  have d1 := (hN.cell 1).trans rfl
  have d2 := (hN.cell 2).trans rfl
  have d3 := (hN.cell 3).trans rfl
  unfold ndCells at d1 d2 d3
  simp only [List.getElem?_toArray, List.getElem?_cons_succ, List.getElem?_cons_zero] at d1 d2 d3
  clear hIP hfst hck hget hN hT hs hc
  go_enter Try.func35, Try.ntmps35
  go_wp2
  clear d1 d2 d3
  have HIX : Hid (∀ (k : Nat) (z : Int), k < 3 → z = (k : Int) → ∀ W, (Instr.index 71 (.agg #[vs 0, vs 1, vs 2]) (.int .i64 z)).run Try.prog W = .ok (vs k) W) := by
    intro k z hk hz W
    subst hz
    match k, hk with
    | 0, _ => exact idx3_0 _ _ _ _
    | 1, _ => exact idx3_1 _ _ _ _
    | 2, _ => exact idx3_2 _ _ _ _
  generalize Value.agg #[vs 0, vs 1, vs 2] = arr at HIX ⊢
  go_loopg [3, 5, 10] 3 (fun gk s3 s5 s10 wr => ∃ (k : Nat) (z : Int), k ≤ 3 ∧ gk + k = 3 ∧ z = (k : Int) ∧ s10 = .int .i64 z ∧ (∃ x, s5 = x) ∧ Hid (Below w.heap.size w wr) ∧ Hid (wr.ownsRow w.heap.size 55 1 s3 (lftV vs k).length (lftV vs k)))
  case atStart => exact ⟨0, 0, by omega, rfl, rfl, rfl, ⟨_, rfl⟩, Below.refl _ _, ⟨rfl, .inl ⟨rfl, rfl⟩⟩⟩
  case round =>
    obtain ⟨k, z, hk, hgk, hz, rfl, ⟨x5, rfl⟩, HB, HO⟩ := hrel
    obtain ⟨A, cp, rfl⟩ := own_slT HO.out
    rcases Nat.eq_or_lt_of_le (show 0 ≤ k by omega) with e | hk0
    · obtain rfl : k = 0 := e.symm
      obtain rfl : z = 0 := by omega
      clear hz
      by_cases hp : isP (vs 0) = true
      · obtain ⟨ad, had⟩ := isP_of hp
        have HL : Hid (lftV vs 1 = lftV vs 0 ++ [.pointer (some ad)]) := by
          show lftV vs 1 = _
          rw [← had]
          exact lftV_yes hp
        have hle := HLE.out 0
        have hix := HIX.out 0 0 (by omega) rfl
        rw [had] at hix
        clear hp
        generalize lftV vs 0 = M at HO HL hle ⊢
        go_upto_region 6 with (fail)
        clear hix
        have hb3 := below1 wr (.cells #[.pointer (some ad)] 55)
        have O3 := own_on HO.out hb3
        have SR := src_oneT (Blk.new wr 55 #[.pointer (some ad)]) rfl
        have hB3 := HB.out.trans (hb3.mono HB.out.size)
        have hz3 := hB3.size
        have HB3 := Lib.hid hB3
        clear hb3 hB3 HO HB
        go_wp2_with (at_builtin; refine wpList_app2 _ rfl (.tmp 15) (.tmp 17) 66 rfl w.heap.size 55 ic _ 1 8 Try.underlying66 hic hcz0 hcz1 hcz2 rfl (by decide) _ _ _ rfl O3 _ 1 [.pointer (some ad)] rfl SR (by unfold maxLen; omega) (by omega) hz3 ?_)
        intro v5 w5 O5 hg5
        have HB5 := Lib.hid (HB3.out.grown hg5.1 hz3 (fun j hj => (O3.lt j hj).1))
        have HO5 : Hid (w5.ownsRow w.heap.size 55 1 v5 (lftV vs 1).length (lftV vs 1)) := by
          show World.ownsRow _ _ _ _ _ _ _
          rw [HL.out, List.length_append]
          exact O5
        clear O3 SR hz3 O5 hg5 HL hle HB3 had
        go_wp2
        go_roundg 2
        case measure => omega
        case rel => exact ⟨1, 1, by omega, by omega, rfl, rfl, ⟨_, rfl⟩, HB5, HO5⟩
      · have hnil : vs 0 = .pointer none := HT.out 0 (by omega) |>.nil (fun e => hp ((HT.out 0 (by omega)).isP.2 e))
        have HO5 : Hid (wr.ownsRow w.heap.size 55 1 (.slice A (lftV vs 0).length cp) (lftV vs 1).length (lftV vs 1)) := by
          show World.ownsRow _ _ _ _ _ _ _
          have e : lftV vs 1 = lftV vs 0 := lftV_no hp
          rw [e]
          exact HO.out
        have hix := HIX.out 0 0 (by omega) rfl
        rw [hnil] at hix
        clear hp HO
        generalize (lftV vs 0).length = m at HO5 ⊢
        go_wp2
        go_roundg 2
        case measure => omega
        case rel => exact ⟨1, 1, by omega, by omega, rfl, rfl, ⟨_, rfl⟩, HB, HO5⟩
    rcases Nat.eq_or_lt_of_le (show 1 ≤ k by omega) with e | hk1
    · obtain rfl : k = 1 := e.symm
      obtain rfl : z = 1 := by omega
      clear hz
      by_cases hp : isP (vs 1) = true
      · obtain ⟨ad, had⟩ := isP_of hp
        have HL : Hid (lftV vs 2 = lftV vs 1 ++ [.pointer (some ad)]) := by
          show lftV vs 2 = _
          rw [← had]
          exact lftV_yes hp
        have hle := HLE.out 1
        have hix := HIX.out 1 1 (by omega) rfl
        rw [had] at hix
        clear hp
        generalize lftV vs 1 = M at HO HL hle ⊢
        go_upto_region 6 with (fail)
        clear hix
        have hb3 := below1 wr (.cells #[.pointer (some ad)] 55)
        have O3 := own_on HO.out hb3
        have SR := src_oneT (Blk.new wr 55 #[.pointer (some ad)]) rfl
        have hB3 := HB.out.trans (hb3.mono HB.out.size)
        have hz3 := hB3.size
        have HB3 := Lib.hid hB3
        clear hb3 hB3 HO HB
        go_wp2_with (at_builtin; refine wpList_app2 _ rfl (.tmp 15) (.tmp 17) 66 rfl w.heap.size 55 ic _ 1 8 Try.underlying66 hic hcz0 hcz1 hcz2 rfl (by decide) _ _ _ rfl O3 _ 1 [.pointer (some ad)] rfl SR (by unfold maxLen; omega) (by omega) hz3 ?_)
        intro v5 w5 O5 hg5
        have HB5 := Lib.hid (HB3.out.grown hg5.1 hz3 (fun j hj => (O3.lt j hj).1))
        have HO5 : Hid (w5.ownsRow w.heap.size 55 1 v5 (lftV vs 2).length (lftV vs 2)) := by
          show World.ownsRow _ _ _ _ _ _ _
          rw [HL.out, List.length_append]
          exact O5
        clear O3 SR hz3 O5 hg5 HL hle HB3 had
        go_wp2
        go_roundg 1
        case measure => omega
        case rel => exact ⟨2, 2, by omega, by omega, rfl, rfl, ⟨_, rfl⟩, HB5, HO5⟩
      · have hnil : vs 1 = .pointer none := HT.out 1 (by omega) |>.nil (fun e => hp ((HT.out 1 (by omega)).isP.2 e))
        have HO5 : Hid (wr.ownsRow w.heap.size 55 1 (.slice A (lftV vs 1).length cp) (lftV vs 2).length (lftV vs 2)) := by
          show World.ownsRow _ _ _ _ _ _ _
          have e : lftV vs 2 = lftV vs 1 := lftV_no hp
          rw [e]
          exact HO.out
        have hix := HIX.out 1 1 (by omega) rfl
        rw [hnil] at hix
        clear hp HO
        generalize (lftV vs 1).length = m at HO5 ⊢
        go_wp2
        go_roundg 1
        case measure => omega
        case rel => exact ⟨2, 2, by omega, by omega, rfl, rfl, ⟨_, rfl⟩, HB, HO5⟩
    rcases Nat.eq_or_lt_of_le (show 2 ≤ k by omega) with e | hk2
    · obtain rfl : k = 2 := e.symm
      obtain rfl : z = 2 := by omega
      clear hz
      by_cases hp : isP (vs 2) = true
      · obtain ⟨ad, had⟩ := isP_of hp
        have HL : Hid (lftV vs 3 = lftV vs 2 ++ [.pointer (some ad)]) := by
          show lftV vs 3 = _
          rw [← had]
          exact lftV_yes hp
        have hle := HLE.out 2
        have hix := HIX.out 2 2 (by omega) rfl
        rw [had] at hix
        clear hp
        generalize lftV vs 2 = M at HO HL hle ⊢
        go_upto_region 6 with (fail)
        clear hix
        have hb3 := below1 wr (.cells #[.pointer (some ad)] 55)
        have O3 := own_on HO.out hb3
        have SR := src_oneT (Blk.new wr 55 #[.pointer (some ad)]) rfl
        have hB3 := HB.out.trans (hb3.mono HB.out.size)
        have hz3 := hB3.size
        have HB3 := Lib.hid hB3
        clear hb3 hB3 HO HB
        go_wp2_with (at_builtin; refine wpList_app2 _ rfl (.tmp 15) (.tmp 17) 66 rfl w.heap.size 55 ic _ 1 8 Try.underlying66 hic hcz0 hcz1 hcz2 rfl (by decide) _ _ _ rfl O3 _ 1 [.pointer (some ad)] rfl SR (by unfold maxLen; omega) (by omega) hz3 ?_)
        intro v5 w5 O5 hg5
        have HB5 := Lib.hid (HB3.out.grown hg5.1 hz3 (fun j hj => (O3.lt j hj).1))
        have HO5 : Hid (w5.ownsRow w.heap.size 55 1 v5 (lftV vs 3).length (lftV vs 3)) := by
          show World.ownsRow _ _ _ _ _ _ _
          rw [HL.out, List.length_append]
          exact O5
        clear O3 SR hz3 O5 hg5 HL hle HB3 had
        go_wp2
        go_roundg 0
        case measure => omega
        case rel => exact ⟨3, 3, by omega, by omega, rfl, rfl, ⟨_, rfl⟩, HB5, HO5⟩
      · have hnil : vs 2 = .pointer none := HT.out 2 (by omega) |>.nil (fun e => hp ((HT.out 2 (by omega)).isP.2 e))
        have HO5 : Hid (wr.ownsRow w.heap.size 55 1 (.slice A (lftV vs 2).length cp) (lftV vs 3).length (lftV vs 3)) := by
          show World.ownsRow _ _ _ _ _ _ _
          have e : lftV vs 3 = lftV vs 2 := lftV_no hp
          rw [e]
          exact HO.out
        have hix := HIX.out 2 2 (by omega) rfl
        rw [hnil] at hix
        clear hp HO
        generalize (lftV vs 2).length = m at HO5 ⊢
        go_wp2
        go_roundg 0
        case measure => omega
        case rel => exact ⟨3, 3, by omega, by omega, rfl, rfl, ⟨_, rfl⟩, HB, HO5⟩
    obtain rfl : k = 3 := by omega
    obtain rfl : z = 3 := by omega
    clear hz hk0 hk1 hk2
    have hlen := HLEN.out
    have hro := HO.out
    obtain ⟨hf1, hf2, hf3⟩ := HF.out
    obtain ⟨g, rfl, hpos, hc0⟩ := row_first hro hf3
    have hB := HB.out
    have hN2 := HN.out.on hB
    have hTk := (HT.out k0 (by assumption)).on hB
    obtain ⟨B0, u0, u1, u2, u3, hv0, hN0, hS0⟩ := hTk.top hf2
    generalize (lftV vs 3).length = m at hlen hro hpos ⊢
    have hposz : (0 : Int) < (m : Int) := by omega
    have HRO := Lib.hid hro
    clear hro
    by_cases hm : m = 1
    · have hmz : ((m : Int) == 1) = true := by rw [hm]; rfl
      have HM := Lib.hid hm
      have HTk := Lib.hid hTk
      have HBB := Lib.hid hB
      have HV0 := Lib.hid hv0
      have HL2 := Lib.hid hlen
      have HF1 := Lib.hid hf1
      clear hm hTk hB hN2 hN0 hS0 hlen HRO HO HB hf1 hf2 hf3 hv0
      go_wp2
      go_ret
      refine ⟨vs k0, Ss k0, rfl, ?_, fun x hx => .inr ⟨k0, by assumption, hx⟩, Ch.of_below HBB.out⟩
      unfold prune
      rw [if_pos (by rw [← HL2.out, HM.out]), HF1.out]
      exact HTk.out
    · have hmz : ((m : Int) == 1) = false := by simp only [beq_eq_false_iff_ne]; omega
      have e0 := (hN0.cell 4).trans rfl
      have e1 := (hN0.cell 5).trans rfl
      have e2 := (hN0.cell 6).trans rfl
      have e3 := (hN0.cell 7).trans rfl
      have k4 := (hN2.cell 4).trans rfl
      have k5 := (hN2.cell 5).trans rfl
      have k6 := (hN2.cell 6).trans rfl
      have k7 := (hN2.cell 7).trans rfl
      have g4 := hN2.free 4
      have g5 := hN2.free 5
      have g6 := hN2.free 6
      have g7 := hN2.free 7
      unfold ndCells at e0 e1 e2 e3 k4 k5 k6 k7
      simp only [List.getElem?_toArray, List.getElem?_cons_succ, List.getElem?_cons_zero] at e0 e1 e2 e3 k4 k5 k6 k7
      have HM := Lib.hid (And.intro hm hlen)
      rw [hv0] at hc0
      unfold ptrV at hc0
      obtain ⟨c, hcs⟩ : ∃ c, (b k0).sam = c := ⟨_, rfl⟩
      rw [hcs] at e0 e1 e2 e3
      have HCS := Lib.hid hcs
      have HNf := Lib.hid ((((hN2.set 4 (.int .u64 (uv c.vh))).set 5 (.int .u64 (uv c.vl))).set 6 (.int .u64 (uv c.ch))).set 7 (.int .u64 (uv c.cl)))
      have HCf : Hid (Ch (· = B) w ((((wr.setCell ⟨B, 4, none⟩ (.int .u64 (uv c.vh))).setCell ⟨B, 5, none⟩ (.int .u64 (uv c.vl))).setCell ⟨B, 6, none⟩ (.int .u64 (uv c.ch))).setCell ⟨B, 7, none⟩ (.int .u64 (uv c.cl)))) :=
        ((((Ch.of_below hB).trans (Ch.set wr ⟨B, 4, none⟩ _)).trans (Ch.set _ ⟨B, 5, none⟩ _)).trans (Ch.set _ ⟨B, 6, none⟩ _)).trans (Ch.set _ ⟨B, 7, none⟩ _)
      have HF1 := Lib.hid hf1
      clear hm hlen hcs hTk hB hN2 hN0 hS0 HRO HO HB hf1 hf2 hf3 hv0
      go_wp2
      go_ret
      refine ⟨ptrV B, fun x => x = B ∨ ∃ k, k < 3 ∧ Ss k x, rfl, ?_, fun x hx => hx, HCf.out⟩
      unfold prune
      rw [if_neg (by rw [← HM.out.2]; exact HM.out.1), HF1.out, HCS.out]
      refine ⟨B, vs, Ss, rfl, ?_, fun k hk => (HT.out k hk).ch HCf.out (fun x hx e => HS.out.out k hk (by rw [← (show x = B from e)]; exact hx)), HS.out, fun _ => Iff.rfl⟩
      have h := HNf.out
      unfold ndCells at h ⊢
      simpa using h
end Go.Proofs

namespace Go.Proofs
open Go.Shelf Go.RowKit Go.Lib Go.Sort Go.Proofs.Hd
def Try.delRen : Go.Shelf.Ren := ⟨fun | 10 => 33 | 6 => 45 | n => n, fun | 0 => 0 | 3 => 3 | 4 => 4 | 22 => 41 | 23 => 3 | 25 => 40 | n => n, fun | n => n⟩
theorem Try.delLay : Go.Proofs.SlLaysH.n10 Try.prog Try.delRen := {
  mixed := by kernel_rfl
  f10 := ⟨Try.f33.name, by decide, Try.func33.trans (congrArg some (by kernel_rfl))⟩
  f6 := ⟨Try.f45.name, by decide, Try.func45.trans (congrArg some (by kernel_rfl))⟩
  t0 := Try.underlying0
  a0 := Try.isAgg0
  z0 := Try.sizeOf0
  v0 := Try.zeroValue0
  t3 := Try.underlying3
  a3 := Try.isAgg3
  z3 := Try.sizeOf3
  v3 := Try.zeroValue3
  t4 := Try.underlying4
  a4 := Try.isAgg4
  z4 := Try.sizeOf4
  v4 := Try.zeroValue4
  t22 := Try.underlying41
  a22 := Try.isAgg41
  z22 := Try.sizeOf41
  v22 := Try.zeroValue41
  a23 := Try.isAgg3
  z23 := Try.sizeOf3
  t25 := Try.underlying40
  a25 := Try.isAgg40
  z25 := Try.sizeOf40
  v25 := Try.zeroValue40 }
theorem del_gives (x y : Int) (B : Nat) (W : World) (hc : W.cell? ⟨B, 0, none⟩ = some (.int .i64 x)) :
    FnGives Try.prog 34 #[.pointer (some ⟨B, 0, none⟩)] #[.int .i64 y] (.bool (decide (y = x))) W := by
  show Calls Try.prog 34 #[.int .i64 y, .pointer (some ⟨B, 0, none⟩)] W _
  by_cases h : y = x
  · have h2 : decide (y = x) = true := by simpa using h
    rw [h2]
    subst h
    go_enter Try.func34, Try.ntmps34
    go_wp2
    go_ret
    exact ⟨rfl, 0, rfl⟩
  · have h2 : decide (y = x) = false := by simpa using h
    have h3 : (y == x) = false := by simpa using h
    rw [h2]
    go_enter Try.func34, Try.ntmps34
    go_wp2
    go_ret
    exact ⟨rfl, 0, rfl⟩
theorem cells_list (w : World) (g : Nat) (ids : List Int) (cur : Array Value) (hg : w.heap[g]? = some (.cells cur 3 (0, 0))) (hc : cur.toList.take ids.length = ids.map (.int .i64)) : Holds (Value.int .i64) w g 0 ids.toArray := by
  intro j hj
  have hj2 : j < ids.length := by simpa using hj
  have h1 : (cur.toList.take ids.length)[j]? = some (Value.int .i64 (ids[j]'hj2)) := by rw [hc]; simp [hj2]
  rw [List.getElem?_take, if_pos hj2] at h1
  refine ⟨?_, ?_⟩
  · rw [Nat.zero_add, cell_of_row w g j cur 3 (0, 0) hg, getElem!_pos _ j hj]
    simpa using h1
  · simp [World.frozen?, hg]
set_option maxHeartbeats 1000000 in
/-- The row behind it: the numbers that stay, where they were. -/
theorem delete_c (x : Int) (B g cap : Nat) (ids : List Int) (cur : Array Value) (w : World) (hB : B < w.heap.size) (hne : B ≠ g) (hx : w.cell? ⟨B, 0, none⟩ = some (.int .i64 x))
    (hg : w.heap[g]? = some (.cells cur 3 (0, 0))) (hsz : cur.size = cap) (hl : ids.length ≤ cap) (hcap : cap ≤ maxLen) (hc : cur.toList.take ids.length = ids.map (.int .i64)) :
    Calls Try.prog 33 #[.slice (some ⟨g, 0, none⟩) ids.length cap, .func (.func 34) #[] #[.pointer (some ⟨B, 0, none⟩)]] w fun e w' =>
      e = .returned (.slice (some ⟨g, 0, none⟩) (ids.filter fun y => !decide (y = x)).length cap) ∧
      w'.ownsRow 0 3 1 (.slice (some ⟨g, 0, none⟩) (ids.filter fun y => !decide (y = x)).length cap) (ids.filter fun y => !decide (y = x)).length ((ids.filter fun y => !decide (y = x)).map (.int .i64)) ∧ Ch (· = g) w w' := by
  have eg : ∀ args w, (callFunc 34 args).run Try.prog w = .ok (.enter 34 args) w := enters_of Try.func34 (by kernel_rfl) rfl
  have hH := cells_list w g ids cur hg hc
  have hp : PredAt Try.prog 34 #[.pointer (some ⟨B, 0, none⟩)] (Value.int .i64) (fun y => decide (y = x)) w := fun W y hb => del_gives x y B W ((hb.cell (p := ⟨B, 0, none⟩) hB).trans hx)
  have ho : PredOver Try.prog 34 #[.pointer (some ⟨B, 0, none⟩)] (Value.int .i64) (fun y => decide (y = x)) g 0 ids.toArray.size w := fun n os dk y _ => del_gives x y B _ (by
    unfold sortWorld
    rw [cell?_grow _ _ _ (by show B < (putRow _ _ _ _ _).heap.size; rw [size_putRow]; exact hB), cell?_putRow_other _ _ g 0 _ _ (Or.inl hne)]
    exact hx)
  have hcon := AnyE.slices_DeleteFunc Try.delLay (Value.int .i64) (fun _ => rfl) (fun y => decide (y = x)) 34 #[.pointer (some ⟨B, 0, none⟩)] eg 0 Try.zeroValue3 g 0 cap ids.toArray w hp ho hH (by simp; simp only [maxLen] at hcap; omega) (by simpa using hl)
  change Calls Try.prog 33 _ _ _ at hcon
  simp only [List.size_toArray] at hcon
  refine hcon.mono ?_
  rintro e w' ⟨rfl, q, rfl⟩
  have hfl : (ids.filter fun y => !decide (y = x)).length ≤ ids.length := List.length_filter_le _ _
  generalize (ids.filter fun y => !decide (y = x)) = F at hfl ⊢
  have hTl : (F ++ List.replicate (ids.length - F.length) (0 : Int)).length = ids.length := by rw [List.length_append, List.length_replicate]; omega
  have hgr := grownBy_sortedI (w := w) (g := g) (n := q) (os := #[]) (F ++ List.replicate (ids.length - F.length) (0 : Int)).toArray
  have hh := heap_sortedI (n := q) (os := #[]) (F ++ List.replicate (ids.length - F.length) (0 : Int)).toArray hg
  rw [grow_empty] at hgr hh
  have ht := take_putCellsI cur (F ++ List.replicate (ids.length - F.length) (0 : Int)) (by rw [hTl]; omega)
  refine ⟨rfl, ⟨by simp, .inr ⟨g, cap, _, rfl, Nat.zero_le _, hh, by omega, hcap, by simp [putCells, hsz], ?_⟩⟩, ⟨hgr.os, hgr.tape, hgr.output, hgr.size, fun k hk hn => hgr.block k hk (fun e => hn (by injection e))⟩⟩
  have h2 := congrArg (List.take F.length) ht
  rw [List.take_take, hTl, Nat.min_eq_left hfl, List.map_append, List.take_append_of_le_length (by simp)] at h2
  rw [Nat.mul_one, h2]
  exact List.take_of_length_le (by simp)
end Go.Proofs

namespace Go.Proofs
open Go.RowKit Go.Proofs.Hd Go.Lib
attribute [local go_sem] uv_nonneg
set_option maxRecDepth 100000 in
set_option maxHeartbeats 4000000 in
/-- A number less at a leaf. -/
theorem wo_leaf (x : Int) (c d : Cb) (B : Nat) (ids : List Int) (u : Value) (w : World) (h0 : ids ≠ []) (hL : LfAt w B d ids u) :
    Calls Try.prog 23 #[.pointer (some ⟨B, 0, none⟩), .int .i64 x, .agg #[.int .u64 (uv c.vh), .int .u64 (uv c.vl), .int .u64 (uv c.ch), .int .u64 (uv c.cl)]] w fun e w' => ∃ v', e = .returned v' ∧ Ch (fun k => k = B ∨ u.ownBlock = some k) w w' ∧
      (((ids.filter fun y => !decide (y = x)).length = 0 ∧ v' = .pointer none) ∨ ((ids.filter fun y => !decide (y = x)).length ≠ 0 ∧ v' = ptrV B ∧ ∃ u', LfAt w' B d (ids.filter fun y => !decide (y = x)) u' ∧ u'.ownBlock = u.ownBlock)) := by
  obtain ⟨hN, hO⟩ := hL
  obtain ⟨g, cap, cur, rfl, hg, hnc, hcm, hcs, htk⟩ : ∃ g cap cur, u = .slice (some ⟨g, 0, none⟩) ids.length cap ∧ w.heap[g]? = some (.cells cur 3 (0, 0)) ∧ ids.length ≤ cap ∧ cap ≤ maxLen ∧ cur.size = cap ∧ cur.toList.take ids.length = ids.map (.int .i64) := by
    rcases hO.2 with ⟨_, h⟩ | ⟨g, cap, cur, h1, _, h2, h3, h4, h5, h6⟩
    · exact absurd (List.eq_nil_of_length_eq_zero h) h0
    · exact ⟨g, cap, cur, h1, h2, h3, h4, by omega, by rw [Nat.mul_one] at h6; exact h6⟩
  have hgl : g < w.heap.size := (Array.getElem?_eq_some_iff.1 hg).1
  have hgB : some B ≠ (Value.slice (some ⟨g, 0, none⟩) ids.length cap).ownBlock := own_apart hO hN (by decide)
  have hgB2 : B ≠ g := fun e => hgB (by rw [e]; rfl)
  have hb1 := below2 w (.cells #[.int .i64 x] 3) (.cells #[.int .u64 (uv c.vh), .int .u64 (uv c.vl), .int .u64 (uv c.ch), .int .u64 (uv c.cl)] 27)
  have HI : Hid (Blk ((w.alloc (.cells #[.int .i64 x] 3)).alloc (.cells #[.int .u64 (uv c.vh), .int .u64 (uv c.vl), .int .u64 (uv c.ch), .int .u64 (uv c.cl)] 27)) w.heap.size 3 #[.int .i64 x]) := (Blk.new w _ _).on (below1 _ _)
  have HX : Hid (Blk ((w.alloc (.cells #[.int .i64 x] 3)).alloc (.cells #[.int .u64 (uv c.vh), .int .u64 (uv c.vl), .int .u64 (uv c.ch), .int .u64 (uv c.cl)] 27)) (w.heap.size + 1) 27 #[.int .u64 (uv c.vh), .int .u64 (uv c.vl), .int .u64 (uv c.ch), .int .u64 (uv c.cl)]) := by
    have h := Blk.new (w.alloc (.cells #[.int .i64 x] 3)) 27 #[.int .u64 (uv c.vh), .int .u64 (uv c.vl), .int .u64 (uv c.ch), .int .u64 (uv c.cl)]
    show Blk _ _ _ _
    simpa using h
  have hg2 : ((w.alloc (.cells #[.int .i64 x] 3)).alloc (.cells #[.int .u64 (uv c.vh), .int .u64 (uv c.vl), .int .u64 (uv c.ch), .int .u64 (uv c.cl)] 27)).heap[g]? = some (.cells cur 3 (0, 0)) := (hb1.block g hgl).trans hg
  have hcon := delete_c x w.heap.size g cap ids cur ((w.alloc (.cells #[.int .i64 x] 3)).alloc (.cells #[.int .u64 (uv c.vh), .int .u64 (uv c.vl), .int .u64 (uv c.ch), .int .u64 (uv c.cl)] 27)) (by simp; omega) (by omega) ((HI.out.cell 0).trans rfl) hg2 hcs hnc hcm htk
  have hN1 := hN.on hb1
  have HN := Lib.hid hN1
  have HS := Lib.hid hb1
  have HGL := Lib.hid (And.intro hgl (And.intro hN.lt hgB2))
  have d0 := (hN1.cell 0).trans rfl
  have d8 := (hN1.cell 8).trans rfl
  unfold ndCells at d0 d8
  simp only [List.getElem?_toArray, List.getElem?_cons_succ, List.getElem?_cons_zero] at d0 d8
  have HC := Lib.hid hcon
  clear hN1 hb1 hN hO hg hg2 htk hcs hgB hgB2 hgl hcon h0 HX HI
  go_enter Try.func23, Try.ntmps23
  go_upto_region 1 with (fail)
  generalize ((w.alloc (.cells #[.int .i64 x] 3)).alloc (.cells #[.int .u64 (uv c.vh), .int .u64 (uv c.vl), .int .u64 (uv c.ch), .int .u64 (uv c.cl)] 27)) = w1 at HN HS HC d0 d8 ⊢
  go_wp2_with fail
  (with_reducible refine HC.out.mono ?_)
  rintro e w2 ⟨rfl, hO2, hch⟩
  generalize hFF : (ids.filter fun y => !decide (y = x)) = F at hO2 ⊢
  have hN2 := hch.blk HN.out (fun e => HGL.out.2.2 e)
  have k8 := (hN2.cell 8).trans rfl
  have g8 := hN2.free 8
  unfold ndCells at k8
  simp only [List.getElem?_toArray, List.getElem?_cons_succ, List.getElem?_cons_zero] at k8
  have HN3 := Lib.hid (hN2.set 8 (.slice (some ⟨g, 0, none⟩) F.length cap))
  have HO3 := Lib.hid (ownsRow_setCell_other (a := ⟨B, 8, none⟩) hO2 (fun e => own_apart hO2 hN2 (by decide) e.symm) (.slice (some ⟨g, 0, none⟩) F.length cap))
  have HC3 : Hid (Ch (fun k => k = B ∨ (Value.slice (some ⟨g, 0, none⟩) ids.length cap).ownBlock = some k) w (w2.setCell ⟨B, 8, none⟩ (.slice (some ⟨g, 0, none⟩) F.length cap))) :=
    ((Ch.of_below HS.out).trans (hch.mono fun k _ hk => .inr (by rw [hk]; rfl))).trans ((Ch.set w2 ⟨B, 8, none⟩ _).mono fun k _ hk => .inl hk)
  have HM : Hid (F.length ≤ F.length) := Nat.le_refl _
  have HFF := Lib.hid hFF
  clear hN2 hch hO2 d0 d8 HC HN hFF HM
  by_cases hz : F.length = 0
  · have hzz : ((F.length : Int) == 0) = true := by rw [hz]; rfl
    have HZ := Lib.hid hz
    obtain ⟨m, hm⟩ : ∃ m, F.length = m := ⟨_, rfl⟩
    have HMM := Lib.hid hm
    rw [hm] at HN3 HC3 HO3 hzz ⊢
    clear hz hm
    go_wp2
    go_ret
    exact ⟨.pointer none, rfl, HC3.out, .inl ⟨by rw [HFF.out]; exact HZ.out, rfl⟩⟩
  · have hzz : ((F.length : Int) == 0) = false := by simp only [beq_eq_false_iff_ne]; omega
    have HZ := Lib.hid hz
    obtain ⟨m, hm⟩ : ∃ m, F.length = m := ⟨_, rfl⟩
    have HMM := Lib.hid hm
    rw [hm] at HN3 HC3 HO3 hzz ⊢
    clear hz hm
    go_wp2
    go_ret
    refine ⟨ptrV B, rfl, HC3.out, .inr ⟨by rw [HFF.out]; exact HZ.out, rfl, .slice (some ⟨g, 0, none⟩) m cap, ⟨HN3.out, ?_⟩, rfl⟩⟩
    rw [HFF.out, HMM.out]
    exact HO3.out
set_option maxRecDepth 100000 in
set_option maxHeartbeats 4000000 in
/-- A number less below a node. -/
theorem wo_nd (x : Int) (c : Cb) (a : Nat) (s : Cb) (b : Nat → Pt) (B : Nat) (vs : Nat → Value) (Ss : Nat → Nat → Prop) (S : Nat → Prop) (t' : Pt) (w : World) (ha : a < 128) (hcn : 1 ≤ cntB (upd b (lt3 c a) t'))
    (hN : Blk w B 73 (ndCells (a : Int) (vs 0) (vs 1) (vs 2) s (.slice none 0 0))) (hT : ∀ k, k < 3 → TrAt w (b k) (vs k) (Ss k)) (hs : Sep B Ss) (hS : ∀ x, S x ↔ x = B ∨ ∃ k, k < 3 ∧ Ss k x)
    (ih : ∀ W, TrAt W (b (lt3 c a)) (vs (lt3 c a)) (Ss (lt3 c a)) → Calls Try.prog 23 #[vs (lt3 c a), .int .i64 x, .agg #[.int .u64 (uv c.vh), .int .u64 (uv c.vl), .int .u64 (uv c.ch), .int .u64 (uv c.cl)]] W (TreeTo W t' (Ss (lt3 c a)))) :
    Calls Try.prog 23 #[.pointer (some ⟨B, 0, none⟩), .int .i64 x, .agg #[.int .u64 (uv c.vh), .int .u64 (uv c.vl), .int .u64 (uv c.ch), .int .u64 (uv c.cl)]] w (TreeTo w (prune a (upd b (lt3 c a) t')) S) := by
  have hne : ((a : Int) == -1) = false := by simp only [beq_eq_false_iff_ne]; omega
  have hk := lt3_lt c a
  have HL : Hid (∀ W, Calls Try.prog 32 #[.agg #[.int .u64 (uv c.vh), .int .u64 (uv c.vl), .int .u64 (uv c.ch), .int .u64 (uv c.cl)], .int .i64 (a : Int)] W fun e w' => e = .returned (.int .i64 ((lt3 c a : Nat) : Int)) ∧ Below W.heap.size W w') := lett_c c a ha _ rfl
  have HIH := Lib.hid ih
  have HCN := Lib.hid hcn
  clear ih hcn
  generalize lt3 c a = k at *
  have hkz : (k : Int) < 3 := by omega
  clear ha
  have hb1 := below2 w (.cells #[.int .i64 x] 3) (.cells #[.int .u64 (uv c.vh), .int .u64 (uv c.vl), .int .u64 (uv c.ch), .int .u64 (uv c.cl)] 27)
  have HI : Hid (Blk ((w.alloc (.cells #[.int .i64 x] 3)).alloc (.cells #[.int .u64 (uv c.vh), .int .u64 (uv c.vl), .int .u64 (uv c.ch), .int .u64 (uv c.cl)] 27)) w.heap.size 3 #[.int .i64 x]) := (Blk.new w _ _).on (below1 _ _)
  have HX : Hid (Blk ((w.alloc (.cells #[.int .i64 x] 3)).alloc (.cells #[.int .u64 (uv c.vh), .int .u64 (uv c.vl), .int .u64 (uv c.ch), .int .u64 (uv c.cl)] 27)) (w.heap.size + 1) 27 #[.int .u64 (uv c.vh), .int .u64 (uv c.vl), .int .u64 (uv c.ch), .int .u64 (uv c.cl)]) := by
    have h := Blk.new (w.alloc (.cells #[.int .i64 x] 3)) 27 #[.int .u64 (uv c.vh), .int .u64 (uv c.vl), .int .u64 (uv c.ch), .int .u64 (uv c.cl)]
    show Blk _ _ _ _
    simpa using h
  have HN := Lib.hid (hN.on hb1)
  have HT1 := Lib.hid (fun k hk => (hT k hk).on hb1 : ∀ k, k < 3 → TrAt _ (b k) (vs k) (Ss k))
  have HS := Lib.hid hb1
  have HSEP := Lib.hid hs
  have HSS := Lib.hid hS
  have d0 := ((hN.on hb1).cell 0).trans rfl
  unfold ndCells at d0
  simp only [List.getElem?_toArray, List.getElem?_cons_zero] at d0
  clear hb1 hN hT hs hS
  go_enter Try.func23, Try.ntmps23
  go_upto_region 1 with (fail)
  generalize ((w.alloc (.cells #[.int .i64 x] 3)).alloc (.cells #[.int .u64 (uv c.vh), .int .u64 (uv c.vl), .int .u64 (uv c.ch), .int .u64 (uv c.cl)] 27)) = w1 at HX HI HN HS HT1 d0 ⊢
  generalize hbx : w.heap.size + 1 = bx at HX ⊢
  clear hbx
  generalize hbi : w.heap.size = bi at HI HS ⊢
  have HE := Lib.hid hbi
  clear hbi
  have HKP : Hid (∀ W, Below w1.heap.size w1 W → (Below w1.heap.size w1 W ∧ W.cell? ⟨bx, 0, none⟩ = some (.int .u64 (uv c.vh)) ∧ W.cell? ⟨bx, 1, none⟩ = some (.int .u64 (uv c.vl)) ∧ W.cell? ⟨bx, 2, none⟩ = some (.int .u64 (uv c.ch)) ∧ W.cell? ⟨bx, 3, none⟩ = some (.int .u64 (uv c.cl)) ∧ W.cell? ⟨B, 0, none⟩ = some (.int .i64 (a : Int)))) := fun W hb => ⟨hb, ((HX.out.on hb).cell 0).trans rfl, ((HX.out.on hb).cell 1).trans rfl, ((HX.out.on hb).cell 2).trans rfl, ((HX.out.on hb).cell 3).trans rfl, ((HN.out.on hb).cell 0).trans rfl⟩
  go_upto_region 6 with (fail)
  go_cut [7] (fun s7 wc => s7 = .pointer (some ⟨B, 1 + k, none⟩) ∧ Below w1.heap.size w1 wc)
  case first =>
    have hB0 := Below.refl w1.heap.size w1
    clear d0
    refine wp_region_held_drew (S := fun w' => Below w1.heap.size w1 w' ∧ w'.cell? ⟨bx, 0, none⟩ = some (.int .u64 (uv c.vh)) ∧ w'.cell? ⟨bx, 1, none⟩ = some (.int .u64 (uv c.vl)) ∧ w'.cell? ⟨bx, 2, none⟩ = some (.int .u64 (uv c.ch)) ∧ w'.cell? ⟨bx, 3, none⟩ = some (.int .u64 (uv c.cl)) ∧ w'.cell? ⟨B, 0, none⟩ = some (.int .i64 (a : Int))) (by kernel_rfl) (HKP.out _ hB0.drew) (fun hHeld => ?_)
    have hB := hB0.drew
    clear hB0
    generalize w1.drew = u0 at hHeld hB ⊢
    refine wpAnyH_take (i := 0) (oi := ⟨some 29, _, _, _, _, _⟩) (v := ?vxf0_1) rfl (by kernel_rfl) (by kernel_rfl) (by kernel_rfl) (fun _ _ _ h => h) (Or.inl ⟨by rfl, ?yxf0_1⟩) hHeld ?rxf0_1
    case yxf0_1 => (intro w' hSw; (try dsimp only at hSw); go_simp; try (with_reducible rfl))
    simp only [Act.put, List.setIfInBounds_toArray, List.set_cons_zero, List.set_cons_succ]
    refine wpAnyH_take (i := 1) (oi := ⟨some 30, _, _, _, _, _⟩) (v := ?vxf1_2) rfl (by kernel_rfl) (by kernel_rfl) (by kernel_rfl) (fun _ _ _ h => h) (Or.inl ⟨by rfl, ?yxf1_2⟩) hHeld ?rxf1_2
    case yxf1_2 => (intro w' hSw; (try dsimp only at hSw); go_simp; try (with_reducible rfl))
    simp only [Act.put, List.setIfInBounds_toArray, List.set_cons_zero, List.set_cons_succ]
    refine wpAnyH_take (i := 2) (oi := ⟨some 31, _, _, _, _, _⟩) (v := ?vxf2_3) rfl (by kernel_rfl) (by kernel_rfl) (by kernel_rfl) (fun _ _ _ h => h) (Or.inl ⟨by rfl, ?yxf2_3⟩) hHeld ?rxf2_3
    case yxf2_3 => (intro w' hSw; (try dsimp only at hSw); go_simp; try (with_reducible rfl))
    simp only [Act.put, List.setIfInBounds_toArray, List.set_cons_zero, List.set_cons_succ]
    refine wpAnyH_take (i := 3) (oi := ⟨some 32, _, _, _, _, _⟩) (v := ?vxf3_4) rfl (by kernel_rfl) (by kernel_rfl) (by kernel_rfl) (fun _ _ _ h => h) (Or.inl ⟨by rfl, ?yxf3_4⟩) hHeld ?rxf3_4
    case yxf3_4 => (intro w' hSw; (try dsimp only at hSw); go_simp; try (with_reducible rfl))
    simp only [Act.put, List.setIfInBounds_toArray, List.set_cons_zero, List.set_cons_succ]
    refine wpAnyH_take (i := 4) (oi := ⟨some 33, _, _, _, _, _⟩) (v := ?vxf4_5) rfl (by kernel_rfl) (by kernel_rfl) (by kernel_rfl) (fun _ _ _ h => h) (Or.inl ⟨by rfl, ?yxf4_5⟩) hHeld ?rxf4_5
    case yxf4_5 => (intro w' hSw; (try dsimp only at hSw); go_simp; try (with_reducible rfl))
    simp only [Act.put, List.setIfInBounds_toArray, List.set_cons_zero, List.set_cons_succ]
    refine wpAnyH_take (i := 5) (oi := ⟨some 34, _, _, _, _, _⟩) (v := ?vxf5_6) rfl (by kernel_rfl) (by kernel_rfl) (by kernel_rfl) (fun _ _ _ h => h) (Or.inl ⟨by rfl, ?yxf5_6⟩) hHeld ?rxf5_6
    case yxf5_6 => (intro w' hSw; (try dsimp only at hSw); go_simp; try (with_reducible rfl))
    simp only [Act.put, List.setIfInBounds_toArray, List.set_cons_zero, List.set_cons_succ]
    refine wpAnyH_take (i := 7) (oi := ⟨some 36, _, _, _, _, _⟩) (v := ?vxf7_7) rfl (by kernel_rfl) (by kernel_rfl) (by kernel_rfl) (fun _ _ _ h => h) (Or.inl ⟨by rfl, ?yxf7_7⟩) hHeld ?rxf7_7
    case yxf7_7 => (intro w' hSw; (try dsimp only at hSw); go_simp; try (with_reducible rfl))
    simp only [Act.put, List.setIfInBounds_toArray, List.set_cons_zero, List.set_cons_succ]
    refine wpAnyH_take (i := 8) (oi := ⟨some 37, _, _, _, _, _⟩) (v := ?vxf8_8) rfl (by kernel_rfl) (by kernel_rfl) (by kernel_rfl) (fun _ _ _ h => h) (Or.inl ⟨by rfl, ?yxf8_8⟩) hHeld ?rxf8_8
    case yxf8_8 => (intro w' hSw; (try dsimp only at hSw); go_simp; try (with_reducible rfl))
    simp only [Act.put, List.setIfInBounds_toArray, List.set_cons_zero, List.set_cons_succ]
    refine wpAnyH_ready (rs := [6]) (by kernel_rfl) (by simp) ?_
    refine AllReadyH.cons (o := ⟨some 35, _, _, _, _, _⟩) rfl (fun K hK => ?_) AllReadyH.nil
    go_simp
    (with_reducible refine (HL.out _).mono ?_)
    rintro e u1 ⟨rfl, hb⟩
    (try dsimp only)
    have hB2 := hB.trans (hb.mono hB.size)
    refine hK.out _ _ (HKP.out _ hB2) (fun hNext => ?_)
    clear hK K hHeld
    have hHeld := hNext
    clear hNext
    clear hB
    have hB := hB2
    clear hB2 hb
    try simp only [Act.put, List.setIfInBounds_toArray, List.set_cons_zero, List.set_cons_succ]
    refine wpAnyH_take (i := 9) (oi := ⟨some 38, _, _, _, _, _⟩) (v := ?vxf9_9) rfl (by kernel_rfl) (by kernel_rfl) (by kernel_rfl) (fun _ _ _ h => h) (Or.inl ⟨by rfl, ?yxf9_9⟩) hHeld ?rxf9_9
    case yxf9_9 => (intro w' hSw; (try dsimp only at hSw); go_simp; try (with_reducible rfl))
    simp only [Act.put, List.setIfInBounds_toArray, List.set_cons_zero, List.set_cons_succ]
    refine wpAnyH_take (i := 10) (oi := ⟨some 7, _, _, _, _, _⟩) (v := ?vxf10_10) rfl (by kernel_rfl) (by kernel_rfl) (by kernel_rfl) (fun _ _ _ h => h) (Or.inl ⟨by rfl, ?yxf10_10⟩) hHeld ?rxf10_10
    case yxf10_10 => (intro w' hSw; (try dsimp only at hSw); go_simp; try (with_reducible rfl))
    simp only [Act.put, List.setIfInBounds_toArray, List.set_cons_zero, List.set_cons_succ]
    refine wpAnyH_done (by kernel_rfl) ?_ _
    go_wp2_with fail
    go_meet
    exact ⟨rfl, hB⟩
  case rest =>
    obtain ⟨rfl, hB3⟩ := hcut
    have hs1 := HS.out
    rw [← HE.out] at hs1
    have hN := HN.out.on hB3
    have HXq := Lib.hid (HX.out.on hB3)
    have HIq := Lib.hid (HI.out.on hB3)
    have HT := Lib.hid (fun k hk => (HT1.out k hk).on hB3 : ∀ k, k < 3 → TrAt _ (b k) (vs k) (Ss k))
    have HCW : Hid (Ch S w wc) := (Ch.of_below hs1).trans (Ch.of_below hB3)
    have HZ : Hid (w.heap.size ≤ wc.heap.size) := Nat.le_trans hs1.size hB3.size
    clear hB3 HKP HX HI d0 HN HT1 hs1
    go_upto_region 7 with (fail)
    go_cut [] (fun wd => ∃ (v' : Value) (S' : Nat → Prop), (∀ j, j < 3 → TrAt wd (upd b k t' j) (updV vs k v' j) (updS Ss k S' j)) ∧ Sep B (updS Ss k S') ∧ Blk wd B 73 (ndCells (a : Int) (updV vs k v' 0) (updV vs k v' 1) (updV vs k v' 2) s (.slice none 0 0)) ∧ (∀ x, (x = B ∨ ∃ j, j < 3 ∧ updS Ss k S' j x) → S x ∨ wc.heap.size ≤ x) ∧ Ch S wc wd)
    case first =>
      have hbd := (Below.refl wc.heap.size wc).drew
      replace hN := hN.on hbd
      have HX := Lib.hid (HXq.out.on hbd)
      have HI := Lib.hid (HIq.out.on hbd)
      have HT1 := Lib.hid (fun k hk => (HT.out k hk).on hbd : ∀ k, k < 3 → TrAt _ (b k) (vs k) (Ss k))
      have HCD : Hid (Ch S wc wc.drew ∧ wc.heap.size ≤ wc.drew.heap.size) := ⟨Ch.of_below hbd, hbd.size⟩
      clear hbd HXq HIq HT
      have HT := HT1
      clear HT1
      refine wp_region_held_drew (S := fun _ => True) (by kernel_rfl) trivial (fun hHeld => ?_)
      generalize wc.drew = u0 at hHeld hN HX HI HT HCD ⊢
      refine wpAnyH_take (i := 0) (oi := ⟨some 39, _, _, _, _, _⟩) (v := ?vxg0_1) rfl (by kernel_rfl) (by kernel_rfl) (by kernel_rfl) (fun _ _ _ h => h) (Or.inl ⟨by rfl, ?yxg0_1⟩) hHeld ?rxg0_1
      case yxg0_1 => (intro w' hSw; (try dsimp only at hSw); go_simp; try (with_reducible rfl))
      simp only [Act.put, List.setIfInBounds_toArray, List.set_cons_zero, List.set_cons_succ]
      refine wpAnyH_take (i := 1) (oi := ⟨some 40, _, _, _, _, _⟩) (v := ?vxg1_2) rfl (by kernel_rfl) (by kernel_rfl) (by kernel_rfl) (fun _ _ _ h => h) (Or.inl ⟨by rfl, ?yxg1_2⟩) hHeld ?rxg1_2
      case yxg1_2 => (intro w' hSw; (try dsimp only at hSw); go_simp; try (with_reducible rfl))
      simp only [Act.put, List.setIfInBounds_toArray, List.set_cons_zero, List.set_cons_succ]
      refine wpAnyH_take (i := 2) (oi := ⟨some 41, _, _, _, _, _⟩) (v := ?vxg2_3) rfl (by kernel_rfl) (by kernel_rfl) (by kernel_rfl) (fun _ _ _ h => h) (Or.inl ⟨by rfl, ?yxg2_3⟩) hHeld ?rxg2_3
      case yxg2_3 => (intro w' hSw; (try dsimp only at hSw); go_simp; try (with_reducible rfl))
      simp only [Act.put, List.setIfInBounds_toArray, List.set_cons_zero, List.set_cons_succ]
      refine wpAnyH_ready (rs := [3, 4, 5]) (by kernel_rfl) (by simp) ?_
      refine AllReadyH.cons (o := ⟨some 42, _, _, _, _, _⟩) rfl (fun K hK => ?_) ?_
      · have kA := (hN.cell (1 + k)).trans (nd_get hk)
        go_simp
        refine hK.out _ _ trivial (fun hNext => ?_)
        clear hK K hHeld
        have hHeld := hNext
        clear hNext
        clear kA
        try simp only [Act.put, List.setIfInBounds_toArray, List.set_cons_zero, List.set_cons_succ]
        refine wpAnyH_ready (rs := [4, 5]) (by kernel_rfl) (by simp) ?_
        refine AllReadyH.cons (o := ⟨some 43, _, _, _, _, _⟩) rfl (fun K hK => ?_) ?_
        · have x0 := (HI.out.cell 0).trans rfl
          simp only [List.getElem?_toArray, List.getElem?_cons_zero] at x0
          go_simp
          refine hK.out _ _ trivial (fun hNext => ?_)
          clear hK K hHeld
          have hHeld := hNext
          clear hNext
          clear x0
          try simp only [Act.put, List.setIfInBounds_toArray, List.set_cons_zero, List.set_cons_succ]
          refine wpAnyH_ready (rs := [5]) (by kernel_rfl) (by simp) ?_
          refine AllReadyH.cons (o := ⟨some 44, _, _, _, _, _⟩) rfl (fun K hK => ?_) AllReadyH.nil
          have x0 := (HX.out.cell 0).trans rfl
          have x1 := (HX.out.cell 1).trans rfl
          have x2 := (HX.out.cell 2).trans rfl
          have x3 := (HX.out.cell 3).trans rfl
          simp only [List.getElem?_toArray, List.getElem?_cons_succ, List.getElem?_cons_zero] at x0 x1 x2 x3
          go_simp
          refine hK.out _ _ trivial (fun hNext => ?_)
          clear hK K hHeld
          have hHeld := hNext
          clear hNext
          clear x0 x1 x2 x3
          try simp only [Act.put, List.setIfInBounds_toArray, List.set_cons_zero, List.set_cons_succ]
          refine wpAnyH_ready (rs := [6]) (by kernel_rfl) (by simp) ?_
          refine AllReadyH.cons (o := ⟨some 45, _, _, _, _, _⟩) rfl (fun K hK => ?_) AllReadyH.nil
          go_simp
          (with_reducible refine (HIH.out _ (HT.out k hk)).mono ?_)
          rintro e u1 ⟨v', S', rfl, hT', hn', hc'⟩
          (try dsimp only)
          refine hK.out _ _ trivial (fun hNext => ?_)
          clear hK K hHeld
          have hHeld := hNext
          clear hNext
          have HT2 := Lib.hid hT'
          have HN2 := Lib.hid hn'
          have HC2 := Lib.hid hc'
          clear hT' hn' hc'
          try simp only [Act.put, List.setIfInBounds_toArray, List.set_cons_zero, List.set_cons_succ]
          refine wpAnyH_take (i := 7) (oi := ⟨some 46, _, _, _, _, _⟩) (v := ?vxg7_4) rfl (by kernel_rfl) (by kernel_rfl) (by kernel_rfl) (fun _ _ _ h => h) (Or.inl ⟨by rfl, ?yxg7_4⟩) hHeld ?rxg7_4
          case yxg7_4 => (intro w' hSw; (try dsimp only at hSw); go_simp; try (with_reducible rfl))
          simp only [Act.put, List.setIfInBounds_toArray, List.set_cons_zero, List.set_cons_succ]
          refine wpAnyH_ready (rs := [8]) (by kernel_rfl) (by simp) ?_
          refine AllReadyH.cons (o := ⟨none, _, _, _, _, _⟩) rfl (fun K hK => ?_) AllReadyH.nil
          obtain ⟨p', hp'⟩ := HT2.out.ptr
          subst hp'
          have hA := HC2.out.blk hN (HSEP.out.out k hk)
          have kA := (hA.cell (1 + k)).trans (nd_get hk)
          have gA := hA.free (1 + k)
          go_simp
          clear kA gA hA
          refine hK.out _ _ trivial (fun hNext => ?_)
          clear hK K hHeld
          have hHeld := hNext
          clear hNext
          have HR := Lib.hid (TrAt.branch hk hN HT.out HSEP.out HSS.out HT2.out HN2.out HC2.out (rfl : u1.setCell ⟨B, 1 + k, none⟩ (.pointer p') = _))
          generalize u1.setCell ⟨B, 1 + k, none⟩ (.pointer p') = u2 at HR ⊢
          try simp only [Act.put]
          refine wpAnyH_done (by kernel_rfl) ?_ _
          clear HT2 HN2 HC2 hN HT HX HI HIH
          go_wp2_with fail
          go_meet
          obtain ⟨q1, q2, q3, q4, q5⟩ := HR.out
          exact ⟨_, _, q1, q2, q3, fun y hy => (q4 y hy).imp_right fun h => Nat.le_trans HCD.out.2 h, HCD.out.1.trans q5⟩
        refine AllReadyH.cons (o := ⟨some 44, _, _, _, _, _⟩) rfl (fun K hK => ?_) AllReadyH.nil
        have x0 := (HX.out.cell 0).trans rfl
        have x1 := (HX.out.cell 1).trans rfl
        have x2 := (HX.out.cell 2).trans rfl
        have x3 := (HX.out.cell 3).trans rfl
        simp only [List.getElem?_toArray, List.getElem?_cons_succ, List.getElem?_cons_zero] at x0 x1 x2 x3
        go_simp
        refine hK.out _ _ trivial (fun hNext => ?_)
        clear hK K hHeld
        have hHeld := hNext
        clear hNext
        clear x0 x1 x2 x3
        try simp only [Act.put, List.setIfInBounds_toArray, List.set_cons_zero, List.set_cons_succ]
        refine wpAnyH_ready (rs := [4]) (by kernel_rfl) (by simp) ?_
        refine AllReadyH.cons (o := ⟨some 43, _, _, _, _, _⟩) rfl (fun K hK => ?_) AllReadyH.nil
        have x0 := (HI.out.cell 0).trans rfl
        simp only [List.getElem?_toArray, List.getElem?_cons_zero] at x0
        go_simp
        refine hK.out _ _ trivial (fun hNext => ?_)
        clear hK K hHeld
        have hHeld := hNext
        clear hNext
        clear x0
        try simp only [Act.put, List.setIfInBounds_toArray, List.set_cons_zero, List.set_cons_succ]
        refine wpAnyH_ready (rs := [6]) (by kernel_rfl) (by simp) ?_
        refine AllReadyH.cons (o := ⟨some 45, _, _, _, _, _⟩) rfl (fun K hK => ?_) AllReadyH.nil
        go_simp
        (with_reducible refine (HIH.out _ (HT.out k hk)).mono ?_)
        rintro e u3 ⟨v', S', rfl, hT', hn', hc'⟩
        (try dsimp only)
        refine hK.out _ _ trivial (fun hNext => ?_)
        clear hK K hHeld
        have hHeld := hNext
        clear hNext
        have HT2 := Lib.hid hT'
        have HN2 := Lib.hid hn'
        have HC2 := Lib.hid hc'
        clear hT' hn' hc'
        try simp only [Act.put, List.setIfInBounds_toArray, List.set_cons_zero, List.set_cons_succ]
        refine wpAnyH_take (i := 7) (oi := ⟨some 46, _, _, _, _, _⟩) (v := ?vxg7_5) rfl (by kernel_rfl) (by kernel_rfl) (by kernel_rfl) (fun _ _ _ h => h) (Or.inl ⟨by rfl, ?yxg7_5⟩) hHeld ?rxg7_5
        case yxg7_5 => (intro w' hSw; (try dsimp only at hSw); go_simp; try (with_reducible rfl))
        simp only [Act.put, List.setIfInBounds_toArray, List.set_cons_zero, List.set_cons_succ]
        refine wpAnyH_ready (rs := [8]) (by kernel_rfl) (by simp) ?_
        refine AllReadyH.cons (o := ⟨none, _, _, _, _, _⟩) rfl (fun K hK => ?_) AllReadyH.nil
        obtain ⟨p', hp'⟩ := HT2.out.ptr
        subst hp'
        have hA := HC2.out.blk hN (HSEP.out.out k hk)
        have kA := (hA.cell (1 + k)).trans (nd_get hk)
        have gA := hA.free (1 + k)
        go_simp
        clear kA gA hA
        refine hK.out _ _ trivial (fun hNext => ?_)
        clear hK K hHeld
        have hHeld := hNext
        clear hNext
        have HR := Lib.hid (TrAt.branch hk hN HT.out HSEP.out HSS.out HT2.out HN2.out HC2.out (rfl : u3.setCell ⟨B, 1 + k, none⟩ (.pointer p') = _))
        generalize u3.setCell ⟨B, 1 + k, none⟩ (.pointer p') = u4 at HR ⊢
        try simp only [Act.put]
        refine wpAnyH_done (by kernel_rfl) ?_ _
        clear HT2 HN2 HC2 hN HT HX HI HIH
        go_wp2_with fail
        go_meet
        obtain ⟨q1, q2, q3, q4, q5⟩ := HR.out
        exact ⟨_, _, q1, q2, q3, fun y hy => (q4 y hy).imp_right fun h => Nat.le_trans HCD.out.2 h, HCD.out.1.trans q5⟩
      refine AllReadyH.cons (o := ⟨some 43, _, _, _, _, _⟩) rfl (fun K hK => ?_) ?_
      · have x0 := (HI.out.cell 0).trans rfl
        simp only [List.getElem?_toArray, List.getElem?_cons_zero] at x0
        go_simp
        refine hK.out _ _ trivial (fun hNext => ?_)
        clear hK K hHeld
        have hHeld := hNext
        clear hNext
        clear x0
        try simp only [Act.put, List.setIfInBounds_toArray, List.set_cons_zero, List.set_cons_succ]
        refine wpAnyH_ready (rs := [3, 5]) (by kernel_rfl) (by simp) ?_
        refine AllReadyH.cons (o := ⟨some 42, _, _, _, _, _⟩) rfl (fun K hK => ?_) ?_
        · have kA := (hN.cell (1 + k)).trans (nd_get hk)
          go_simp
          refine hK.out _ _ trivial (fun hNext => ?_)
          clear hK K hHeld
          have hHeld := hNext
          clear hNext
          clear kA
          try simp only [Act.put, List.setIfInBounds_toArray, List.set_cons_zero, List.set_cons_succ]
          refine wpAnyH_ready (rs := [5]) (by kernel_rfl) (by simp) ?_
          refine AllReadyH.cons (o := ⟨some 44, _, _, _, _, _⟩) rfl (fun K hK => ?_) AllReadyH.nil
          have x0 := (HX.out.cell 0).trans rfl
          have x1 := (HX.out.cell 1).trans rfl
          have x2 := (HX.out.cell 2).trans rfl
          have x3 := (HX.out.cell 3).trans rfl
          simp only [List.getElem?_toArray, List.getElem?_cons_succ, List.getElem?_cons_zero] at x0 x1 x2 x3
          go_simp
          refine hK.out _ _ trivial (fun hNext => ?_)
          clear hK K hHeld
          have hHeld := hNext
          clear hNext
          clear x0 x1 x2 x3
          try simp only [Act.put, List.setIfInBounds_toArray, List.set_cons_zero, List.set_cons_succ]
          refine wpAnyH_ready (rs := [6]) (by kernel_rfl) (by simp) ?_
          refine AllReadyH.cons (o := ⟨some 45, _, _, _, _, _⟩) rfl (fun K hK => ?_) AllReadyH.nil
          go_simp
          (with_reducible refine (HIH.out _ (HT.out k hk)).mono ?_)
          rintro e u5 ⟨v', S', rfl, hT', hn', hc'⟩
          (try dsimp only)
          refine hK.out _ _ trivial (fun hNext => ?_)
          clear hK K hHeld
          have hHeld := hNext
          clear hNext
          have HT2 := Lib.hid hT'
          have HN2 := Lib.hid hn'
          have HC2 := Lib.hid hc'
          clear hT' hn' hc'
          try simp only [Act.put, List.setIfInBounds_toArray, List.set_cons_zero, List.set_cons_succ]
          refine wpAnyH_take (i := 7) (oi := ⟨some 46, _, _, _, _, _⟩) (v := ?vxg7_6) rfl (by kernel_rfl) (by kernel_rfl) (by kernel_rfl) (fun _ _ _ h => h) (Or.inl ⟨by rfl, ?yxg7_6⟩) hHeld ?rxg7_6
          case yxg7_6 => (intro w' hSw; (try dsimp only at hSw); go_simp; try (with_reducible rfl))
          simp only [Act.put, List.setIfInBounds_toArray, List.set_cons_zero, List.set_cons_succ]
          refine wpAnyH_ready (rs := [8]) (by kernel_rfl) (by simp) ?_
          refine AllReadyH.cons (o := ⟨none, _, _, _, _, _⟩) rfl (fun K hK => ?_) AllReadyH.nil
          obtain ⟨p', hp'⟩ := HT2.out.ptr
          subst hp'
          have hA := HC2.out.blk hN (HSEP.out.out k hk)
          have kA := (hA.cell (1 + k)).trans (nd_get hk)
          have gA := hA.free (1 + k)
          go_simp
          clear kA gA hA
          refine hK.out _ _ trivial (fun hNext => ?_)
          clear hK K hHeld
          have hHeld := hNext
          clear hNext
          have HR := Lib.hid (TrAt.branch hk hN HT.out HSEP.out HSS.out HT2.out HN2.out HC2.out (rfl : u5.setCell ⟨B, 1 + k, none⟩ (.pointer p') = _))
          generalize u5.setCell ⟨B, 1 + k, none⟩ (.pointer p') = u6 at HR ⊢
          try simp only [Act.put]
          refine wpAnyH_done (by kernel_rfl) ?_ _
          clear HT2 HN2 HC2 hN HT HX HI HIH
          go_wp2_with fail
          go_meet
          obtain ⟨q1, q2, q3, q4, q5⟩ := HR.out
          exact ⟨_, _, q1, q2, q3, fun y hy => (q4 y hy).imp_right fun h => Nat.le_trans HCD.out.2 h, HCD.out.1.trans q5⟩
        refine AllReadyH.cons (o := ⟨some 44, _, _, _, _, _⟩) rfl (fun K hK => ?_) AllReadyH.nil
        have x0 := (HX.out.cell 0).trans rfl
        have x1 := (HX.out.cell 1).trans rfl
        have x2 := (HX.out.cell 2).trans rfl
        have x3 := (HX.out.cell 3).trans rfl
        simp only [List.getElem?_toArray, List.getElem?_cons_succ, List.getElem?_cons_zero] at x0 x1 x2 x3
        go_simp
        refine hK.out _ _ trivial (fun hNext => ?_)
        clear hK K hHeld
        have hHeld := hNext
        clear hNext
        clear x0 x1 x2 x3
        try simp only [Act.put, List.setIfInBounds_toArray, List.set_cons_zero, List.set_cons_succ]
        refine wpAnyH_ready (rs := [3]) (by kernel_rfl) (by simp) ?_
        refine AllReadyH.cons (o := ⟨some 42, _, _, _, _, _⟩) rfl (fun K hK => ?_) AllReadyH.nil
        have kA := (hN.cell (1 + k)).trans (nd_get hk)
        go_simp
        refine hK.out _ _ trivial (fun hNext => ?_)
        clear hK K hHeld
        have hHeld := hNext
        clear hNext
        clear kA
        try simp only [Act.put, List.setIfInBounds_toArray, List.set_cons_zero, List.set_cons_succ]
        refine wpAnyH_ready (rs := [6]) (by kernel_rfl) (by simp) ?_
        refine AllReadyH.cons (o := ⟨some 45, _, _, _, _, _⟩) rfl (fun K hK => ?_) AllReadyH.nil
        go_simp
        (with_reducible refine (HIH.out _ (HT.out k hk)).mono ?_)
        rintro e u7 ⟨v', S', rfl, hT', hn', hc'⟩
        (try dsimp only)
        refine hK.out _ _ trivial (fun hNext => ?_)
        clear hK K hHeld
        have hHeld := hNext
        clear hNext
        have HT2 := Lib.hid hT'
        have HN2 := Lib.hid hn'
        have HC2 := Lib.hid hc'
        clear hT' hn' hc'
        try simp only [Act.put, List.setIfInBounds_toArray, List.set_cons_zero, List.set_cons_succ]
        refine wpAnyH_take (i := 7) (oi := ⟨some 46, _, _, _, _, _⟩) (v := ?vxg7_7) rfl (by kernel_rfl) (by kernel_rfl) (by kernel_rfl) (fun _ _ _ h => h) (Or.inl ⟨by rfl, ?yxg7_7⟩) hHeld ?rxg7_7
        case yxg7_7 => (intro w' hSw; (try dsimp only at hSw); go_simp; try (with_reducible rfl))
        simp only [Act.put, List.setIfInBounds_toArray, List.set_cons_zero, List.set_cons_succ]
        refine wpAnyH_ready (rs := [8]) (by kernel_rfl) (by simp) ?_
        refine AllReadyH.cons (o := ⟨none, _, _, _, _, _⟩) rfl (fun K hK => ?_) AllReadyH.nil
        obtain ⟨p', hp'⟩ := HT2.out.ptr
        subst hp'
        have hA := HC2.out.blk hN (HSEP.out.out k hk)
        have kA := (hA.cell (1 + k)).trans (nd_get hk)
        have gA := hA.free (1 + k)
        go_simp
        clear kA gA hA
        refine hK.out _ _ trivial (fun hNext => ?_)
        clear hK K hHeld
        have hHeld := hNext
        clear hNext
        have HR := Lib.hid (TrAt.branch hk hN HT.out HSEP.out HSS.out HT2.out HN2.out HC2.out (rfl : u7.setCell ⟨B, 1 + k, none⟩ (.pointer p') = _))
        generalize u7.setCell ⟨B, 1 + k, none⟩ (.pointer p') = u8 at HR ⊢
        try simp only [Act.put]
        refine wpAnyH_done (by kernel_rfl) ?_ _
        clear HT2 HN2 HC2 hN HT HX HI HIH
        go_wp2_with fail
        go_meet
        obtain ⟨q1, q2, q3, q4, q5⟩ := HR.out
        exact ⟨_, _, q1, q2, q3, fun y hy => (q4 y hy).imp_right fun h => Nat.le_trans HCD.out.2 h, HCD.out.1.trans q5⟩
      refine AllReadyH.cons (o := ⟨some 44, _, _, _, _, _⟩) rfl (fun K hK => ?_) AllReadyH.nil
      have x0 := (HX.out.cell 0).trans rfl
      have x1 := (HX.out.cell 1).trans rfl
      have x2 := (HX.out.cell 2).trans rfl
      have x3 := (HX.out.cell 3).trans rfl
      simp only [List.getElem?_toArray, List.getElem?_cons_succ, List.getElem?_cons_zero] at x0 x1 x2 x3
      go_simp
      refine hK.out _ _ trivial (fun hNext => ?_)
      clear hK K hHeld
      have hHeld := hNext
      clear hNext
      clear x0 x1 x2 x3
      try simp only [Act.put, List.setIfInBounds_toArray, List.set_cons_zero, List.set_cons_succ]
      refine wpAnyH_ready (rs := [3, 4]) (by kernel_rfl) (by simp) ?_
      refine AllReadyH.cons (o := ⟨some 42, _, _, _, _, _⟩) rfl (fun K hK => ?_) ?_
      · have kA := (hN.cell (1 + k)).trans (nd_get hk)
        go_simp
        refine hK.out _ _ trivial (fun hNext => ?_)
        clear hK K hHeld
        have hHeld := hNext
        clear hNext
        clear kA
        try simp only [Act.put, List.setIfInBounds_toArray, List.set_cons_zero, List.set_cons_succ]
        refine wpAnyH_ready (rs := [4]) (by kernel_rfl) (by simp) ?_
        refine AllReadyH.cons (o := ⟨some 43, _, _, _, _, _⟩) rfl (fun K hK => ?_) AllReadyH.nil
        have x0 := (HI.out.cell 0).trans rfl
        simp only [List.getElem?_toArray, List.getElem?_cons_zero] at x0
        go_simp
        refine hK.out _ _ trivial (fun hNext => ?_)
        clear hK K hHeld
        have hHeld := hNext
        clear hNext
        clear x0
        try simp only [Act.put, List.setIfInBounds_toArray, List.set_cons_zero, List.set_cons_succ]
        refine wpAnyH_ready (rs := [6]) (by kernel_rfl) (by simp) ?_
        refine AllReadyH.cons (o := ⟨some 45, _, _, _, _, _⟩) rfl (fun K hK => ?_) AllReadyH.nil
        go_simp
        (with_reducible refine (HIH.out _ (HT.out k hk)).mono ?_)
        rintro e u9 ⟨v', S', rfl, hT', hn', hc'⟩
        (try dsimp only)
        refine hK.out _ _ trivial (fun hNext => ?_)
        clear hK K hHeld
        have hHeld := hNext
        clear hNext
        have HT2 := Lib.hid hT'
        have HN2 := Lib.hid hn'
        have HC2 := Lib.hid hc'
        clear hT' hn' hc'
        try simp only [Act.put, List.setIfInBounds_toArray, List.set_cons_zero, List.set_cons_succ]
        refine wpAnyH_take (i := 7) (oi := ⟨some 46, _, _, _, _, _⟩) (v := ?vxg7_8) rfl (by kernel_rfl) (by kernel_rfl) (by kernel_rfl) (fun _ _ _ h => h) (Or.inl ⟨by rfl, ?yxg7_8⟩) hHeld ?rxg7_8
        case yxg7_8 => (intro w' hSw; (try dsimp only at hSw); go_simp; try (with_reducible rfl))
        simp only [Act.put, List.setIfInBounds_toArray, List.set_cons_zero, List.set_cons_succ]
        refine wpAnyH_ready (rs := [8]) (by kernel_rfl) (by simp) ?_
        refine AllReadyH.cons (o := ⟨none, _, _, _, _, _⟩) rfl (fun K hK => ?_) AllReadyH.nil
        obtain ⟨p', hp'⟩ := HT2.out.ptr
        subst hp'
        have hA := HC2.out.blk hN (HSEP.out.out k hk)
        have kA := (hA.cell (1 + k)).trans (nd_get hk)
        have gA := hA.free (1 + k)
        go_simp
        clear kA gA hA
        refine hK.out _ _ trivial (fun hNext => ?_)
        clear hK K hHeld
        have hHeld := hNext
        clear hNext
        have HR := Lib.hid (TrAt.branch hk hN HT.out HSEP.out HSS.out HT2.out HN2.out HC2.out (rfl : u9.setCell ⟨B, 1 + k, none⟩ (.pointer p') = _))
        generalize u9.setCell ⟨B, 1 + k, none⟩ (.pointer p') = u10 at HR ⊢
        try simp only [Act.put]
        refine wpAnyH_done (by kernel_rfl) ?_ _
        clear HT2 HN2 HC2 hN HT HX HI HIH
        go_wp2_with fail
        go_meet
        obtain ⟨q1, q2, q3, q4, q5⟩ := HR.out
        exact ⟨_, _, q1, q2, q3, fun y hy => (q4 y hy).imp_right fun h => Nat.le_trans HCD.out.2 h, HCD.out.1.trans q5⟩
      refine AllReadyH.cons (o := ⟨some 43, _, _, _, _, _⟩) rfl (fun K hK => ?_) AllReadyH.nil
      have x0 := (HI.out.cell 0).trans rfl
      simp only [List.getElem?_toArray, List.getElem?_cons_zero] at x0
      go_simp
      refine hK.out _ _ trivial (fun hNext => ?_)
      clear hK K hHeld
      have hHeld := hNext
      clear hNext
      clear x0
      try simp only [Act.put, List.setIfInBounds_toArray, List.set_cons_zero, List.set_cons_succ]
      refine wpAnyH_ready (rs := [3]) (by kernel_rfl) (by simp) ?_
      refine AllReadyH.cons (o := ⟨some 42, _, _, _, _, _⟩) rfl (fun K hK => ?_) AllReadyH.nil
      have kA := (hN.cell (1 + k)).trans (nd_get hk)
      go_simp
      refine hK.out _ _ trivial (fun hNext => ?_)
      clear hK K hHeld
      have hHeld := hNext
      clear hNext
      clear kA
      try simp only [Act.put, List.setIfInBounds_toArray, List.set_cons_zero, List.set_cons_succ]
      refine wpAnyH_ready (rs := [6]) (by kernel_rfl) (by simp) ?_
      refine AllReadyH.cons (o := ⟨some 45, _, _, _, _, _⟩) rfl (fun K hK => ?_) AllReadyH.nil
      go_simp
      (with_reducible refine (HIH.out _ (HT.out k hk)).mono ?_)
      rintro e u11 ⟨v', S', rfl, hT', hn', hc'⟩
      (try dsimp only)
      refine hK.out _ _ trivial (fun hNext => ?_)
      clear hK K hHeld
      have hHeld := hNext
      clear hNext
      have HT2 := Lib.hid hT'
      have HN2 := Lib.hid hn'
      have HC2 := Lib.hid hc'
      clear hT' hn' hc'
      try simp only [Act.put, List.setIfInBounds_toArray, List.set_cons_zero, List.set_cons_succ]
      refine wpAnyH_take (i := 7) (oi := ⟨some 46, _, _, _, _, _⟩) (v := ?vxg7_9) rfl (by kernel_rfl) (by kernel_rfl) (by kernel_rfl) (fun _ _ _ h => h) (Or.inl ⟨by rfl, ?yxg7_9⟩) hHeld ?rxg7_9
      case yxg7_9 => (intro w' hSw; (try dsimp only at hSw); go_simp; try (with_reducible rfl))
      simp only [Act.put, List.setIfInBounds_toArray, List.set_cons_zero, List.set_cons_succ]
      refine wpAnyH_ready (rs := [8]) (by kernel_rfl) (by simp) ?_
      refine AllReadyH.cons (o := ⟨none, _, _, _, _, _⟩) rfl (fun K hK => ?_) AllReadyH.nil
      obtain ⟨p', hp'⟩ := HT2.out.ptr
      subst hp'
      have hA := HC2.out.blk hN (HSEP.out.out k hk)
      have kA := (hA.cell (1 + k)).trans (nd_get hk)
      have gA := hA.free (1 + k)
      go_simp
      clear kA gA hA
      refine hK.out _ _ trivial (fun hNext => ?_)
      clear hK K hHeld
      have hHeld := hNext
      clear hNext
      have HR := Lib.hid (TrAt.branch hk hN HT.out HSEP.out HSS.out HT2.out HN2.out HC2.out (rfl : u11.setCell ⟨B, 1 + k, none⟩ (.pointer p') = _))
      generalize u11.setCell ⟨B, 1 + k, none⟩ (.pointer p') = u12 at HR ⊢
      try simp only [Act.put]
      refine wpAnyH_done (by kernel_rfl) ?_ _
      clear HT2 HN2 HC2 hN HT HX HI HIH
      go_wp2_with fail
      go_meet
      obtain ⟨q1, q2, q3, q4, q5⟩ := HR.out
      exact ⟨_, _, q1, q2, q3, fun y hy => (q4 y hy).imp_right fun h => Nat.le_trans HCD.out.2 h, HCD.out.1.trans q5⟩
    case rest =>
      obtain ⟨v', S', q1, q2, q3, q4, q5⟩ := hcut
      have HP := Lib.hid (pruned_c a s (upd b k t') B (updV vs k v') (updS Ss k S') wc HCN.out q3 q1 q2)
      have HQ := Lib.hid (And.intro q4 q5)
      clear q1 q2 q3 q4 q5 HT hN HXq HIq
      go_wp2_with fail
      (with_reducible refine HP.out.mono ?_)
      rintro e w9 ⟨v9, S9, rfl, r1, r2, r3⟩
      have HR := Lib.hid (And.intro r1 (And.intro r2 r3))
      clear r1 r2 r3
      go_wp2
      go_ret
      obtain ⟨r1, r2, r3⟩ := HR.out
      refine ⟨v9, S9, rfl, r1, fun y hy => (HQ.out.1 y (r2 y hy)).imp_right fun h => Nat.le_trans HZ.out h, (HCW.out.trans HQ.out.2).trans (r3.mono fun y _ hy => (HSS.out y).2 (.inl hy))⟩
/-- A cube less in the tree. -/
theorem wo_c (x : Int) (c : Cb) : ∀ (t : Pt), t.Ok → (x, c) ∈ t.all → ∀ (v : Value) (S : Nat → Prop) (w : World), TrAt w t v S → Calls Try.prog 23 #[v, .int .i64 x, .agg #[.int .u64 (uv c.vh), .int .u64 (uv c.vl), .int .u64 (uv c.ch), .int .u64 (uv c.cl)]] w (TreeTo w (t.rem x c) S)
  | .no, _, hm, _, _, _, _ => absurd hm (List.not_mem_nil)
  | .lf d ids, ok, _, v, S, w, h => by
    obtain ⟨B, u, rfl, hL, hS⟩ := h
    refine (wo_leaf x c d B ids u w ok.2 hL).mono ?_
    rintro e w' ⟨v', rfl, hch, ⟨h0, rfl⟩ | ⟨h0, rfl, u', hL', hu⟩⟩
    · unfold Pt.rem
      rw [if_pos h0]
      exact ⟨_, fun _ => False, rfl, ⟨rfl, fun _ h => h⟩, fun _ h => h.elim, hch.mono fun k _ hk => (hS k).2 hk⟩
    · unfold Pt.rem
      rw [if_neg h0]
      refine ⟨_, S, rfl, ⟨B, u', rfl, hL', fun y => ?_⟩, fun _ h => .inl h, hch.mono fun k _ hk => (hS k).2 hk⟩
      rw [hS, hu]
  | .nd a s b, ok, hm, v, S, w, h => by
    obtain ⟨B, vs, Ss, rfl, hN, hT, hs, hS⟩ := h
    obtain ⟨h0, hb⟩ := Ok_nd.1 ok
    have hk := lt3_lt c a
    have hmk : (x, c) ∈ (b (lt3 c a)).all := by
      obtain ⟨k, h1, h2⟩ := mem_allB.1 hm
      have := hb.let_ k h1 _ h2
      dsimp only at this
      rw [this]
      exact h2
    unfold Pt.rem
    refine wo_nd x c a s b B vs Ss S _ w hb.lt ?_ hN hT hs hS (fun W hW => wo_c x c (b (lt3 c a)) (hb.ok _ hk) hmk _ _ W hW)
    generalize lt3 c a = k at *
    have key : ∀ j, j ≠ k → (upd b k ((b k).rem x c) j).cnt = (b j).cnt := fun j e => by rw [upd_other e]
    have hl := fun j => (b j).cnt_le
    have l0 := hl 0
    have l1 := hl 1
    have l2 := hl 2
    unfold cntB at h0 ⊢
    match k, hk, key with
    | 0, _, key => rw [key 1 (by omega), key 2 (by omega)]; omega
    | 1, _, key => rw [key 0 (by omega), key 2 (by omega)]; omega
    | 2, _, key => rw [key 0 (by omega), key 1 (by omega)]; omega
end Go.Proofs
