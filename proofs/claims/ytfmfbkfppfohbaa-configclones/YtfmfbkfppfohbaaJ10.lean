/-
  Contracts of slices.Equal at pairs, ways, ports. Conditions as each theorem lists them.
  Contracts of slices.Index and slices.Contains at spots. Conditions as each theorem lists them.
  Contract of package config: Stamp. Conditions as the theorem lists them.
  Contract of slices.Equal at rules. Conditions as the theorem lists them.
  Contracts of slices.EqualFunc over lists of lists, and of config.sameLists. Conditions as each theorem lists them.
  Contract of package config: Same. Conditions as the theorem lists them.
  Contract of package config: Allowed. Conditions as the theorem lists them.
-/
import Derived.Test.YtfmfbkfppfohbaaJ9
import Derived.Deep.RegionHeld3
import Derived.Deep.DeepCutAuto
namespace Go.Proofs.Hd
open Go.RowKit
/-- Are two pairs the same? -/
def eqA (a b : Int × Int) : Bool := (a.1 == b.1) && (a.2 == b.2)
theorem eqA_iff {a b : Int × Int} : eqA a b = true ↔ a = b := by
  cases a; cases b
  simp [eqA]
/-- Are two ways the same? -/
def eqW (a b : Wa) : Bool := (a.frm == b.frm) && ((a.too == b.too) && (a.via == b.via))
theorem eqW_iff {a b : Wa} : eqW a b = true ↔ a = b := by
  cases a; cases b
  simp [eqW]
end Go.Proofs.Hd
namespace Go.Proofs
open Go.RowKit Go.Proofs.Hd Go.Lib
set_option maxRecDepth 100000 in
theorem run_eqA (w : World) (a0 a1 b0 b1 : Int) : (Op.equalIn 10000 66 (.agg #[.int .i64 a0, .int .i64 a1]) (.agg #[.int .i64 b0, .int .i64 b1])).run Try.prog w = .ok (eqA (a0, a1) (b0, b1)) w := by
  have e0 : ∀ u, (Op.equalIn 9999 3 (.int .i64 a0) (.int .i64 b0)).run Try.prog u = .ok (a0 == b0) u := fun u => run_equalIn_int u 9998 _ .i64 .i64 _ _ Try.underlying3
  have e1 : ∀ u, (Op.equalIn 9999 3 (.int .i64 a1) (.int .i64 b1)).run Try.prog u = .ok (a1 == b1) u := fun u => run_equalIn_int u 9998 _ .i64 .i64 _ _ Try.underlying3
  have hu := Try.underlying66
  unfold eqA
  show Sem.run Try.prog (Op.equalIn (9999 + 1) _ _ _) _ = _
  generalize 9999 = d at e0 e1 ⊢
  cases h0 : a0 == b0 <;> cases h1 : a1 == b1 <;> rw [h0] at e0 <;> rw [h1] at e1 <;>
  simp [Op.equalIn, run_underlying hu, Std.Legacy.Range.forIn_eq_forIn_range', List.range', part, e0, e1, Try.sizeOf3, go_sem]
set_option maxRecDepth 100000 in
theorem run_eqW (w : World) (a0 a1 a2 b0 b1 b2 : Int) : (Op.equalIn 10000 68 (.agg #[.int .i64 a0, .int .i64 a1, .int .i64 a2]) (.agg #[.int .i64 b0, .int .i64 b1, .int .i64 b2])).run Try.prog w = .ok (eqW ⟨a0, a1, a2⟩ ⟨b0, b1, b2⟩) w := by
  unfold eqW
  cases h1 : a0 == b0
  · go_simp
  cases h2 : a1 == b1
  · go_simp
  cases h3 : a2 == b2 <;> go_simp
attribute [irreducible] eqA eqW
attribute [local go_sem high] run_eqA run_eqW run_eqP
set_option maxRecDepth 100000 in
set_option maxHeartbeats 4000000 in
theorem seq_pair (x : Bool) (v u : Value) (L M : List (Int × Int)) (w : World) (hv : Pe w v L) (hu : Pe w u M) (hLm : L.length ≤ maxLen) (hx : x = true ↔ L = M) : Calls Try.prog 48 #[v, u] w fun e w' => e = .returned (.bool x) ∧ Below w.heap.size w w' := by
  have hLz : (L.length : Int) ≤ 9223372036854775807 := by unfold maxLen at hLm; omega
  obtain ⟨A, c, rfl, -, hA⟩ := hv
  obtain ⟨B, d, rfl, -, hB⟩ := hu
  have HA := Lib.hid hA
  have HB := Lib.hid hB
  have HX := Lib.hid hx
  clear hA hB hx
  by_cases hl : L.length = M.length
  · have HL := Lib.hid hl
    have hne : ((L.length : Int) != (M.length : Int)) = false := by rw [hl]; simp
    obtain ⟨n, hn1, hn2⟩ : ∃ n : Nat, Hid (L.length = n) ∧ Hid (M.length = n) := ⟨L.length, rfl, hl.symm⟩
    clear hl hne hLm
    rw [hn1.out] at hLz ⊢
    rw [hn2.out]
    go_enter Try.func48, Try.ntmps48
    go_wp2
    go_loopg [5, 13] n (fun gk _ s13 wr => ∃ k : Nat, k ≤ n ∧ gk = n - k ∧ s13 = .int .i64 k ∧ Hid (∀ j, j < k → L[j]? = M[j]?) ∧ Hid (Below w.heap.size w wr))
    case atStart => exact ⟨0, Nat.zero_le _, rfl, rfl, fun j hj => absurd hj (Nat.not_lt_zero _), Below.refl _ _⟩
    case round =>
      obtain ⟨k, hk, rfl, rfl, HE, HW⟩ := hrel
      by_cases hlt : k < n
      · have hltz : (k : Int) < (n : Int) := by omega
        obtain ⟨a, ha⟩ : ∃ a, L[k]? = some a := ⟨_, List.getElem?_eq_getElem (by have := hn1.out; omega)⟩
        obtain ⟨b, hb⟩ : ∃ b, M[k]? = some b := ⟨_, List.getElem?_eq_getElem (by have := hn2.out; omega)⟩
        obtain ⟨ab, ao, rfl, _, hac⟩ := HA.out (by rintro rfl; simp at ha)
        obtain ⟨bb, bo, rfl, _, hbc⟩ := HB.out (by rintro rfl; simp at hb)
        have ta0 := on_some HW.out (hac k a ha).1
        have ta1 := on_some HW.out (hac k a ha).2
        obtain ⟨a0, a1⟩ := a
        simp only at ta0 ta1
        have tb0 := on_some HW.out (hbc k b hb).1
        have tb1 := on_some HW.out (hbc k b hb).2
        obtain ⟨b0, b1⟩ := b
        simp only at tb0 tb1
        have HKA := Lib.hid ha
        have HKB := Lib.hid hb
        clear hac hbc ha hb
        cases hq : eqA (a0, a1) (b0, b1) with
        | true =>
          have HQ : Hid (((a0, a1) : Int × Int) = (b0, b1)) := eqA_iff.1 hq
          go_wp2_with fail
          go_quiet (fail)
          have HW2 := Lib.hid (bldrewN HW.out nq)
          go_wp2
          go_roundg (n - (k + 1))
          case measure => omega
          case rel =>
            refine ⟨k + 1, by omega, rfl, by go_num, (fun j hj => ?_), HW2.out⟩
            by_cases e : j = k
            · subst e; rw [HKA.out, HKB.out, HQ.out]
            · exact HE.out j (by omega)
        | false =>
          have HQ : Hid (x = false) := by
            show _ = _
            cases hxx : x with
            | false => rfl
            | true =>
              exfalso
              have e := HX.out.1 hxx
              have e2 := HKA.out
              rw [e, HKB.out] at e2
              injection e2 with e2
              rw [eqA_iff.2 e2.symm] at hq
              cases hq
          go_wp2_with fail
          go_quiet (fail)
          have HW2 := Lib.hid (bldrewN HW.out nq)
          go_wp2
          go_ret
          exact ⟨by rw [HQ.out]; rfl, HW2.out⟩
      · have hltz : ¬ (k : Int) < (n : Int) := by omega
        have HQ : Hid (x = true) := by
          show _ = _
          refine HX.out.2 (List.ext_getElem? fun j => ?_)
          by_cases hj : j < k
          · exact HE.out j hj
          · rw [List.getElem?_eq_none (by have := hn1.out; omega), List.getElem?_eq_none (by have := hn2.out; omega)]
        go_wp2
        go_ret
        exact ⟨by rw [HQ.out]; rfl, HW.out⟩
  · have hne : ((L.length : Int) != (M.length : Int)) = true := by rw [bne_iff_ne]; omega
    have HQ : Hid (x = false) := by
      show _ = _
      cases hxx : x with
      | false => rfl
      | true => exact absurd (congrArg List.length (HX.out.1 hxx)) hl
    have hlz : ¬ (L.length : Int) = (M.length : Int) := by omega
    clear hl
    go_enter Try.func48, Try.ntmps48
    go_wp2
    go_ret
    exact ⟨by rw [HQ.out]; rfl, Below.refl _ _⟩
set_option maxRecDepth 100000 in
set_option maxHeartbeats 4000000 in
theorem seq_way (x : Bool) (v u : Value) (L M : List Wa) (w : World) (hv : Wy w v L) (hu : Wy w u M) (hLm : L.length ≤ maxLen) (hx : x = true ↔ L = M) : Calls Try.prog 49 #[v, u] w fun e w' => e = .returned (.bool x) ∧ Below w.heap.size w w' := by
  have hLz : (L.length : Int) ≤ 9223372036854775807 := by unfold maxLen at hLm; omega
  obtain ⟨A, c, rfl, -, hA⟩ := hv
  obtain ⟨B, d, rfl, -, hB⟩ := hu
  have HA := Lib.hid hA
  have HB := Lib.hid hB
  have HX := Lib.hid hx
  clear hA hB hx
  by_cases hl : L.length = M.length
  · have HL := Lib.hid hl
    have hne : ((L.length : Int) != (M.length : Int)) = false := by rw [hl]; simp
    obtain ⟨n, hn1, hn2⟩ : ∃ n : Nat, Hid (L.length = n) ∧ Hid (M.length = n) := ⟨L.length, rfl, hl.symm⟩
    clear hl hne hLm
    rw [hn1.out] at hLz ⊢
    rw [hn2.out]
    go_enter Try.func49, Try.ntmps49
    go_wp2
    go_loopg [5, 13] n (fun gk _ s13 wr => ∃ k : Nat, k ≤ n ∧ gk = n - k ∧ s13 = .int .i64 k ∧ Hid (∀ j, j < k → L[j]? = M[j]?) ∧ Hid (Below w.heap.size w wr))
    case atStart => exact ⟨0, Nat.zero_le _, rfl, rfl, fun j hj => absurd hj (Nat.not_lt_zero _), Below.refl _ _⟩
    case round =>
      obtain ⟨k, hk, rfl, rfl, HE, HW⟩ := hrel
      by_cases hlt : k < n
      · have hltz : (k : Int) < (n : Int) := by omega
        obtain ⟨a, ha⟩ : ∃ a, L[k]? = some a := ⟨_, List.getElem?_eq_getElem (by have := hn1.out; omega)⟩
        obtain ⟨b, hb⟩ : ∃ b, M[k]? = some b := ⟨_, List.getElem?_eq_getElem (by have := hn2.out; omega)⟩
        obtain ⟨ab, ao, rfl, _, hac⟩ := HA.out (by rintro rfl; simp at ha)
        obtain ⟨bb, bo, rfl, _, hbc⟩ := HB.out (by rintro rfl; simp at hb)
        have ta0 := on_some HW.out (hac k a ha).1
        have ta1 := on_some HW.out (hac k a ha).2.1
        have ta2 := on_some HW.out (hac k a ha).2.2
        obtain ⟨a0, a1, a2⟩ := a
        simp only at ta0 ta1 ta2
        have tb0 := on_some HW.out (hbc k b hb).1
        have tb1 := on_some HW.out (hbc k b hb).2.1
        have tb2 := on_some HW.out (hbc k b hb).2.2
        obtain ⟨b0, b1, b2⟩ := b
        simp only at tb0 tb1 tb2
        have HKA := Lib.hid ha
        have HKB := Lib.hid hb
        clear hac hbc ha hb
        cases hq : eqW ⟨a0, a1, a2⟩ ⟨b0, b1, b2⟩ with
        | true =>
          have HQ : Hid ((⟨a0, a1, a2⟩ : Wa) = ⟨b0, b1, b2⟩) := eqW_iff.1 hq
          go_wp2_with fail
          go_quiet (fail)
          have HW2 := Lib.hid (bldrewN HW.out nq)
          go_wp2
          go_roundg (n - (k + 1))
          case measure => omega
          case rel =>
            refine ⟨k + 1, by omega, rfl, by go_num, (fun j hj => ?_), HW2.out⟩
            by_cases e : j = k
            · subst e; rw [HKA.out, HKB.out, HQ.out]
            · exact HE.out j (by omega)
        | false =>
          have HQ : Hid (x = false) := by
            show _ = _
            cases hxx : x with
            | false => rfl
            | true =>
              exfalso
              have e := HX.out.1 hxx
              have e2 := HKA.out
              rw [e, HKB.out] at e2
              injection e2 with e2
              rw [eqW_iff.2 e2.symm] at hq
              cases hq
          go_wp2_with fail
          go_quiet (fail)
          have HW2 := Lib.hid (bldrewN HW.out nq)
          go_wp2
          go_ret
          exact ⟨by rw [HQ.out]; rfl, HW2.out⟩
      · have hltz : ¬ (k : Int) < (n : Int) := by omega
        have HQ : Hid (x = true) := by
          show _ = _
          refine HX.out.2 (List.ext_getElem? fun j => ?_)
          by_cases hj : j < k
          · exact HE.out j hj
          · rw [List.getElem?_eq_none (by have := hn1.out; omega), List.getElem?_eq_none (by have := hn2.out; omega)]
        go_wp2
        go_ret
        exact ⟨by rw [HQ.out]; rfl, HW.out⟩
  · have hne : ((L.length : Int) != (M.length : Int)) = true := by rw [bne_iff_ne]; omega
    have HQ : Hid (x = false) := by
      show _ = _
      cases hxx : x with
      | false => rfl
      | true => exact absurd (congrArg List.length (HX.out.1 hxx)) hl
    have hlz : ¬ (L.length : Int) = (M.length : Int) := by omega
    clear hl
    go_enter Try.func49, Try.ntmps49
    go_wp2
    go_ret
    exact ⟨by rw [HQ.out]; rfl, Below.refl _ _⟩
set_option maxRecDepth 100000 in
set_option maxHeartbeats 4000000 in
theorem seq_port (x : Bool) (v u : Value) (L M : List Pt) (w : World) (hv : Ps w v L) (hu : Ps w u M) (hLm : L.length ≤ maxLen) (hx : x = true ↔ L = M) : Calls Try.prog 67 #[v, u] w fun e w' => e = .returned (.bool x) ∧ Below w.heap.size w w' := by
  have hLz : (L.length : Int) ≤ 9223372036854775807 := by unfold maxLen at hLm; omega
  obtain ⟨A, c, rfl, -, hA⟩ := hv
  obtain ⟨B, d, rfl, -, hB⟩ := hu
  have HA := Lib.hid hA
  have HB := Lib.hid hB
  have HX := Lib.hid hx
  clear hA hB hx
  by_cases hl : L.length = M.length
  · have HL := Lib.hid hl
    have hne : ((L.length : Int) != (M.length : Int)) = false := by rw [hl]; simp
    obtain ⟨n, hn1, hn2⟩ : ∃ n : Nat, Hid (L.length = n) ∧ Hid (M.length = n) := ⟨L.length, rfl, hl.symm⟩
    clear hl hne hLm
    rw [hn1.out] at hLz ⊢
    rw [hn2.out]
    go_enter Try.func67, Try.ntmps67
    go_wp2
    go_loopg [5, 13] n (fun gk _ s13 wr => ∃ k : Nat, k ≤ n ∧ gk = n - k ∧ s13 = .int .i64 k ∧ Hid (∀ j, j < k → L[j]? = M[j]?) ∧ Hid (Below w.heap.size w wr))
    case atStart => exact ⟨0, Nat.zero_le _, rfl, rfl, fun j hj => absurd hj (Nat.not_lt_zero _), Below.refl _ _⟩
    case round =>
      obtain ⟨k, hk, rfl, rfl, HE, HW⟩ := hrel
      by_cases hlt : k < n
      · have hltz : (k : Int) < (n : Int) := by omega
        obtain ⟨a, ha⟩ : ∃ a, L[k]? = some a := ⟨_, List.getElem?_eq_getElem (by have := hn1.out; omega)⟩
        obtain ⟨b, hb⟩ : ∃ b, M[k]? = some b := ⟨_, List.getElem?_eq_getElem (by have := hn2.out; omega)⟩
        obtain ⟨ab, ao, rfl, _, hac⟩ := HA.out (by rintro rfl; simp at ha)
        obtain ⟨bb, bo, rfl, _, hbc⟩ := HB.out (by rintro rfl; simp at hb)
        have ta0 := on_some HW.out (hac k a ha).1
        have ta1 := on_some HW.out (hac k a ha).2.1
        have ta2 := on_some HW.out (hac k a ha).2.2.1
        have ta3 := on_some HW.out (hac k a ha).2.2.2.1
        have ta4 := on_some HW.out (hac k a ha).2.2.2.2
        obtain ⟨a0, a1, a2, a3, a4⟩ := a
        simp only at ta0 ta1 ta2 ta3 ta4
        have tb0 := on_some HW.out (hbc k b hb).1
        have tb1 := on_some HW.out (hbc k b hb).2.1
        have tb2 := on_some HW.out (hbc k b hb).2.2.1
        have tb3 := on_some HW.out (hbc k b hb).2.2.2.1
        have tb4 := on_some HW.out (hbc k b hb).2.2.2.2
        obtain ⟨b0, b1, b2, b3, b4⟩ := b
        simp only at tb0 tb1 tb2 tb3 tb4
        have HKA := Lib.hid ha
        have HKB := Lib.hid hb
        clear hac hbc ha hb
        cases hq : eqP ⟨a0, a1, a2, a3, a4⟩ ⟨b0, b1, b2, b3, b4⟩ with
        | true =>
          have HQ : Hid ((⟨a0, a1, a2, a3, a4⟩ : Pt) = ⟨b0, b1, b2, b3, b4⟩) := eqP_iff.1 hq
          go_wp2_with fail
          go_quiet (fail)
          have HW2 := Lib.hid (bldrewN HW.out nq)
          go_wp2
          go_roundg (n - (k + 1))
          case measure => omega
          case rel =>
            refine ⟨k + 1, by omega, rfl, by go_num, (fun j hj => ?_), HW2.out⟩
            by_cases e : j = k
            · subst e; rw [HKA.out, HKB.out, HQ.out]
            · exact HE.out j (by omega)
        | false =>
          have HQ : Hid (x = false) := by
            show _ = _
            cases hxx : x with
            | false => rfl
            | true =>
              exfalso
              have e := HX.out.1 hxx
              have e2 := HKA.out
              rw [e, HKB.out] at e2
              injection e2 with e2
              rw [eqP_iff.2 e2.symm] at hq
              cases hq
          go_wp2_with fail
          go_quiet (fail)
          have HW2 := Lib.hid (bldrewN HW.out nq)
          go_wp2
          go_ret
          exact ⟨by rw [HQ.out]; rfl, HW2.out⟩
      · have hltz : ¬ (k : Int) < (n : Int) := by omega
        have HQ : Hid (x = true) := by
          show _ = _
          refine HX.out.2 (List.ext_getElem? fun j => ?_)
          by_cases hj : j < k
          · exact HE.out j hj
          · rw [List.getElem?_eq_none (by have := hn1.out; omega), List.getElem?_eq_none (by have := hn2.out; omega)]
        go_wp2
        go_ret
        exact ⟨by rw [HQ.out]; rfl, HW.out⟩
  · have hne : ((L.length : Int) != (M.length : Int)) = true := by rw [bne_iff_ne]; omega
    have HQ : Hid (x = false) := by
      show _ = _
      cases hxx : x with
      | false => rfl
      | true => exact absurd (congrArg List.length (HX.out.1 hxx)) hl
    have hlz : ¬ (L.length : Int) = (M.length : Int) := by omega
    clear hl
    go_enter Try.func67, Try.ntmps67
    go_wp2
    go_ret
    exact ⟨by rw [HQ.out]; rfl, Below.refl _ _⟩
end Go.Proofs

namespace Go.Proofs.Hd
open Go.RowKit
/-- Is (a, b) among the spots E? -/
def isSp (E : List Rc) (a b : Int) : Prop := ∃ y ∈ E, (y.1 : Int) = a ∧ (y.2 : Int) = b
end Go.Proofs.Hd
namespace Go.Proofs
open Go.RowKit Go.Proofs.Hd Go.Lib
set_option maxRecDepth 100000 in
theorem run_eqSp (w : World) (a b c d : Int) : (Op.equalIn 10000 41 (.agg #[.int .i64 a, .int .i64 b]) (.agg #[.int .i64 c, .int .i64 d])).run Try.prog w = .ok (eqA (a, b) (c, d)) w := by
  unfold eqA
  cases h1 : a == c
  · go_simp
  cases h2 : b == d <;> go_simp
attribute [local go_sem high] run_eqSp
set_option maxRecDepth 100000 in
set_option maxHeartbeats 2000000 in
theorem idx_spot (v : Value) (E : List Rc) (a b : Int) (w : World) (hv : Spt w v E) (hE : E.length ≤ 2000000) : Calls Try.prog 58 #[v, .agg #[.int .i64 a, .int .i64 b]] w fun e w' => ∃ r : Int, e = .returned (.int .i64 r) ∧ (0 ≤ r ↔ isSp E a b) ∧ Below w.heap.size w w' := by
  obtain ⟨A, cap, rfl, hA⟩ := hv
  have HA := Lib.hid hA
  have hEz : (E.length : Int) ≤ 2000000 := by omega
  have B0 : Hid (Below w.heap.size w (w.alloc (.cells #[.int .i64 a, .int .i64 b] 41))) := below1 w _
  have N0 : Hid (Blk (w.alloc (.cells #[.int .i64 a, .int .i64 b] 41)) w.heap.size 41 #[.int .i64 a, .int .i64 b]) := Blk.new w _ _
  clear hA
  go_enter Try.func58, Try.ntmps58
  go_wp2
  generalize w.alloc (.cells #[.int .i64 a, .int .i64 b] 41) = w1 at B0 N0 ⊢
  go_loopg [5, 8] E.length (fun gk _ s8 wr => ∃ k : Nat, k ≤ E.length ∧ gk = E.length - k ∧ s8 = .int .i64 k ∧ Hid (∀ (j : Nat) (y : Rc), j < k → E[j]? = some y → ¬ ((y.1 : Int) = a ∧ (y.2 : Int) = b)) ∧ Hid (Below w1.heap.size w1 wr))
  case atStart => exact ⟨0, Nat.zero_le _, rfl, rfl, fun j y hj => absurd hj (Nat.not_lt_zero _), Below.refl _ _⟩
  case round =>
    obtain ⟨k, hk, rfl, rfl, HO, HW⟩ := hrel
    by_cases hlt : k < E.length
    · have hltz : (k : Int) < (E.length : Int) := by omega
      obtain ⟨y, hy⟩ : ∃ y, E[k]? = some y := ⟨_, List.getElem?_eq_getElem hlt⟩
      obtain ⟨eb, rfl, hec⟩ := HA.out (by rintro rfl; simp at hlt)
      have HBW := Lib.hid (B0.out.trans (HW.out.mono B0.out.size))
      have x0 := on_some HBW.out (hec k y hy).1
      have x1 := on_some HBW.out (hec k y hy).2
      obtain ⟨s0, s1⟩ := (N0.out.on HW.out).both
      have HXX := Lib.hid hy
      obtain ⟨ya, yb⟩ := y
      simp only at x0 x1
      clear hec hy
      cases hq : eqA (a, b) ((ya : Int), (yb : Int)) with
      | true =>
        have HQ : Hid (0 ≤ (k : Int) ↔ isSp E a b) := by
          have e := eqA_iff.1 hq
          injection e with e1 e2
          exact ⟨fun _ => ⟨(ya, yb), List.mem_of_getElem? HXX.out, e1.symm, e2.symm⟩, fun _ => by omega⟩
        go_wp2_with fail
        go_quiet (fail)
        have HW2 := Lib.hid (bldrewN HBW.out nq)
        go_wp2
        go_ret
        exact ⟨_, rfl, HQ.out, HW2.out⟩
      | false =>
        have HO2 : Hid (∀ (j : Nat) (y : Rc), j < k + 1 → E[j]? = some y → ¬ ((y.1 : Int) = a ∧ (y.2 : Int) = b)) := fun j z hj hz => by
          by_cases e : j = k
          · subst e
            rw [HXX.out] at hz
            injection hz with hz
            subst hz
            rintro ⟨h1, h2⟩
            rw [eqA_iff.2 (by rw [← h1, ← h2])] at hq
            cases hq
          · exact HO.out j z (by omega) hz
        go_wp2_with fail
        go_quiet (fail)
        have HW2 := Lib.hid (bldrewN HW.out nq)
        go_wp2
        go_roundg (E.length - (k + 1))
        case measure => omega
        case rel => exact ⟨k + 1, by omega, rfl, by go_num, HO2, HW2⟩
    · have hltz : ¬ (k : Int) < (E.length : Int) := by omega
      have HQ : Hid ((0 : Int) ≤ -1 ↔ isSp E a b) := by
        refine ⟨fun h => by omega, ?_⟩
        rintro ⟨y, hy, h⟩
        obtain ⟨j, hj⟩ := List.getElem?_of_mem hy
        exact absurd h (HO.out j y (by have := (List.getElem?_eq_some_iff.1 hj).1; omega) hj)
      go_wp2
      go_ret
      exact ⟨_, rfl, HQ.out, B0.out.trans (HW.out.mono B0.out.size)⟩
set_option maxRecDepth 100000 in
theorem has_spot (x : Bool) (v : Value) (E : List Rc) (a b : Int) (w : World) (hv : Spt w v E) (hE : E.length ≤ 2000000) (hx : x = true ↔ isSp E a b) : Calls Try.prog 35 #[v, .agg #[.int .i64 a, .int .i64 b]] w fun e w' => e = .returned (.bool x) ∧ Below w.heap.size w w' := by
  have B0 : Hid (Below w.heap.size w (w.alloc (.cells #[.int .i64 a, .int .i64 b] 41))) := below1 w _
  have N0 := (Blk.new w 41 #[.int .i64 a, .int .i64 b]).both
  have hv1 : Spt (w.alloc (.cells #[.int .i64 a, .int .i64 b] 41)) v E := by
    obtain ⟨A, cap, e, h⟩ := hv
    refine ⟨A, cap, e, fun hne => ?_⟩
    obtain ⟨b, e2, hc⟩ := h hne
    exact ⟨b, e2, fun k x hk => ⟨on_some B0.out (hc k x hk).1, on_some B0.out (hc k x hk).2⟩⟩
  have hcon := idx_spot v E a b _ hv1 hE
  have HX := Lib.hid hx
  clear hx hv hv1
  obtain ⟨n0, n1⟩ := N0
  go_enter Try.func35, Try.ntmps35
  go_wp2_with fail
  (with_reducible refine hcon.mono ?_)
  rintro e w1 ⟨r, rfl, hr, hb⟩
  have HB := Lib.hid (B0.out.trans (hb.mono B0.out.size))
  have HR := Lib.hid hr
  clear hr hb hcon n0 n1
  by_cases h0 : 0 ≤ r
  · have HE : Hid (x = true) := HX.out.2 (HR.out.1 h0)
    go_wp2
    go_ret
    exact ⟨by rw [HE.out]; rfl, HB.out⟩
  · have HE : Hid (x = false) := by
      show _ = _
      cases hxx : x with
      | false => rfl
      | true => exact absurd (HR.out.2 (HX.out.1 hxx)) h0
    have hd : decide (0 ≤ r) = false := decide_eq_false h0
    clear h0
    go_wp2
    go_ret
    exact ⟨by rw [HE.out]; rfl, HB.out⟩
end Go.Proofs

namespace Go.Proofs.Hd
open Go.RowKit
theorem there4 {w : World} {g : Nat} {t : TypeId} {cs : Array Value} (h : Blk w g t cs) : w.there g 0 cs.size := fun j hj => by
  rw [Nat.zero_add, h.cell j, h.free j]
  simp [hj]
theorem cellS {b : Nat} {p : Addr} (hp : b ≠ p.block) : ∀ (vs : List Value) (o : Nat) (w : World), (w.setCells b o vs).cell? p = w.cell? p
  | [], _, _ => rfl
  | v :: vs, o, w => (cellS hp vs (o + 1) _).trans (World.cell?_of_block (Below.heap_setCell w ⟨b, o, none⟩ v p.block (fun e => hp e.symm)))
theorem edge_sound {T : List (List Pt)} {L : List Pt} {n i : Nat} {p : Pt} (h : sTp T = 0) (hL : T[n]? = some L) (hp : L[i]? = some p) (hk : p.kind = 1) : ∃ t : Nat, t ≤ 3 ∧ p.ten = (t : Int) := by
  have h1 := (sTp_zero h).2 n i L p (List.getElem?_eq_some_iff.1 hL).1 hL hp
  unfold okP at h1
  rw [if_pos hk, Bool.and_eq_true] at h1
  have h2 := h1.1
  unfold inB at h2
  simp at h2
  exact ⟨p.ten.toNat, by omega, by omega⟩
theorem not_edge {T : List (List Pt)} {a b : Int} (h : ¬ isSp (eTo T T.length) a b) : edgT T a b = -1 := by
  unfold edgT
  cases hp : ptAt T a b with
  | none => rfl
  | some p =>
    simp only
    obtain ⟨n, i, L, rfl, rfl, hL, hi⟩ := ptAt_some hp
    rw [if_neg]
    intro hk
    exact h ⟨(n, i), eTo_mem.2 ⟨L, p, hL, hi, hk⟩, rfl, rfl⟩
/-- What Stamp answers. -/
def stmR (T : List (List Pt)) (z : Int) (a b ver : Int) (e : Ending) : Prop :=
  (z ≠ 0 → e = .returned (.tuple #[.agg #[.int .u64 0, .int .u64 0, .int .u64 0, .int .u64 0], .int .i64 z])) ∧
  (z = 0 → ¬ (0 ≤ ver ∧ ver ≤ 255) → e = .returned (.tuple #[.agg #[.int .u64 0, .int .u64 0, .int .u64 0, .int .u64 0], .int .i64 4])) ∧
  (z = 0 → 0 ≤ ver ∧ ver ≤ 255 → edgT T a b < 0 → e = .returned (.tuple #[.agg #[.int .u64 0, .int .u64 0, .int .u64 0, .int .u64 0], .int .i64 7])) ∧
  (z = 0 → 0 ≤ ver ∧ ver ≤ 255 → ¬ edgT T a b < 0 → ∃ (n m : Nat) (cvh cvl cch ccl : BitVec 64), n ≤ 3 ∧ m ≤ 255 ∧ edgT T a b = (n : Int) ∧ ver = (m : Int) ∧ e = .returned (.tuple #[.agg #[.int .u64 (uv cvh), .int .u64 (uv cvl), .int .u64 (uv cch), .int .u64 (uv ccl)], .int .i64 0]) ∧ StB n m 3 cvh cvl cch ccl)
theorem stmR_bad {T : List (List Pt)} {z a b ver : Int} (h : z ≠ 0) : stmR T z a b ver (.returned (.tuple #[.agg #[.int .u64 0, .int .u64 0, .int .u64 0, .int .u64 0], .int .i64 z])) := ⟨fun _ => rfl, fun e => absurd e h, fun e => absurd e h, fun e => absurd e h⟩
theorem stmR_ver {T : List (List Pt)} {a b ver : Int} (h : ¬ (0 ≤ ver ∧ ver ≤ 255)) : stmR T 0 a b ver (.returned (.tuple #[.agg #[.int .u64 0, .int .u64 0, .int .u64 0, .int .u64 0], .int .i64 4])) := ⟨fun e => absurd rfl e, fun _ _ => rfl, fun _ e => absurd e h, fun _ e => absurd e h⟩
theorem stmR_none {T : List (List Pt)} {a b ver : Int} (h : 0 ≤ ver ∧ ver ≤ 255) (h2 : edgT T a b < 0) : stmR T 0 a b ver (.returned (.tuple #[.agg #[.int .u64 0, .int .u64 0, .int .u64 0, .int .u64 0], .int .i64 7])) := ⟨fun e => absurd rfl e, fun _ e => absurd h e, fun _ _ _ => rfl, fun _ _ e => absurd h2 e⟩
theorem stmR_yes {T : List (List Pt)} {a b : Int} {n m : Nat} {cvh cvl cch ccl : BitVec 64} (hn : n ≤ 3) (hm : m ≤ 255) (h2 : edgT T a b = (n : Int)) (h : StB n m 3 cvh cvl cch ccl) : stmR T 0 a b m (.returned (.tuple #[.agg #[.int .u64 (uv cvh), .int .u64 (uv cvl), .int .u64 (uv cch), .int .u64 (uv ccl)], .int .i64 0])) := ⟨fun e => absurd rfl e, fun _ e => absurd (⟨by omega, by omega⟩ : 0 ≤ (m : Int) ∧ (m : Int) ≤ 255) e, fun _ _ e => by omega, fun _ _ _ => ⟨n, m, cvh, cvl, cch, ccl, hn, hm, h2, rfl, rfl, h⟩⟩
end Go.Proofs.Hd
namespace Go.Proofs
open Go.RowKit Go.Proofs.Hd Go.Lib
theorem infoCubeS : (Try.prog.info? 46).map (·.size) = some 4 := by kernel_rfl
set_option maxRecDepth 100000 in
set_option maxHeartbeats 4000000 in
theorem stamp_c (tv pv wv bv : Value) (T : List (List Pt)) (ten : Int) (P : List (Int × Int)) (Q : List Wa) (BB : List (List (List Rl))) (a b ver : Int) (w : World) (hT : PsT w tv T) (hP : Pe w pv P) (hQ : Wy w wv Q) (hB : RuQ w bv BB) : Calls Try.prog 16 #[.agg #[tv, .int .i64 ten, pv, wv, bv], .agg #[.int .i64 a, .int .i64 b], .int .i64 ver] w fun e w' => stmR T (cfgT T ten P Q BB) a b ver e ∧ Below w.heap.size w w' := by
  have HT := Lib.hid hT
  have HP := Lib.hid hP
  have HQ := Lib.hid hQ
  have HBQ := Lib.hid hB
  obtain ⟨A, cap, rfl, htm, hA⟩ := hT
  obtain ⟨pA, pc, rfl, -, -⟩ := hP
  obtain ⟨wA, wc, rfl, -, -⟩ := hQ
  obtain ⟨bA, bc, rfl, -, -⟩ := hB
  have HA := Lib.hid hA
  clear hA
  have B1 : Hid (Below w.heap.size w (((w.alloc (.cells #[.slice A T.length cap, .int .i64 ten, .slice pA P.length pc, .slice wA Q.length wc, .slice bA BB.length bc] 31)).alloc (.cells #[.int .i64 a, .int .i64 b] 41)).alloc (.cells #[.int .u64 0, .int .u64 0, .int .u64 0, .int .u64 0] 46))) := below3 w _ _ _
  have N1 : Hid (Blk (((w.alloc (.cells #[.slice A T.length cap, .int .i64 ten, .slice pA P.length pc, .slice wA Q.length wc, .slice bA BB.length bc] 31)).alloc (.cells #[.int .i64 a, .int .i64 b] 41)).alloc (.cells #[.int .u64 0, .int .u64 0, .int .u64 0, .int .u64 0] 46)) w.heap.size 31 #[.slice A T.length cap, .int .i64 ten, .slice pA P.length pc, .slice wA Q.length wc, .slice bA BB.length bc]) := ((Blk.new w _ _).on (below1 _ _)).on (below1 _ _)
  have S1 : Hid (Blk (((w.alloc (.cells #[.slice A T.length cap, .int .i64 ten, .slice pA P.length pc, .slice wA Q.length wc, .slice bA BB.length bc] 31)).alloc (.cells #[.int .i64 a, .int .i64 b] 41)).alloc (.cells #[.int .u64 0, .int .u64 0, .int .u64 0, .int .u64 0] 46)) (w.heap.size + 1) 41 #[.int .i64 a, .int .i64 b]) := (Blk.new2 w _ _ _).on (below1 _ _)
  have R1 : Hid (Blk (((w.alloc (.cells #[.slice A T.length cap, .int .i64 ten, .slice pA P.length pc, .slice wA Q.length wc, .slice bA BB.length bc] 31)).alloc (.cells #[.int .i64 a, .int .i64 b] 41)).alloc (.cells #[.int .u64 0, .int .u64 0, .int .u64 0, .int .u64 0] 46)) (w.heap.size + 1 + 1) 46 #[.int .u64 0, .int .u64 0, .int .u64 0, .int .u64 0]) := Blk.new3 w _ _ _ _
  go_enter Try.func16, Try.ntmps16
  obtain ⟨d0, d1, d2, d3, d4⟩ := N1.out.five
  go_upto_region 1 with (fail)
  clear d0 d1 d2 d3 d4
  generalize (((w.alloc (.cells #[.slice A T.length cap, .int .i64 ten, .slice pA P.length pc, .slice wA Q.length wc, .slice bA BB.length bc] 31)).alloc (.cells #[.int .i64 a, .int .i64 b] 41)).alloc (.cells #[.int .u64 0, .int .u64 0, .int .u64 0, .int .u64 0] 46)) = w1 at B1 N1 S1 R1 ⊢
  obtain ⟨d0, d1, d2, d3, d4⟩ := N1.out.five
  go_wp2_with fail
  (with_reducible refine (csound_c _ _ _ _ T ten P Q BB _ (HT.out.on B1.out) (HP.out.on B1.out) (HQ.out.on B1.out) (HBQ.out.on B1.out)).mono ?_)
  rintro e w2 ⟨rfl, hb2⟩
  have HB2 := Lib.hid (B1.out.trans (hb2.mono B1.out.size))
  have N2 := Lib.hid (N1.out.on hb2)
  have S2 := Lib.hid (S1.out.on hb2)
  have R2 := Lib.hid (R1.out.on hb2)
  clear hb2 B1 N1 S1 R1 d0 d1 d2 d3 d4
  obtain ⟨z, hz⟩ : ∃ z, cfgT T ten P Q BB = z := ⟨_, rfl⟩
  rw [hz]
  have HZ := Lib.hid hz
  clear hz
  obtain ⟨f0, f1, f2, f3⟩ := free4 R2.out
  obtain ⟨z0, z1, z2, z3⟩ := quad R2.out
  obtain ⟨q0, q1, q2, q3⟩ := quad (put4 R2.out (.int .u64 0) (.int .u64 0) (.int .u64 0) (.int .u64 0))
  have B6 := Lib.hid (HB2.out.trans ((sets4 w2 (w.heap.size + 1 + 1) (.int .u64 0) (.int .u64 0) (.int .u64 0) (.int .u64 0)).mono (by omega)))
  by_cases hz0 : z = 0
  · subst hz0
    have HTS : Hid (sTp T = 0) := by
      show _ = _
      have h := HZ.out
      unfold cfgT at h
      by_cases hs : sTp T = 0
      · exact hs
      · rw [if_neg hs] at h; exact h
    by_cases hv1 : ver < 0
    · have HR : Hid (¬ (0 ≤ ver ∧ ver ≤ 255)) := fun h => by omega
      go_wp2
      exact bodyPost_ret (v := .tuple #[.agg #[.int .u64 0, .int .u64 0, .int .u64 0, .int .u64 0], .int .i64 4]) (by simp [results, Try.results16, go_sem, q0, q1, q2, q3]) rfl ⟨by rw [HZ.out]; exact stmR_ver HR.out, B6.out⟩
    · by_cases hv2 : 255 < ver
      · have HR : Hid (¬ (0 ≤ ver ∧ ver ≤ 255)) := fun h => by omega
        go_wp2
        exact bodyPost_ret (v := .tuple #[.agg #[.int .u64 0, .int .u64 0, .int .u64 0, .int .u64 0], .int .i64 4]) (by simp [results, Try.results16, go_sem, q0, q1, q2, q3]) rfl ⟨by rw [HZ.out]; exact stmR_ver HR.out, B6.out⟩
      · obtain ⟨m, rfl⟩ : ∃ m : Nat, ver = (m : Int) := ⟨ver.toNat, by omega⟩
        have hm5 : m ≤ 255 := by omega
        have HR : Hid (0 ≤ (m : Int) ∧ (m : Int) ≤ 255) := ⟨by omega, by omega⟩
        have hb1 : decide ((m : Int) < 0) = false := decide_eq_false hv1
        have hb2 : decide ((255 : Int) < (m : Int)) = false := decide_eq_false hv2
        have hn := ports_sound HTS.out
        have hEl : (eTo T T.length).length ≤ 2000000 := Nat.le_trans (eTo_len T T.length (Nat.le_refl _)) (Nat.le_trans (take_le T _) hn)
        obtain ⟨d0, d1, d2, d3, d4⟩ := N2.out.five
        obtain ⟨e0, e1⟩ := S2.out.both
        by_cases his : isSp (eTo T T.length) a b
        · obtain ⟨⟨ya, yb⟩, hmem, rfl, rfl⟩ := id his
          obtain ⟨L, p, hL, hp, hkd⟩ := eTo_mem.1 hmem
          simp only at hL hp
          obtain ⟨n, hn3, hpt⟩ := edge_sound HTS.out hL hp hkd
          have HED : Hid (edgT T ya yb = (n : Int)) := (edgT_edge hL hp hkd).trans hpt
          have hxa := (List.getElem?_eq_some_iff.1 hL).1
          have hxb := (List.getElem?_eq_some_iff.1 hp).1
          have KP : ∀ W, Below w2.heap.size w2 W → (Below w2.heap.size w2 W ∧ W.cell? ⟨w.heap.size, 0, none⟩ = some (.slice A T.length cap) ∧ W.cell? ⟨w.heap.size + 1, 0, none⟩ = some (.int .i64 (ya : Int)) ∧ W.cell? ⟨w.heap.size + 1, 1, none⟩ = some (.int .i64 (yb : Int))) := fun W hb => ⟨hb, on_some hb d0, on_some hb e0, on_some hb e1⟩
          have HKP := Lib.hid KP
          have HIS : Hid (isSp (eTo T T.length) ya yb) := his
          have HL := Lib.hid hL
          have HPP := Lib.hid hp
          have HPT := Lib.hid hpt
          have HEL := Lib.hid hEl
          have HN := Lib.hid hn
          clear KP d0 d1 d2 d3 d4 e0 e1 hmem his hL hp hpt hkd hEl hn
          go_upto_region 6 with (fail)
          refine wp_region_held_drew (S := fun w' => Below w2.heap.size w2 w' ∧ w'.cell? ⟨w.heap.size, 0, none⟩ = some (.slice A T.length cap) ∧ w'.cell? ⟨w.heap.size + 1, 0, none⟩ = some (.int .i64 (ya : Int)) ∧ w'.cell? ⟨w.heap.size + 1, 1, none⟩ = some (.int .i64 (yb : Int))) (by kernel_rfl) (HKP.out _ (Below.refl _ w2).drew) (fun hHeld => ?_)
          refine wpAnyH_take (i := 0) (oi := ⟨some 22, _, _, _, _, _⟩) (v := ?va0) rfl (by kernel_rfl) (by kernel_rfl) (by kernel_rfl) (fun _ _ _ h => h) (Or.inl ⟨by rfl, ?ya0⟩) hHeld ?ra0
          case ya0 => (intro w' hSw; (try dsimp only at hSw); go_simp; try (with_reducible rfl))
          simp only [Act.put, List.setIfInBounds_toArray, List.set_cons_zero, List.set_cons_succ]
          refine wpAnyH_take (i := 1) (oi := ⟨some 23, _, _, _, _, _⟩) (v := ?va1) rfl (by kernel_rfl) (by kernel_rfl) (by kernel_rfl) (fun _ _ _ h => h) (Or.inl ⟨by rfl, ?ya1⟩) hHeld ?ra1
          case ya1 => (intro w' hSw; (try dsimp only at hSw); go_simp; try (with_reducible rfl))
          simp only [Act.put, List.setIfInBounds_toArray, List.set_cons_zero, List.set_cons_succ]
          refine wpAnyH_take (i := 3) (oi := ⟨some 25, _, _, _, _, _⟩) (v := ?va3) rfl (by kernel_rfl) (by kernel_rfl) (by kernel_rfl) (fun _ _ _ h => h) (Or.inl ⟨by rfl, ?ya3⟩) hHeld ?ra3
          case ya3 => (intro w' hSw; (try dsimp only at hSw); go_simp; try (with_reducible rfl))
          simp only [Act.put, List.setIfInBounds_toArray, List.set_cons_zero, List.set_cons_succ]
          refine wpAnyH_ready (rs := [2]) (by kernel_rfl) (by simp) ?_
          refine AllReadyH.cons (o := ⟨some 24, _, _, _, _, _⟩) rfl (fun K hK => ?_) AllReadyH.nil
          go_simp
          (with_reducible refine (edges_c _ T _ (HT.out.on (HB2.out.trans (hHeld.1.mono HB2.out.size))) HN.out).mono ?_)
          rintro e w5 ⟨ev, rfl, OE, hb⟩
          obtain ⟨eA, ec, rfl, hE⟩ := Spt.of OE
          have hE2 : Spt w5 (.slice eA (eTo T T.length).length ec) (eTo T T.length) := ⟨_, _, rfl, hE⟩
          (try dsimp only)
          refine hK.out _ _ (HKP.out _ (hHeld.1.trans (hb.mono hHeld.1.size))) (fun hNext => ?_)
          clear hK K hHeld
          have hHeld := hNext
          clear hNext
          try simp only [Act.put, List.setIfInBounds_toArray, List.set_cons_zero, List.set_cons_succ]
          refine wpAnyH_ready (rs := [4]) (by kernel_rfl) (by simp) ?_
          refine AllReadyH.cons (o := ⟨some 26, _, _, _, _, _⟩) rfl (fun K hK => ?_) AllReadyH.nil
          go_simp
          (with_reducible refine (has_spot true _ (eTo T T.length) ya yb _ hE2 HEL.out ⟨fun _ => HIS.out, fun _ => rfl⟩).mono ?_)
          rintro e w6 ⟨rfl, hb⟩
          (try dsimp only)
          refine hK.out _ _ (HKP.out _ (hHeld.1.trans (hb.mono hHeld.1.size))) (fun hNext => ?_)
          clear hK K hHeld
          have hHeld := hNext
          clear hNext
          try simp only [Act.put, List.setIfInBounds_toArray, List.set_cons_zero, List.set_cons_succ]
          refine wpAnyH_take (i := 5) (oi := ⟨some 27, _, _, _, _, _⟩) (v := ?va5) rfl (by kernel_rfl) (by kernel_rfl) (by kernel_rfl) (fun _ _ _ h => h) (Or.inl ⟨by rfl, ?ya5⟩) hHeld ?ra5
          case ya5 => (intro w' hSw; (try dsimp only at hSw); go_simp; try (with_reducible rfl))
          simp only [Act.put, List.setIfInBounds_toArray, List.set_cons_zero, List.set_cons_succ]
          refine wpAnyH_done (by kernel_rfl) ?_ _
          have HB4 := Lib.hid (HB2.out.trans (hHeld.1.mono HB2.out.size))
          have N4 := N2.out.on hHeld.1
          have S4 := S2.out.on hHeld.1
          have R4 := R2.out.on hHeld.1
          clear hHeld HKP HIS f0 f1 f2 f3 z0 z1 z2 z3 q0 q1 q2 q3 B6 hE hE2 hb OE
          obtain ⟨tb, tof, rfl, htb, htc⟩ := HA.out (by rintro rfl; simp at hxa)
          obtain ⟨s, hs, A3, c3, rfl, hLm, hA3⟩ := htc ya L HL.out
          obtain ⟨b3, o3, rfl, hb3, hpc⟩ := hA3 (by rintro rfl; simp at hxb)
          have hap := (hpc yb p HPP.out).2.1
          rw [HPT.out] at hap
          have cs := on_some HB4.out hs
          have cp := on_some HB4.out hap
          obtain ⟨d0, d1, d2, d3, d4⟩ := N4.five
          obtain ⟨e0, e1⟩ := S4.both
          have KP : ∀ W W', (Below w.heap.size w W ∧ W.cell? ⟨w.heap.size, 0, none⟩ = some (.slice (some ⟨tb, tof, none⟩) T.length cap) ∧ W.cell? ⟨w.heap.size + 1, 0, none⟩ = some (.int .i64 (ya : Int)) ∧ W.cell? ⟨w.heap.size + 1, 1, none⟩ = some (.int .i64 (yb : Int)) ∧ W.cell? ⟨tb, tof + ya, none⟩ = some (.slice (some ⟨b3, o3, none⟩) L.length c3) ∧ W.cell? ⟨b3, o3 + yb * 5 + 1, none⟩ = some (.int .i64 (n : Int)) ∧ ∃ x0 x1 x2 x3, Blk W (w.heap.size + 1 + 1) 46 #[x0, x1, x2, x3]) → Below W.heap.size W W' → (Below w.heap.size w W' ∧ W'.cell? ⟨w.heap.size, 0, none⟩ = some (.slice (some ⟨tb, tof, none⟩) T.length cap) ∧ W'.cell? ⟨w.heap.size + 1, 0, none⟩ = some (.int .i64 (ya : Int)) ∧ W'.cell? ⟨w.heap.size + 1, 1, none⟩ = some (.int .i64 (yb : Int)) ∧ W'.cell? ⟨tb, tof + ya, none⟩ = some (.slice (some ⟨b3, o3, none⟩) L.length c3) ∧ W'.cell? ⟨b3, o3 + yb * 5 + 1, none⟩ = some (.int .i64 (n : Int)) ∧ ∃ x0 x1 x2 x3, Blk W' (w.heap.size + 1 + 1) 46 #[x0, x1, x2, x3]) := fun W W' h hb => ⟨h.1.trans (hb.mono h.1.size), on_some hb h.2.1, on_some hb h.2.2.1, on_some hb h.2.2.2.1, on_some hb h.2.2.2.2.1, on_some hb h.2.2.2.2.2.1, (by obtain ⟨x0, x1, x2, x3, hx⟩ := h.2.2.2.2.2.2; exact ⟨x0, x1, x2, x3, hx.on hb⟩)⟩
          have HKP := Lib.hid KP
          have KS : ∀ W (v0 v1 v2 v3 : Value), (Below w.heap.size w W ∧ W.cell? ⟨w.heap.size, 0, none⟩ = some (.slice (some ⟨tb, tof, none⟩) T.length cap) ∧ W.cell? ⟨w.heap.size + 1, 0, none⟩ = some (.int .i64 (ya : Int)) ∧ W.cell? ⟨w.heap.size + 1, 1, none⟩ = some (.int .i64 (yb : Int)) ∧ W.cell? ⟨tb, tof + ya, none⟩ = some (.slice (some ⟨b3, o3, none⟩) L.length c3) ∧ W.cell? ⟨b3, o3 + yb * 5 + 1, none⟩ = some (.int .i64 (n : Int)) ∧ ∃ x0 x1 x2 x3, Blk W (w.heap.size + 1 + 1) 46 #[x0, x1, x2, x3]) → (Below w.heap.size w (W.setCells (w.heap.size + 1 + 1) 0 [v0, v1, v2, v3]) ∧ (W.setCells (w.heap.size + 1 + 1) 0 [v0, v1, v2, v3]).cell? ⟨w.heap.size, 0, none⟩ = some (.slice (some ⟨tb, tof, none⟩) T.length cap) ∧ (W.setCells (w.heap.size + 1 + 1) 0 [v0, v1, v2, v3]).cell? ⟨w.heap.size + 1, 0, none⟩ = some (.int .i64 (ya : Int)) ∧ (W.setCells (w.heap.size + 1 + 1) 0 [v0, v1, v2, v3]).cell? ⟨w.heap.size + 1, 1, none⟩ = some (.int .i64 (yb : Int)) ∧ (W.setCells (w.heap.size + 1 + 1) 0 [v0, v1, v2, v3]).cell? ⟨tb, tof + ya, none⟩ = some (.slice (some ⟨b3, o3, none⟩) L.length c3) ∧ (W.setCells (w.heap.size + 1 + 1) 0 [v0, v1, v2, v3]).cell? ⟨b3, o3 + yb * 5 + 1, none⟩ = some (.int .i64 (n : Int)) ∧ ∃ x0 x1 x2 x3, Blk (W.setCells (w.heap.size + 1 + 1) 0 [v0, v1, v2, v3]) (w.heap.size + 1 + 1) 46 #[x0, x1, x2, x3]) := fun W v0 v1 v2 v3 h => ⟨Below.setCells _ _ _ h.1 (by omega), (cellS (by simp only; omega) _ _ _).trans h.2.1, (cellS (by simp only; omega) _ _ _).trans h.2.2.1, (cellS (by simp only; omega) _ _ _).trans h.2.2.2.1, (cellS (by simp only; omega) _ _ _).trans h.2.2.2.2.1, (cellS (by simp only; omega) _ _ _).trans h.2.2.2.2.2.1, (by obtain ⟨x0, x1, x2, x3, hx⟩ := h.2.2.2.2.2.2; exact ⟨v0, v1, v2, v3, Blk.putC [v0, v1, v2, v3] 0 _ _ hx⟩)⟩
          have HKS := Lib.hid KS
          have HS0 : Hid (Below w.heap.size w w6 ∧ w6.cell? ⟨w.heap.size, 0, none⟩ = some (.slice (some ⟨tb, tof, none⟩) T.length cap) ∧ w6.cell? ⟨w.heap.size + 1, 0, none⟩ = some (.int .i64 (ya : Int)) ∧ w6.cell? ⟨w.heap.size + 1, 1, none⟩ = some (.int .i64 (yb : Int)) ∧ w6.cell? ⟨tb, tof + ya, none⟩ = some (.slice (some ⟨b3, o3, none⟩) L.length c3) ∧ w6.cell? ⟨b3, o3 + yb * 5 + 1, none⟩ = some (.int .i64 (n : Int)) ∧ ∃ x0 x1 x2 x3, Blk w6 (w.heap.size + 1 + 1) 46 #[x0, x1, x2, x3]) := ⟨HB4.out, d0, e0, e1, cs, cp, _, _, _, _, R4⟩
          have hxaz : (ya : Int) < (T.length : Int) := by omega
          have hxbz : (yb : Int) < (L.length : Int) := by omega
          have hn3z : (n : Int) ≤ 3 := by omega
          clear KP KS d0 d1 d2 d3 d4 e0 e1 cs cp N4 S4 R4 hs hap htc hA3 hpc
          go_upto_region 8 with (fail)
          refine wp_region_held_drew (S := fun w' => Below w.heap.size w w' ∧ w'.cell? ⟨w.heap.size, 0, none⟩ = some (.slice (some ⟨tb, tof, none⟩) T.length cap) ∧ w'.cell? ⟨w.heap.size + 1, 0, none⟩ = some (.int .i64 (ya : Int)) ∧ w'.cell? ⟨w.heap.size + 1, 1, none⟩ = some (.int .i64 (yb : Int)) ∧ w'.cell? ⟨tb, tof + ya, none⟩ = some (.slice (some ⟨b3, o3, none⟩) L.length c3) ∧ w'.cell? ⟨b3, o3 + yb * 5 + 1, none⟩ = some (.int .i64 (n : Int)) ∧ ∃ x0 x1 x2 x3, Blk w' (w.heap.size + 1 + 1) 46 #[x0, x1, x2, x3]) (by kernel_rfl) (HKP.out _ _ HS0.out (Below.refl _ w6).drew) (fun hHeld => ?_)
          refine wpAnyH_take (i := 0) (oi := ⟨some 29, _, _, _, _, _⟩) (v := ?vs0) rfl (by kernel_rfl) (by kernel_rfl) (by kernel_rfl) (fun _ _ _ h => h) (Or.inl ⟨by rfl, ?ys0⟩) hHeld ?rs0
          case ys0 => (intro w' hSw; (try dsimp only at hSw); go_simp; try (with_reducible rfl))
          simp only [Act.put, List.setIfInBounds_toArray, List.set_cons_zero, List.set_cons_succ]
          refine wpAnyH_take (i := 1) (oi := ⟨some 30, _, _, _, _, _⟩) (v := ?vs1) rfl (by kernel_rfl) (by kernel_rfl) (by kernel_rfl) (fun _ _ _ h => h) (Or.inl ⟨by rfl, ?ys1⟩) hHeld ?rs1
          case ys1 => (intro w' hSw; (try dsimp only at hSw); go_simp; try (with_reducible rfl))
          simp only [Act.put, List.setIfInBounds_toArray, List.set_cons_zero, List.set_cons_succ]
          refine wpAnyH_take (i := 2) (oi := ⟨some 31, _, _, _, _, _⟩) (v := ?vs2) rfl (by kernel_rfl) (by kernel_rfl) (by kernel_rfl) (fun _ _ _ h => h) (Or.inl ⟨by rfl, ?ys2⟩) hHeld ?rs2
          case ys2 => (intro w' hSw; (try dsimp only at hSw); go_simp; try (with_reducible rfl))
          simp only [Act.put, List.setIfInBounds_toArray, List.set_cons_zero, List.set_cons_succ]
          refine wpAnyH_take (i := 3) (oi := ⟨some 32, _, _, _, _, _⟩) (v := ?vs3) rfl (by kernel_rfl) (by kernel_rfl) (by kernel_rfl) (fun _ _ _ h => h) (Or.inl ⟨by rfl, ?ys3⟩) hHeld ?rs3
          case ys3 => (intro w' hSw; (try dsimp only at hSw); go_simp; try (with_reducible rfl))
          simp only [Act.put, List.setIfInBounds_toArray, List.set_cons_zero, List.set_cons_succ]
          refine wpAnyH_take (i := 4) (oi := ⟨some 33, _, _, _, _, _⟩) (v := ?vs4) rfl (by kernel_rfl) (by kernel_rfl) (by kernel_rfl) (fun _ _ _ h => h) (Or.inl ⟨by rfl, ?ys4⟩) hHeld ?rs4
          case ys4 => (intro w' hSw; (try dsimp only at hSw); go_simp; try (with_reducible rfl))
          simp only [Act.put, List.setIfInBounds_toArray, List.set_cons_zero, List.set_cons_succ]
          refine wpAnyH_take (i := 5) (oi := ⟨some 34, _, _, _, _, _⟩) (v := ?vs5) rfl (by kernel_rfl) (by kernel_rfl) (by kernel_rfl) (fun _ _ _ h => h) (Or.inl ⟨by rfl, ?ys5⟩) hHeld ?rs5
          case ys5 => (intro w' hSw; (try dsimp only at hSw); go_simp; try (with_reducible rfl))
          simp only [Act.put, List.setIfInBounds_toArray, List.set_cons_zero, List.set_cons_succ]
          refine wpAnyH_take (i := 6) (oi := ⟨some 35, _, _, _, _, _⟩) (v := ?vs6) rfl (by kernel_rfl) (by kernel_rfl) (by kernel_rfl) (fun _ _ _ h => h) (Or.inl ⟨by rfl, ?ys6⟩) hHeld ?rs6
          case ys6 => (intro w' hSw; (try dsimp only at hSw); go_simp; try (with_reducible rfl))
          simp only [Act.put, List.setIfInBounds_toArray, List.set_cons_zero, List.set_cons_succ]
          refine wpAnyH_take (i := 7) (oi := ⟨some 36, _, _, _, _, _⟩) (v := ?vs7) rfl (by kernel_rfl) (by kernel_rfl) (by kernel_rfl) (fun _ _ _ h => h) (Or.inl ⟨by rfl, ?ys7⟩) hHeld ?rs7
          case ys7 => (intro w' hSw; (try dsimp only at hSw); go_simp; try (with_reducible rfl))
          simp only [Act.put, List.setIfInBounds_toArray, List.set_cons_zero, List.set_cons_succ]
          refine wpAnyH_take (i := 8) (oi := ⟨some 37, _, _, _, _, _⟩) (v := ?vs8) rfl (by kernel_rfl) (by kernel_rfl) (by kernel_rfl) (fun _ _ _ h => h) (Or.inl ⟨by rfl, ?ys8⟩) hHeld ?rs8
          case ys8 => (intro w' hSw; (try dsimp only at hSw); go_simp; try (with_reducible rfl))
          simp only [Act.put, List.setIfInBounds_toArray, List.set_cons_zero, List.set_cons_succ]
          refine wpAnyH_take (i := 9) (oi := ⟨some 38, _, _, _, _, _⟩) (v := ?vs9) rfl (by kernel_rfl) (by kernel_rfl) (by kernel_rfl) (fun _ _ _ h => h) (Or.inl ⟨by rfl, ?ys9⟩) hHeld ?rs9
          case ys9 => (intro w' hSw; (try dsimp only at hSw); go_simp; try (with_reducible rfl))
          simp only [Act.put, List.setIfInBounds_toArray, List.set_cons_zero, List.set_cons_succ]
          refine wpAnyH_take (i := 10) (oi := ⟨some 39, _, _, _, _, _⟩) (v := ?vs10) rfl (by kernel_rfl) (by kernel_rfl) (by kernel_rfl) (fun _ _ _ h => h) (Or.inl ⟨by rfl, ?ys10⟩) hHeld ?rs10
          case ys10 => (intro w' hSw; (try dsimp only at hSw); go_simp; try (with_reducible rfl))
          simp only [Act.put, List.setIfInBounds_toArray, List.set_cons_zero, List.set_cons_succ]
          refine wpAnyH_take (i := 11) (oi := ⟨some 40, _, _, _, _, _⟩) (v := ?vs11) rfl (by kernel_rfl) (by kernel_rfl) (by kernel_rfl) (fun _ _ _ h => h) (Or.inl ⟨by rfl, ?ys11⟩) hHeld ?rs11
          case ys11 => (intro w' hSw; (try dsimp only at hSw); go_simp; try (with_reducible rfl))
          simp only [Act.put, List.setIfInBounds_toArray, List.set_cons_zero, List.set_cons_succ]
          refine wpAnyH_take (i := 12) (oi := ⟨some 41, _, _, _, _, _⟩) (v := ?vs12) rfl (by kernel_rfl) (by kernel_rfl) (by kernel_rfl) (fun _ _ _ h => h) (Or.inl ⟨by rfl, ?ys12⟩) hHeld ?rs12
          case ys12 => (intro w' hSw; (try dsimp only at hSw); go_simp; try (with_reducible rfl))
          simp only [Act.put, List.setIfInBounds_toArray, List.set_cons_zero, List.set_cons_succ]
          refine wpAnyH_ready (rs := [13]) (by kernel_rfl) (by simp) ?_
          refine AllReadyH.cons (o := ⟨some 42, _, _, _, _, _⟩) rfl (fun K hK => ?_) AllReadyH.nil
          go_simp
          (with_reducible refine (stamped_c n m hn3 hm5 _).mono ?_)
          rintro e w8 ⟨cvh, cvl, cch, ccl, rfl, hS, hb⟩
          have HSB := Lib.hid hS
          (try dsimp only)
          refine hK.out _ _ (HKP.out _ _ hHeld hb) (fun hNext => ?_)
          clear hK K hHeld
          have hHeld := hNext
          clear hNext
          try simp only [Act.put, List.setIfInBounds_toArray, List.set_cons_zero, List.set_cons_succ]
          refine wpAnyH_take (i := 14) (oi := ⟨some 43, _, _, _, _, _⟩) (v := ?vs14) rfl (by kernel_rfl) (by kernel_rfl) (by kernel_rfl) (fun _ _ _ h => h) (Or.inl ⟨by rfl, ?ys14⟩) hHeld ?rs14
          case ys14 => (intro w' hSw; (try dsimp only at hSw); go_simp; try (with_reducible rfl))
          simp only [Act.put, List.setIfInBounds_toArray, List.set_cons_zero, List.set_cons_succ]
          refine wpAnyH_take (i := 15) (oi := ⟨some 44, _, _, _, _, _⟩) (v := ?vs15) rfl (by kernel_rfl) (by kernel_rfl) (by kernel_rfl) (fun _ _ _ h => h) (Or.inl ⟨by rfl, ?ys15⟩) hHeld ?rs15
          case ys15 => (intro w' hSw; (try dsimp only at hSw); go_simp; try (with_reducible rfl))
          simp only [Act.put, List.setIfInBounds_toArray, List.set_cons_zero, List.set_cons_succ]
          refine wpAnyH_ready (rs := [16]) (by kernel_rfl) (by simp) ?_
          refine AllReadyH.cons (o := ⟨none, _, _, _, _, _⟩) rfl (fun K hK => ?_) AllReadyH.nil
          obtain ⟨x0, x1, x2, x3, KR⟩ := hHeld.2.2.2.2.2.2
          rw [if_pos (by rfl)]
          refine wp_store_mid 46 _ _ rfl (w.heap.size + 1 + 1) 0 #[.int .u64 (uv cvh), .int .u64 (uv cvl), .int .u64 (uv cch), .int .u64 (uv ccl)] rfl rfl (show World.there _ _ _ 4 from there4 KR) infoCubeS (by simp [Value.oneCell']) ?_
          (try dsimp only)
          refine hK.out _ _ (HKS.out _ _ _ _ _ hHeld) (fun hNext => ?_)
          clear hK K hHeld
          have hHeld := hNext
          clear hNext
          try simp only [Act.put]
          refine wpAnyH_take (i := 17) (oi := ⟨some 7, _, _, _, _, _⟩) (v := ?vs17) rfl (by kernel_rfl) (by kernel_rfl) (by kernel_rfl) (fun _ _ _ h => h) (Or.inl ⟨by rfl, ?ys17⟩) hHeld ?rs17
          case ys17 => (intro w' hSw; (try dsimp only at hSw); go_simp; try (with_reducible rfl))
          simp only [Act.put, List.setIfInBounds_toArray, List.set_cons_zero, List.set_cons_succ]
          refine wpAnyH_done (by kernel_rfl) ?_ _
          have HBE := Lib.hid hHeld.1
          have KE := Blk.putC [.int .u64 (uv cvh), .int .u64 (uv cvl), .int .u64 (uv cch), .int .u64 (uv ccl)] 0 _ _ KR
          obtain ⟨q0, q1, q2, q3⟩ := quad KE
          clear hHeld HKP HKS HS0 KE KR
          go_wp2
          exact bodyPost_ret (v := .tuple #[.agg #[.int .u64 (uv cvh), .int .u64 (uv cvl), .int .u64 (uv cch), .int .u64 (uv ccl)], .int .i64 0]) (by simp [results, Try.results16, go_sem, q0, q1, q2, q3]) rfl ⟨by rw [HZ.out]; exact stmR_yes hn3 hm5 HED.out HSB.out, HBE.out⟩
        · have HED : Hid (edgT T a b < 0) := by show _ < _; rw [not_edge his]; decide
          have KP : ∀ W, Below w2.heap.size w2 W → (Below w2.heap.size w2 W ∧ W.cell? ⟨w.heap.size, 0, none⟩ = some (.slice A T.length cap) ∧ W.cell? ⟨w.heap.size + 1, 0, none⟩ = some (.int .i64 a) ∧ W.cell? ⟨w.heap.size + 1, 1, none⟩ = some (.int .i64 b)) := fun W hb => ⟨hb, on_some hb d0, on_some hb e0, on_some hb e1⟩
          have HKP := Lib.hid KP
          have HIS : Hid (¬ isSp (eTo T T.length) a b) := his
          have HEL := Lib.hid hEl
          have HN := Lib.hid hn
          clear KP d0 d1 d2 d3 d4 e0 e1 his hEl hn
          go_upto_region 6 with (fail)
          refine wp_region_held_drew (S := fun w' => Below w2.heap.size w2 w' ∧ w'.cell? ⟨w.heap.size, 0, none⟩ = some (.slice A T.length cap) ∧ w'.cell? ⟨w.heap.size + 1, 0, none⟩ = some (.int .i64 a) ∧ w'.cell? ⟨w.heap.size + 1, 1, none⟩ = some (.int .i64 b)) (by kernel_rfl) (HKP.out _ (Below.refl _ w2).drew) (fun hHeld => ?_)
          refine wpAnyH_take (i := 0) (oi := ⟨some 22, _, _, _, _, _⟩) (v := ?vb0) rfl (by kernel_rfl) (by kernel_rfl) (by kernel_rfl) (fun _ _ _ h => h) (Or.inl ⟨by rfl, ?yb0⟩) hHeld ?rb0
          case yb0 => (intro w' hSw; (try dsimp only at hSw); go_simp; try (with_reducible rfl))
          simp only [Act.put, List.setIfInBounds_toArray, List.set_cons_zero, List.set_cons_succ]
          refine wpAnyH_take (i := 1) (oi := ⟨some 23, _, _, _, _, _⟩) (v := ?vb1) rfl (by kernel_rfl) (by kernel_rfl) (by kernel_rfl) (fun _ _ _ h => h) (Or.inl ⟨by rfl, ?yb1⟩) hHeld ?rb1
          case yb1 => (intro w' hSw; (try dsimp only at hSw); go_simp; try (with_reducible rfl))
          simp only [Act.put, List.setIfInBounds_toArray, List.set_cons_zero, List.set_cons_succ]
          refine wpAnyH_take (i := 3) (oi := ⟨some 25, _, _, _, _, _⟩) (v := ?vb3) rfl (by kernel_rfl) (by kernel_rfl) (by kernel_rfl) (fun _ _ _ h => h) (Or.inl ⟨by rfl, ?yb3⟩) hHeld ?rb3
          case yb3 => (intro w' hSw; (try dsimp only at hSw); go_simp; try (with_reducible rfl))
          simp only [Act.put, List.setIfInBounds_toArray, List.set_cons_zero, List.set_cons_succ]
          refine wpAnyH_ready (rs := [2]) (by kernel_rfl) (by simp) ?_
          refine AllReadyH.cons (o := ⟨some 24, _, _, _, _, _⟩) rfl (fun K hK => ?_) AllReadyH.nil
          go_simp
          (with_reducible refine (edges_c _ T _ (HT.out.on (HB2.out.trans (hHeld.1.mono HB2.out.size))) HN.out).mono ?_)
          rintro e w5 ⟨ev, rfl, OE, hb⟩
          obtain ⟨eA, ec, rfl, hE⟩ := Spt.of OE
          have hE2 : Spt w5 (.slice eA (eTo T T.length).length ec) (eTo T T.length) := ⟨_, _, rfl, hE⟩
          (try dsimp only)
          refine hK.out _ _ (HKP.out _ (hHeld.1.trans (hb.mono hHeld.1.size))) (fun hNext => ?_)
          clear hK K hHeld
          have hHeld := hNext
          clear hNext
          try simp only [Act.put, List.setIfInBounds_toArray, List.set_cons_zero, List.set_cons_succ]
          refine wpAnyH_ready (rs := [4]) (by kernel_rfl) (by simp) ?_
          refine AllReadyH.cons (o := ⟨some 26, _, _, _, _, _⟩) rfl (fun K hK => ?_) AllReadyH.nil
          go_simp
          (with_reducible refine (has_spot false _ (eTo T T.length) a b _ hE2 HEL.out ⟨fun h => (by cases h), fun h => absurd h HIS.out⟩).mono ?_)
          rintro e w6 ⟨rfl, hb⟩
          (try dsimp only)
          refine hK.out _ _ (HKP.out _ (hHeld.1.trans (hb.mono hHeld.1.size))) (fun hNext => ?_)
          clear hK K hHeld
          have hHeld := hNext
          clear hNext
          try simp only [Act.put, List.setIfInBounds_toArray, List.set_cons_zero, List.set_cons_succ]
          refine wpAnyH_take (i := 5) (oi := ⟨some 27, _, _, _, _, _⟩) (v := ?vb5) rfl (by kernel_rfl) (by kernel_rfl) (by kernel_rfl) (fun _ _ _ h => h) (Or.inl ⟨by rfl, ?yb5⟩) hHeld ?rb5
          case yb5 => (intro w' hSw; (try dsimp only at hSw); go_simp; try (with_reducible rfl))
          simp only [Act.put, List.setIfInBounds_toArray, List.set_cons_zero, List.set_cons_succ]
          refine wpAnyH_done (by kernel_rfl) ?_ _
          have HB4 := Lib.hid (HB2.out.trans (hHeld.1.mono HB2.out.size))
          have R4 := R2.out.on hHeld.1
          clear hHeld HKP HIS f0 f1 f2 f3 z0 z1 z2 z3 q0 q1 q2 q3 B6 hE hE2 hb OE
          obtain ⟨f0, f1, f2, f3⟩ := free4 R4
          obtain ⟨z0, z1, z2, z3⟩ := quad R4
          obtain ⟨q0, q1, q2, q3⟩ := quad (put4 R4 (.int .u64 0) (.int .u64 0) (.int .u64 0) (.int .u64 0))
          have B6 := Lib.hid (HB4.out.trans ((sets4 w6 (w.heap.size + 1 + 1) (.int .u64 0) (.int .u64 0) (.int .u64 0) (.int .u64 0)).mono (by omega)))
          clear R4
          go_wp2
          exact bodyPost_ret (v := .tuple #[.agg #[.int .u64 0, .int .u64 0, .int .u64 0, .int .u64 0], .int .i64 7]) (by simp [results, Try.results16, go_sem, q0, q1, q2, q3]) rfl ⟨by rw [HZ.out]; exact stmR_none HR.out HED.out, B6.out⟩
  · have HNZ := Lib.hid hz0
    go_wp2
    exact bodyPost_ret (v := .tuple #[.agg #[.int .u64 0, .int .u64 0, .int .u64 0, .int .u64 0], .int .i64 z]) (by simp [results, Try.results16, go_sem, q0, q1, q2, q3]) rfl ⟨by rw [HZ.out]; exact stmR_bad HNZ.out, B6.out⟩
end Go.Proofs

namespace Go.Proofs
open Go.RowKit Go.Proofs.Hd Go.Lib
attribute [local go_sem high] run_eqR
attribute [local go_sem] uv_nonneg
set_option maxRecDepth 100000 in
set_option maxHeartbeats 4000000 in
theorem seq_rule (x : Bool) (v u : Value) (L M : List Rl) (w : World) (hv : Ru w v L) (hu : Ru w u M) (hLm : L.length ≤ maxLen) (hx : x = true ↔ L = M) : Calls Try.prog 69 #[v, u] w fun e w' => e = .returned (.bool x) ∧ Below w.heap.size w w' := by
  have hLz : (L.length : Int) ≤ 9223372036854775807 := by unfold maxLen at hLm; omega
  obtain ⟨A, c, rfl, hA⟩ := hv.form
  obtain ⟨B, d, rfl, hB⟩ := hu.form
  have HA := Lib.hid hA
  have HB := Lib.hid hB
  have HX := Lib.hid hx
  clear hA hB hx
  by_cases hl : L.length = M.length
  · have HL := Lib.hid hl
    have hne : ((L.length : Int) != (M.length : Int)) = false := by rw [hl]; simp
    obtain ⟨n, hn1, hn2⟩ : ∃ n : Nat, Hid (L.length = n) ∧ Hid (M.length = n) := ⟨L.length, rfl, hl.symm⟩
    clear hl hne hLm
    rw [hn1.out] at hLz ⊢
    rw [hn2.out]
    go_enter Try.func69, Try.ntmps69
    go_wp2
    go_loopg [5, 13] n (fun gk _ s13 wr => ∃ k : Nat, k ≤ n ∧ gk = n - k ∧ s13 = .int .i64 k ∧ Hid (∀ j, j < k → L[j]? = M[j]?) ∧ Hid (Below w.heap.size w wr))
    case atStart => exact ⟨0, Nat.zero_le _, rfl, rfl, fun j hj => absurd hj (Nat.not_lt_zero _), Below.refl _ _⟩
    case round =>
      obtain ⟨k, hk, rfl, rfl, HE, HW⟩ := hrel
      by_cases hlt : k < n
      · have hltz : (k : Int) < (n : Int) := by omega
        obtain ⟨a, ha⟩ : ∃ a, L[k]? = some a := ⟨_, List.getElem?_eq_getElem (by have := hn1.out; omega)⟩
        obtain ⟨b, hb⟩ : ∃ b, M[k]? = some b := ⟨_, List.getElem?_eq_getElem (by have := hn2.out; omega)⟩
        obtain ⟨ab, ao, rfl, _, hac⟩ := HA.out (by rintro rfl; simp at ha)
        obtain ⟨bb, bo, rfl, _, hbc⟩ := HB.out (by rintro rfl; simp at hb)
        obtain ⟨ta0, ta1, ta2, ta3, ta4, ta5, ta6, ta7, ta8, ta9, ta10, ta11⟩ := ((hac k a ha).on HW.out).out
        obtain ⟨tb0, tb1, tb2, tb3, tb4, tb5, tb6, tb7, tb8, tb9, tb10, tb11⟩ := ((hbc k b hb).on HW.out).out
        have HKA := Lib.hid ha
        have HKB := Lib.hid hb
        clear hac hbc ha hb
        cases hq : eqR a b with
        | true =>
          have HQ : Hid (a = b) := eqR_iff.1 hq
          go_wp2_with fail
          go_quiet (fail)
          have HW2 := Lib.hid (bldrewN HW.out nq)
          go_wp2
          go_roundg (n - (k + 1))
          case measure => omega
          case rel =>
            refine ⟨k + 1, by omega, rfl, by go_num, (fun j hj => ?_), HW2.out⟩
            by_cases e : j = k
            · subst e; rw [HKA.out, HKB.out, HQ.out]
            · exact HE.out j (by omega)
        | false =>
          have HQ : Hid (x = false) := by
            show _ = _
            cases hxx : x with
            | false => rfl
            | true =>
              exfalso
              have e := HX.out.1 hxx
              have e2 := HKA.out
              rw [e, HKB.out] at e2
              injection e2 with e2
              rw [eqR_iff.2 e2.symm] at hq
              cases hq
          go_wp2_with fail
          go_quiet (fail)
          have HW2 := Lib.hid (bldrewN HW.out nq)
          go_wp2
          go_ret
          exact ⟨by rw [HQ.out]; rfl, HW2.out⟩
      · have hltz : ¬ (k : Int) < (n : Int) := by omega
        have HQ : Hid (x = true) := by
          show _ = _
          refine HX.out.2 (List.ext_getElem? fun j => ?_)
          by_cases hj : j < k
          · exact HE.out j hj
          · rw [List.getElem?_eq_none (by have := hn1.out; omega), List.getElem?_eq_none (by have := hn2.out; omega)]
        go_wp2
        go_ret
        exact ⟨by rw [HQ.out]; rfl, HW.out⟩
  · have hne : ((L.length : Int) != (M.length : Int)) = true := by rw [bne_iff_ne]; omega
    have HQ : Hid (x = false) := by
      show _ = _
      cases hxx : x with
      | false => rfl
      | true => exact absurd (congrArg List.length (HX.out.1 hxx)) hl
    have hlz : ¬ (L.length : Int) = (M.length : Int) := by omega
    clear hl
    go_enter Try.func69, Try.ntmps69
    go_wp2
    go_ret
    exact ⟨by rw [HQ.out]; rfl, Below.refl _ _⟩
end Go.Proofs

namespace Go.Proofs
open Go.RowKit Go.Proofs.Hd Go.Lib
set_option maxRecDepth 100000 in
set_option maxHeartbeats 2000000 in
theorem efn_ports (x : Bool) (v u : Value) (T S : List (List Pt)) (w : World) (hv : PsT w v T) (hu : PsT w u S) (hx : x = true ↔ T = S) : Calls Try.prog 66 #[v, u, .func (.func 67) #[] #[]] w fun e w' => e = .returned (.bool x) ∧ Below w.heap.size w w' := by
  have eg : ∀ args w, (callFunc 67 args).run Try.prog w = .ok (.enter 67 args) w := enters_of Try.func67 (by kernel_rfl) rfl
  obtain ⟨A, c, rfl, hTm, hA⟩ := hv
  obtain ⟨B, d, rfl, hSm, hB⟩ := hu
  have hTz : (T.length : Int) ≤ 9223372036854775807 := by unfold maxLen at hTm; omega
  have HA := Lib.hid hA
  have HB := Lib.hid hB
  have HX := Lib.hid hx
  clear hA hB hx hSm
  by_cases hl : T.length = S.length
  · have hne : ((T.length : Int) != (S.length : Int)) = false := by rw [hl]; simp
    obtain ⟨n, hn1, hn2⟩ : ∃ n : Nat, Hid (T.length = n) ∧ Hid (S.length = n) := ⟨T.length, rfl, hl.symm⟩
    clear hl hne hTm
    rw [hn1.out] at hTz ⊢
    rw [hn2.out]
    go_enter Try.func66, Try.ntmps66
    go_wp2
    go_loopg [7, 8, 9, 17] n (fun gk _ _ _ s17 wr => ∃ k : Nat, k ≤ n ∧ gk = n - k ∧ s17 = .int .i64 k ∧ Hid (∀ j, j < k → T[j]? = S[j]?) ∧ Hid (Below w.heap.size w wr))
    case atStart => exact ⟨0, Nat.zero_le _, rfl, rfl, fun j hj => absurd hj (Nat.not_lt_zero _), Below.refl _ _⟩
    case round =>
      obtain ⟨k, hk, rfl, rfl, HE, HW⟩ := hrel
      by_cases hlt : k < n
      · have hltz : (k : Int) < (n : Int) := by omega
        obtain ⟨a, ha⟩ : ∃ a, T[k]? = some a := ⟨_, List.getElem?_eq_getElem (by have := hn1.out; omega)⟩
        obtain ⟨b, hb⟩ : ∃ b, S[k]? = some b := ⟨_, List.getElem?_eq_getElem (by have := hn2.out; omega)⟩
        obtain ⟨ab, ao, rfl, _, hac⟩ := HA.out (by rintro rfl; simp at ha)
        obtain ⟨bb, bo, rfl, _, hbc⟩ := HB.out (by rintro rfl; simp at hb)
        obtain ⟨s1, hs1, hR1⟩ := hac k a ha
        obtain ⟨s2, hs2, hR2⟩ := hbc k b hb
        have y1 := on_some HW.out hs1
        have y2 := on_some HW.out hs2
        have HR1 := Lib.hid (hR1.on HW.out)
        have HR2 := Lib.hid (hR2.on HW.out)
        have HM := Lib.hid (show a.length ≤ maxLen from by obtain ⟨_, _, _, h, _⟩ := hR1; exact h)
        obtain ⟨A1, c1, rfl, -⟩ := id hR1
        obtain ⟨A2, c2, rfl, -⟩ := id hR2
        have HKA := Lib.hid ha
        have HKB := Lib.hid hb
        clear hac hbc ha hb hs1 hs2 hR1 hR2
        obtain ⟨y, hy⟩ : ∃ y : Bool, Hid (y = true ↔ a = b) := by
          by_cases e : a = b
          · exact ⟨true, fun _ => e, fun _ => rfl⟩
          · exact ⟨false, fun h => (by cases h), fun h => absurd h e⟩
        have hcall := seq_port y _ _ a b wr HR1.out HR2.out HM.out hy.out
        cases y with
        | true =>
          have HAB : Hid (a = b) := hy.out.1 rfl
          clear hy
          go_wp2_with (go_at_fn 67; refine hcall.mono ?_; rintro e w1 ⟨rfl, hb1⟩)
          go_roundg (n - (k + 1))
          case measure => omega
          case rel =>
            refine ⟨k + 1, by omega, rfl, by go_num, (fun j hj => ?_), HW.out.trans (hb1.mono HW.out.size)⟩
            by_cases e : j = k
            · subst e; rw [HKA.out, HKB.out, HAB.out]
            · exact HE.out j (by omega)
        | false =>
          have HQ : Hid (x = false) := by
            show _ = _
            cases hxx : x with
            | false => rfl
            | true =>
              exfalso
              have e := HX.out.1 hxx
              have e2 := HKA.out
              rw [e, HKB.out] at e2
              injection e2 with e2
              have e3 := hy.out.2 e2.symm
              cases e3
          go_wp2_with (go_at_fn 67; refine hcall.mono ?_; rintro e w1 ⟨rfl, hb1⟩)
          go_ret
          exact ⟨by rw [HQ.out]; rfl, HW.out.trans (hb1.mono HW.out.size)⟩
      · have hltz : ¬ (k : Int) < (n : Int) := by omega
        have HQ : Hid (x = true) := by
          show _ = _
          refine HX.out.2 (List.ext_getElem? fun j => ?_)
          by_cases hj : j < k
          · exact HE.out j hj
          · rw [List.getElem?_eq_none (by have := hn1.out; omega), List.getElem?_eq_none (by have := hn2.out; omega)]
        go_wp2
        go_ret
        exact ⟨by rw [HQ.out]; rfl, HW.out⟩
  · have hne : ((T.length : Int) != (S.length : Int)) = true := by rw [bne_iff_ne]; omega
    have HQ : Hid (x = false) := by
      show _ = _
      cases hxx : x with
      | false => rfl
      | true => exact absurd (congrArg List.length (HX.out.1 hxx)) hl
    have hlz : ¬ (T.length : Int) = (S.length : Int) := by omega
    clear hl
    go_enter Try.func66, Try.ntmps66
    go_wp2
    go_ret
    exact ⟨by rw [HQ.out]; rfl, Below.refl _ _⟩
set_option maxRecDepth 100000 in
set_option maxHeartbeats 2000000 in
theorem efn_rules (x : Bool) (v u : Value) (T S : List (List Rl)) (w : World) (hv : RuT w v T) (hu : RuT w u S) (hx : x = true ↔ T = S) : Calls Try.prog 68 #[v, u, .func (.func 69) #[] #[]] w fun e w' => e = .returned (.bool x) ∧ Below w.heap.size w w' := by
  have eg : ∀ args w, (callFunc 69 args).run Try.prog w = .ok (.enter 69 args) w := enters_of Try.func69 (by kernel_rfl) rfl
  obtain ⟨A, c, rfl, hTm, hTM, hA⟩ := hv
  obtain ⟨B, d, rfl, hSm, -, hB⟩ := hu
  have hTz : (T.length : Int) ≤ 9223372036854775807 := by unfold maxLen at hTm; omega
  have HA := Lib.hid hA
  have HB := Lib.hid hB
  have HX := Lib.hid hx
  clear hA hB hx hSm
  by_cases hl : T.length = S.length
  · have hne : ((T.length : Int) != (S.length : Int)) = false := by rw [hl]; simp
    obtain ⟨n, hn1, hn2⟩ : ∃ n : Nat, Hid (T.length = n) ∧ Hid (S.length = n) := ⟨T.length, rfl, hl.symm⟩
    clear hl hne hTm
    rw [hn1.out] at hTz ⊢
    rw [hn2.out]
    go_enter Try.func68, Try.ntmps68
    go_wp2
    go_loopg [7, 8, 9, 17] n (fun gk _ _ _ s17 wr => ∃ k : Nat, k ≤ n ∧ gk = n - k ∧ s17 = .int .i64 k ∧ Hid (∀ j, j < k → T[j]? = S[j]?) ∧ Hid (Below w.heap.size w wr))
    case atStart => exact ⟨0, Nat.zero_le _, rfl, rfl, fun j hj => absurd hj (Nat.not_lt_zero _), Below.refl _ _⟩
    case round =>
      obtain ⟨k, hk, rfl, rfl, HE, HW⟩ := hrel
      by_cases hlt : k < n
      · have hltz : (k : Int) < (n : Int) := by omega
        obtain ⟨a, ha⟩ : ∃ a, T[k]? = some a := ⟨_, List.getElem?_eq_getElem (by have := hn1.out; omega)⟩
        obtain ⟨b, hb⟩ : ∃ b, S[k]? = some b := ⟨_, List.getElem?_eq_getElem (by have := hn2.out; omega)⟩
        obtain ⟨ab, ao, rfl, _, hac⟩ := HA.out (by rintro rfl; simp at ha)
        obtain ⟨bb, bo, rfl, _, hbc⟩ := HB.out (by rintro rfl; simp at hb)
        obtain ⟨s1, hs1, hR1⟩ := hac k a ha
        obtain ⟨s2, hs2, hR2⟩ := hbc k b hb
        have y1 := on_some HW.out hs1
        have y2 := on_some HW.out hs2
        have HR1 := Lib.hid (hR1.on HW.out)
        have HR2 := Lib.hid (hR2.on HW.out)
        have HM := Lib.hid (hTM a (List.mem_of_getElem? ha))
        obtain ⟨A1, c1, rfl, -⟩ := hR1.form
        obtain ⟨A2, c2, rfl, -⟩ := hR2.form
        have HKA := Lib.hid ha
        have HKB := Lib.hid hb
        clear hac hbc ha hb hs1 hs2 hR1 hR2
        obtain ⟨y, hy⟩ : ∃ y : Bool, Hid (y = true ↔ a = b) := by
          by_cases e : a = b
          · exact ⟨true, fun _ => e, fun _ => rfl⟩
          · exact ⟨false, fun h => (by cases h), fun h => absurd h e⟩
        have hcall := seq_rule y _ _ a b wr HR1.out HR2.out HM.out hy.out
        cases y with
        | true =>
          have HAB : Hid (a = b) := hy.out.1 rfl
          clear hy
          go_wp2_with (go_at_fn 69; refine hcall.mono ?_; rintro e w1 ⟨rfl, hb1⟩)
          go_roundg (n - (k + 1))
          case measure => omega
          case rel =>
            refine ⟨k + 1, by omega, rfl, by go_num, (fun j hj => ?_), HW.out.trans (hb1.mono HW.out.size)⟩
            by_cases e : j = k
            · subst e; rw [HKA.out, HKB.out, HAB.out]
            · exact HE.out j (by omega)
        | false =>
          have HQ : Hid (x = false) := by
            show _ = _
            cases hxx : x with
            | false => rfl
            | true =>
              exfalso
              have e := HX.out.1 hxx
              have e2 := HKA.out
              rw [e, HKB.out] at e2
              injection e2 with e2
              have e3 := hy.out.2 e2.symm
              cases e3
          go_wp2_with (go_at_fn 69; refine hcall.mono ?_; rintro e w1 ⟨rfl, hb1⟩)
          go_ret
          exact ⟨by rw [HQ.out]; rfl, HW.out.trans (hb1.mono HW.out.size)⟩
      · have hltz : ¬ (k : Int) < (n : Int) := by omega
        have HQ : Hid (x = true) := by
          show _ = _
          refine HX.out.2 (List.ext_getElem? fun j => ?_)
          by_cases hj : j < k
          · exact HE.out j hj
          · rw [List.getElem?_eq_none (by have := hn1.out; omega), List.getElem?_eq_none (by have := hn2.out; omega)]
        go_wp2
        go_ret
        exact ⟨by rw [HQ.out]; rfl, HW.out⟩
  · have hne : ((T.length : Int) != (S.length : Int)) = true := by rw [bne_iff_ne]; omega
    have HQ : Hid (x = false) := by
      show _ = _
      cases hxx : x with
      | false => rfl
      | true => exact absurd (congrArg List.length (HX.out.1 hxx)) hl
    have hlz : ¬ (T.length : Int) = (S.length : Int) := by omega
    clear hl
    go_enter Try.func68, Try.ntmps68
    go_wp2
    go_ret
    exact ⟨by rw [HQ.out]; rfl, Below.refl _ _⟩
set_option maxRecDepth 100000 in
theorem same_ports (x : Bool) (v u : Value) (T S : List (List Pt)) (w : World) (hv : PsT w v T) (hu : PsT w u S) (hx : x = true ↔ T = S) : Calls Try.prog 47 #[v, u] w fun e w' => e = .returned (.bool x) ∧ Below w.heap.size w w' := by
  have hcall := efn_ports x v u T S w hv hu hx
  go_enter Try.func47, Try.ntmps47
  go_wp2_with fail
  (with_reducible refine hcall.mono ?_)
  rintro e w1 ⟨rfl, hb1⟩
  go_wp2
  go_ret
  exact ⟨rfl, hb1⟩
set_option maxRecDepth 100000 in
theorem same_rules (x : Bool) (v u : Value) (T S : List (List Rl)) (w : World) (hv : RuT w v T) (hu : RuT w u S) (hx : x = true ↔ T = S) : Calls Try.prog 51 #[v, u] w fun e w' => e = .returned (.bool x) ∧ Below w.heap.size w w' := by
  have hcall := efn_rules x v u T S w hv hu hx
  go_enter Try.func51, Try.ntmps51
  go_wp2_with fail
  (with_reducible refine hcall.mono ?_)
  rintro e w1 ⟨rfl, hb1⟩
  go_wp2
  go_ret
  exact ⟨rfl, hb1⟩
set_option maxRecDepth 100000 in
set_option maxHeartbeats 2000000 in
theorem efn_tabs (x : Bool) (v u : Value) (T S : List (List (List Rl))) (w : World) (hv : RuQ w v T) (hu : RuQ w u S) (hx : x = true ↔ T = S) : Calls Try.prog 50 #[v, u, .func (.func 51) #[] #[]] w fun e w' => e = .returned (.bool x) ∧ Below w.heap.size w w' := by
  have eg : ∀ args w, (callFunc 51 args).run Try.prog w = .ok (.enter 51 args) w := enters_of Try.func51 (by kernel_rfl) rfl
  obtain ⟨A, c, rfl, hTm, hA⟩ := hv
  obtain ⟨B, d, rfl, hSm, hB⟩ := hu
  have hTz : (T.length : Int) ≤ 9223372036854775807 := by unfold maxLen at hTm; omega
  have HA := Lib.hid hA
  have HB := Lib.hid hB
  have HX := Lib.hid hx
  clear hA hB hx hSm
  by_cases hl : T.length = S.length
  · have hne : ((T.length : Int) != (S.length : Int)) = false := by rw [hl]; simp
    obtain ⟨n, hn1, hn2⟩ : ∃ n : Nat, Hid (T.length = n) ∧ Hid (S.length = n) := ⟨T.length, rfl, hl.symm⟩
    clear hl hne hTm
    rw [hn1.out] at hTz ⊢
    rw [hn2.out]
    go_enter Try.func50, Try.ntmps50
    go_wp2
    go_loopg [7, 8, 9, 17] n (fun gk _ _ _ s17 wr => ∃ k : Nat, k ≤ n ∧ gk = n - k ∧ s17 = .int .i64 k ∧ Hid (∀ j, j < k → T[j]? = S[j]?) ∧ Hid (Below w.heap.size w wr))
    case atStart => exact ⟨0, Nat.zero_le _, rfl, rfl, fun j hj => absurd hj (Nat.not_lt_zero _), Below.refl _ _⟩
    case round =>
      obtain ⟨k, hk, rfl, rfl, HE, HW⟩ := hrel
      by_cases hlt : k < n
      · have hltz : (k : Int) < (n : Int) := by omega
        obtain ⟨a, ha⟩ : ∃ a, T[k]? = some a := ⟨_, List.getElem?_eq_getElem (by have := hn1.out; omega)⟩
        obtain ⟨b, hb⟩ : ∃ b, S[k]? = some b := ⟨_, List.getElem?_eq_getElem (by have := hn2.out; omega)⟩
        obtain ⟨ab, ao, rfl, _, hac⟩ := HA.out (by rintro rfl; simp at ha)
        obtain ⟨bb, bo, rfl, _, hbc⟩ := HB.out (by rintro rfl; simp at hb)
        obtain ⟨s1, hs1, hR1⟩ := hac k a ha
        obtain ⟨s2, hs2, hR2⟩ := hbc k b hb
        have y1 := on_some HW.out hs1
        have y2 := on_some HW.out hs2
        have HR1 := Lib.hid (hR1.on HW.out)
        have HR2 := Lib.hid (hR2.on HW.out)
        obtain ⟨A1, c1, rfl, -⟩ := id hR1
        obtain ⟨A2, c2, rfl, -⟩ := id hR2
        have HKA := Lib.hid ha
        have HKB := Lib.hid hb
        clear hac hbc ha hb hs1 hs2 hR1 hR2
        obtain ⟨y, hy⟩ : ∃ y : Bool, Hid (y = true ↔ a = b) := by
          by_cases e : a = b
          · exact ⟨true, fun _ => e, fun _ => rfl⟩
          · exact ⟨false, fun h => (by cases h), fun h => absurd h e⟩
        have hcall := same_rules y _ _ a b wr HR1.out HR2.out hy.out
        cases y with
        | true =>
          have HAB : Hid (a = b) := hy.out.1 rfl
          clear hy
          go_wp2_with (go_at_fn 51; refine hcall.mono ?_; rintro e w1 ⟨rfl, hb1⟩)
          go_roundg (n - (k + 1))
          case measure => omega
          case rel =>
            refine ⟨k + 1, by omega, rfl, by go_num, (fun j hj => ?_), HW.out.trans (hb1.mono HW.out.size)⟩
            by_cases e : j = k
            · subst e; rw [HKA.out, HKB.out, HAB.out]
            · exact HE.out j (by omega)
        | false =>
          have HQ : Hid (x = false) := by
            show _ = _
            cases hxx : x with
            | false => rfl
            | true =>
              exfalso
              have e := HX.out.1 hxx
              have e2 := HKA.out
              rw [e, HKB.out] at e2
              injection e2 with e2
              have e3 := hy.out.2 e2.symm
              cases e3
          go_wp2_with (go_at_fn 51; refine hcall.mono ?_; rintro e w1 ⟨rfl, hb1⟩)
          go_ret
          exact ⟨by rw [HQ.out]; rfl, HW.out.trans (hb1.mono HW.out.size)⟩
      · have hltz : ¬ (k : Int) < (n : Int) := by omega
        have HQ : Hid (x = true) := by
          show _ = _
          refine HX.out.2 (List.ext_getElem? fun j => ?_)
          by_cases hj : j < k
          · exact HE.out j hj
          · rw [List.getElem?_eq_none (by have := hn1.out; omega), List.getElem?_eq_none (by have := hn2.out; omega)]
        go_wp2
        go_ret
        exact ⟨by rw [HQ.out]; rfl, HW.out⟩
  · have hne : ((T.length : Int) != (S.length : Int)) = true := by rw [bne_iff_ne]; omega
    have HQ : Hid (x = false) := by
      show _ = _
      cases hxx : x with
      | false => rfl
      | true => exact absurd (congrArg List.length (HX.out.1 hxx)) hl
    have hlz : ¬ (T.length : Int) = (S.length : Int) := by omega
    clear hl
    go_enter Try.func50, Try.ntmps50
    go_wp2
    go_ret
    exact ⟨by rw [HQ.out]; rfl, Below.refl _ _⟩
end Go.Proofs

namespace Go.Proofs
open Go.RowKit Go.Proofs.Hd Go.Lib
set_option maxRecDepth 100000 in
set_option maxHeartbeats 4000000 in
theorem csame_c (x : Bool) (tv pv wv bv : Value) (T : List (List Pt)) (ten : Int) (P : List (Int × Int)) (Q : List Wa) (BB : List (List (List Rl))) (tv2 pv2 wv2 bv2 : Value) (T2 : List (List Pt)) (ten2 : Int) (P2 : List (Int × Int)) (Q2 : List Wa) (BB2 : List (List (List Rl))) (w : World)
    (hT : PsT w tv T) (hP : Pe w pv P) (hQ : Wy w wv Q) (hB : RuQ w bv BB) (hT2 : PsT w tv2 T2) (hP2 : Pe w pv2 P2) (hQ2 : Wy w wv2 Q2) (hB2 : RuQ w bv2 BB2) (hx : x = true ↔ T = T2 ∧ ten = ten2 ∧ P = P2 ∧ Q = Q2 ∧ BB = BB2) :
    Calls Try.prog 24 #[.agg #[tv, .int .i64 ten, pv, wv, bv], .agg #[tv2, .int .i64 ten2, pv2, wv2, bv2]] w fun e w' => e = .returned (.bool x) ∧ Below w.heap.size w w' := by
  have HT := Lib.hid hT
  have HP := Lib.hid hP
  have HQ := Lib.hid hQ
  have HBQ := Lib.hid hB
  have HT2 := Lib.hid hT2
  have HP2 := Lib.hid hP2
  have HQ2 := Lib.hid hQ2
  have HBQ2 := Lib.hid hB2
  obtain ⟨A, cap, rfl, -, -⟩ := hT
  obtain ⟨pA, pc, rfl, hpm, -⟩ := hP
  obtain ⟨wA, wc, rfl, hwm, -⟩ := hQ
  obtain ⟨bA, bc, rfl, -, -⟩ := hB
  obtain ⟨A2, cap2, rfl, -, -⟩ := hT2
  obtain ⟨pA2, pc2, rfl, -, -⟩ := hP2
  obtain ⟨wA2, wc2, rfl, -, -⟩ := hQ2
  obtain ⟨bA2, bc2, rfl, -, -⟩ := hB2
  have HPM := Lib.hid hpm
  have HWM := Lib.hid hwm
  have HX := Lib.hid hx
  clear hx hpm hwm
  have bad : ¬ (T = T2 ∧ ten = ten2 ∧ P = P2 ∧ Q = Q2 ∧ BB = BB2) → x = false := fun h => by
    cases hxx : x with
    | false => rfl
    | true => exact absurd (HX.out.1 hxx) h
  have BAD := Lib.hid bad
  clear bad
  have B0 : Hid (Below w.heap.size w ((w.alloc (.cells #[.slice A T.length cap, .int .i64 ten, .slice pA P.length pc, .slice wA Q.length wc, .slice bA BB.length bc] 31)).alloc (.cells #[.slice A2 T2.length cap2, .int .i64 ten2, .slice pA2 P2.length pc2, .slice wA2 Q2.length wc2, .slice bA2 BB2.length bc2] 31))) := below2 w _ _
  have N0 : Hid (Blk ((w.alloc (.cells #[.slice A T.length cap, .int .i64 ten, .slice pA P.length pc, .slice wA Q.length wc, .slice bA BB.length bc] 31)).alloc (.cells #[.slice A2 T2.length cap2, .int .i64 ten2, .slice pA2 P2.length pc2, .slice wA2 Q2.length wc2, .slice bA2 BB2.length bc2] 31)) w.heap.size 31 #[.slice A T.length cap, .int .i64 ten, .slice pA P.length pc, .slice wA Q.length wc, .slice bA BB.length bc]) := (Blk.new w _ _).on (below1 _ _)
  have M0 : Hid (Blk ((w.alloc (.cells #[.slice A T.length cap, .int .i64 ten, .slice pA P.length pc, .slice wA Q.length wc, .slice bA BB.length bc] 31)).alloc (.cells #[.slice A2 T2.length cap2, .int .i64 ten2, .slice pA2 P2.length pc2, .slice wA2 Q2.length wc2, .slice bA2 BB2.length bc2] 31)) (w.heap.size + 1) 31 #[.slice A2 T2.length cap2, .int .i64 ten2, .slice pA2 P2.length pc2, .slice wA2 Q2.length wc2, .slice bA2 BB2.length bc2]) := Blk.new2 w _ _ _
  go_enter Try.func24, Try.ntmps24
  obtain ⟨d0, d1, d2, d3, d4⟩ := N0.out.five
  obtain ⟨e0, e1, e2, e3, e4⟩ := M0.out.five
  go_upto_region 1 with (fail)
  clear d0 d1 d2 d3 d4 e0 e1 e2 e3 e4
  generalize ((w.alloc (.cells #[.slice A T.length cap, .int .i64 ten, .slice pA P.length pc, .slice wA Q.length wc, .slice bA BB.length bc] 31)).alloc (.cells #[.slice A2 T2.length cap2, .int .i64 ten2, .slice pA2 P2.length pc2, .slice wA2 Q2.length wc2, .slice bA2 BB2.length bc2] 31)) = w0 at B0 N0 M0 ⊢
  obtain ⟨d0, d1, d2, d3, d4⟩ := N0.out.five
  obtain ⟨e0, e1, e2, e3, e4⟩ := M0.out.five
  by_cases h0 : T = T2
  · have hq0 := Lib.hid h0
    clear h0
    go_wp2_with fail
    (with_reducible refine (same_ports true _ _ T T2 _ (HT.out.on B0.out) (HT2.out.on B0.out) ⟨fun _ => hq0.out, fun _ => rfl⟩).mono ?_)
    rintro e w1 ⟨rfl, hb⟩
    have B1 := Lib.hid (B0.out.trans (hb.mono B0.out.size))
    have N1 := Lib.hid (N0.out.on hb)
    have M1 := Lib.hid (M0.out.on hb)
    clear d0 d1 d2 d3 d4 e0 e1 e2 e3 e4 hb B0 N0 M0
    obtain ⟨d0, d1, d2, d3, d4⟩ := N1.out.five
    obtain ⟨e0, e1, e2, e3, e4⟩ := M1.out.five
    by_cases h1 : ten = ten2
    · have hq1 := Lib.hid h1
      have tq : (ten == ten2) = true := by simpa using h1
      clear h1
      by_cases h2 : P = P2
      · have hq2 := Lib.hid h2
        clear h2
        go_wp2_with fail
        (with_reducible refine (seq_pair true _ _ P P2 _ (HP.out.on B1.out) (HP2.out.on B1.out) HPM.out ⟨fun _ => hq2.out, fun _ => rfl⟩).mono ?_)
        rintro e w2 ⟨rfl, hb⟩
        have B2 := Lib.hid (B1.out.trans (hb.mono B1.out.size))
        have N2 := Lib.hid (N1.out.on hb)
        have M2 := Lib.hid (M1.out.on hb)
        clear d0 d1 d2 d3 d4 e0 e1 e2 e3 e4 hb B1 N1 M1
        obtain ⟨d0, d1, d2, d3, d4⟩ := N2.out.five
        obtain ⟨e0, e1, e2, e3, e4⟩ := M2.out.five
        by_cases h3 : Q = Q2
        · have hq3 := Lib.hid h3
          clear h3
          go_wp2_with fail
          (with_reducible refine (seq_way true _ _ Q Q2 _ (HQ.out.on B2.out) (HQ2.out.on B2.out) HWM.out ⟨fun _ => hq3.out, fun _ => rfl⟩).mono ?_)
          rintro e w3 ⟨rfl, hb⟩
          have B3 := Lib.hid (B2.out.trans (hb.mono B2.out.size))
          have N3 := Lib.hid (N2.out.on hb)
          have M3 := Lib.hid (M2.out.on hb)
          clear d0 d1 d2 d3 d4 e0 e1 e2 e3 e4 hb B2 N2 M2
          obtain ⟨d0, d1, d2, d3, d4⟩ := N3.out.five
          obtain ⟨e0, e1, e2, e3, e4⟩ := M3.out.five
          by_cases h4 : BB = BB2
          · have hq4 := Lib.hid h4
            clear h4
            go_wp2_with fail
            (with_reducible refine (efn_tabs true _ _ BB BB2 _ (HBQ.out.on B3.out) (HBQ2.out.on B3.out) ⟨fun _ => hq4.out, fun _ => rfl⟩).mono ?_)
            rintro e w4 ⟨rfl, hb⟩
            have B4 := Lib.hid (B3.out.trans (hb.mono B3.out.size))
            have N4 := Lib.hid (N3.out.on hb)
            have M4 := Lib.hid (M3.out.on hb)
            clear d0 d1 d2 d3 d4 e0 e1 e2 e3 e4 hb B3 N3 M3
            obtain ⟨d0, d1, d2, d3, d4⟩ := N4.out.five
            obtain ⟨e0, e1, e2, e3, e4⟩ := M4.out.five
            have HE : Hid (x = true) := HX.out.2 ⟨hq0.out, hq1.out, hq2.out, hq3.out, hq4.out⟩
            go_wp2
            go_ret
            exact ⟨by rw [HE.out]; rfl, B4.out⟩
          · have hn := Lib.hid h4
            have HE : Hid (x = false) := BAD.out fun h => hn.out h.2.2.2.2
            clear h4
            go_wp2_with fail
            (with_reducible refine (efn_tabs false _ _ BB BB2 _ (HBQ.out.on B3.out) (HBQ2.out.on B3.out) ⟨fun h => (by cases h), fun h => absurd h hn.out⟩).mono ?_)
            rintro e w4 ⟨rfl, hb⟩
            have B4 := Lib.hid (B3.out.trans (hb.mono B3.out.size))
            have N4 := Lib.hid (N3.out.on hb)
            have M4 := Lib.hid (M3.out.on hb)
            clear d0 d1 d2 d3 d4 e0 e1 e2 e3 e4 hb B3 N3 M3
            obtain ⟨d0, d1, d2, d3, d4⟩ := N4.out.five
            obtain ⟨e0, e1, e2, e3, e4⟩ := M4.out.five
            go_wp2
            go_ret
            exact ⟨by rw [HE.out]; rfl, B4.out⟩
        · have hn := Lib.hid h3
          have HE : Hid (x = false) := BAD.out fun h => hn.out h.2.2.2.1
          clear h3
          go_wp2_with fail
          (with_reducible refine (seq_way false _ _ Q Q2 _ (HQ.out.on B2.out) (HQ2.out.on B2.out) HWM.out ⟨fun h => (by cases h), fun h => absurd h hn.out⟩).mono ?_)
          rintro e w3 ⟨rfl, hb⟩
          have B3 := Lib.hid (B2.out.trans (hb.mono B2.out.size))
          have N3 := Lib.hid (N2.out.on hb)
          have M3 := Lib.hid (M2.out.on hb)
          clear d0 d1 d2 d3 d4 e0 e1 e2 e3 e4 hb B2 N2 M2
          obtain ⟨d0, d1, d2, d3, d4⟩ := N3.out.five
          obtain ⟨e0, e1, e2, e3, e4⟩ := M3.out.five
          go_wp2
          go_ret
          exact ⟨by rw [HE.out]; rfl, B3.out⟩
      · have hn := Lib.hid h2
        have HE : Hid (x = false) := BAD.out fun h => hn.out h.2.2.1
        clear h2
        go_wp2_with fail
        (with_reducible refine (seq_pair false _ _ P P2 _ (HP.out.on B1.out) (HP2.out.on B1.out) HPM.out ⟨fun h => (by cases h), fun h => absurd h hn.out⟩).mono ?_)
        rintro e w2 ⟨rfl, hb⟩
        have B2 := Lib.hid (B1.out.trans (hb.mono B1.out.size))
        have N2 := Lib.hid (N1.out.on hb)
        have M2 := Lib.hid (M1.out.on hb)
        clear d0 d1 d2 d3 d4 e0 e1 e2 e3 e4 hb B1 N1 M1
        obtain ⟨d0, d1, d2, d3, d4⟩ := N2.out.five
        obtain ⟨e0, e1, e2, e3, e4⟩ := M2.out.five
        go_wp2
        go_ret
        exact ⟨by rw [HE.out]; rfl, B2.out⟩
    · have hn := Lib.hid h1
      have HE : Hid (x = false) := BAD.out fun h => hn.out h.2.1
      have tq : (ten == ten2) = false := by simpa using h1
      clear h1
      go_wp2
      go_ret
      exact ⟨by rw [HE.out]; rfl, B1.out⟩
  · have hn := Lib.hid h0
    have HE : Hid (x = false) := BAD.out fun h => hn.out h.1
    clear h0
    go_wp2_with fail
    (with_reducible refine (same_ports false _ _ T T2 _ (HT.out.on B0.out) (HT2.out.on B0.out) ⟨fun h => (by cases h), fun h => absurd h hn.out⟩).mono ?_)
    rintro e w1 ⟨rfl, hb⟩
    have B1 := Lib.hid (B0.out.trans (hb.mono B0.out.size))
    have N1 := Lib.hid (N0.out.on hb)
    have M1 := Lib.hid (M0.out.on hb)
    clear d0 d1 d2 d3 d4 e0 e1 e2 e3 e4 hb B0 N0 M0
    obtain ⟨d0, d1, d2, d3, d4⟩ := N1.out.five
    obtain ⟨e0, e1, e2, e3, e4⟩ := M1.out.five
    go_wp2
    go_ret
    exact ⟨by rw [HE.out]; rfl, B1.out⟩
end Go.Proofs

namespace Go.Proofs.Hd
open Go.RowKit
theorem joinsA (a b : Int) (x : Int × Int) : joinsB a b x = (eqA x (a, b) || eqA x (b, a)) := by
  unfold joinsB eqA
  rfl
theorem anyJ {P : List (Int × Int)} {a b : Int} {k : Nat} {x : Int × Int} (h : P[k]? = some x) (hx : joinsB a b x = true) : P.any (joinsB a b) = true := List.any_eq_true.2 ⟨x, List.mem_of_getElem? h, hx⟩
end Go.Proofs.Hd
namespace Go.Proofs
open Go.RowKit Go.Proofs.Hd Go.Lib
attribute [local go_sem high] run_eqA
set_option maxRecDepth 100000 in
set_option maxHeartbeats 2000000 in
theorem callow_c (x : Bool) (ten : Int) (pv : Value) (wA : Option Addr) (wn wc : Nat) (P : List (Int × Int)) (a b : Int) (w : World) (hP : Pe w pv P) (hx : alwB ten P a b = x) : Calls Try.prog 13 #[.agg #[.int .i64 ten, pv, .slice wA wn wc], .int .i64 a, .int .i64 b] w fun e w' => e = .returned (.bool x) ∧ Below w.heap.size w w' := by
  obtain ⟨pA, pc, rfl, hpm, hPA⟩ := hP
  have hpz : (P.length : Int) ≤ 9223372036854775807 := by unfold maxLen at hpm; omega
  have B0 : Hid (Below w.heap.size w (w.alloc (.cells #[.int .i64 ten, .slice pA P.length pc, .slice wA wn wc] 28))) := below1 w _
  have N0 : Hid (Blk (w.alloc (.cells #[.int .i64 ten, .slice pA P.length pc, .slice wA wn wc] 28)) w.heap.size 28 #[.int .i64 ten, .slice pA P.length pc, .slice wA wn wc]) := Blk.new w _ _
  have HPA := Lib.hid hPA
  have HX := Lib.hid hx
  clear hPA hx hpm
  cases h1 : Hd.inB a ten with
  | false =>
    have HE : Hid (x = false) := by show _ = _; rw [← HX.out]; simp [alwB, h1]
    go_enter Try.func13, Try.ntmps13
    go_wp2_with fail
    (with_reducible refine (cwin_c false a ten _ h1).mono ?_)
    rintro e w1 ⟨rfl, rfl⟩
    go_wp2
    go_ret
    exact ⟨by rw [HE.out]; rfl, B0.out⟩
  | true =>
    cases h2 : Hd.inB b ten with
    | false =>
      have HE : Hid (x = false) := by show _ = _; rw [← HX.out]; simp [alwB, h2]
      obtain ⟨d0, d1, d2⟩ := N0.out.three
      go_enter Try.func13, Try.ntmps13
      go_wp2_with fail
      (with_reducible refine (cwin_c true a ten _ h1).mono ?_)
      rintro e w1 ⟨rfl, rfl⟩
      go_wp2_with fail
      (with_reducible refine (cwin_c false b ten _ h2).mono ?_)
      rintro e w2 ⟨rfl, rfl⟩
      go_wp2
      go_ret
      exact ⟨by rw [HE.out]; rfl, B0.out⟩
    | true =>
      obtain ⟨d0, d1, d2⟩ := N0.out.three
      by_cases hab : a = b
      · have HE : Hid (x = true) := by show _ = _; rw [← HX.out]; simp [alwB, h2, hab]
        have habb : (a == b) = true := by simpa using hab
        clear hab
        go_enter Try.func13, Try.ntmps13
        go_wp2_with fail
        (with_reducible refine (cwin_c true a ten _ h1).mono ?_)
        rintro e w1 ⟨rfl, rfl⟩
        go_wp2_with fail
        (with_reducible refine (cwin_c true b ten _ h2).mono ?_)
        rintro e w2 ⟨rfl, rfl⟩
        go_wp2
        go_ret
        exact ⟨by rw [HE.out]; rfl, B0.out⟩
      · have HE : Hid (P.any (joinsB a b) = x) := by show _ = _; rw [← HX.out]; simp [alwB, h1, h2, hab]
        have habb : (a == b) = false := by simpa using hab
        have HAB := Lib.hid hab
        clear hab HX
        go_enter Try.func13, Try.ntmps13
        go_wp2_with fail
        (with_reducible refine (cwin_c true a ten _ h1).mono ?_)
        rintro e w1 ⟨rfl, rfl⟩
        go_wp2_with fail
        (with_reducible refine (cwin_c true b ten _ h2).mono ?_)
        rintro e w2 ⟨rfl, rfl⟩
        generalize w.alloc (.cells #[.int .i64 ten, .slice pA P.length pc, .slice wA wn wc] 28) = w3 at B0 N0 d0 d1 d2 ⊢
        have b3 := below2 w3 (.cells #[.int .i64 a, .int .i64 b] 66) (.cells #[.int .i64 b, .int .i64 a] 66)
        have K7 : Hid (Blk ((w3.alloc (.cells #[.int .i64 a, .int .i64 b] 66)).alloc (.cells #[.int .i64 b, .int .i64 a] 66)) w3.heap.size 66 #[.int .i64 a, .int .i64 b]) := (Blk.new w3 _ _).on (below1 _ _)
        have K8 : Hid (Blk ((w3.alloc (.cells #[.int .i64 a, .int .i64 b] 66)).alloc (.cells #[.int .i64 b, .int .i64 a] 66)) (w3.heap.size + 1) 66 #[.int .i64 b, .int .i64 a]) := Blk.new2 w3 _ _ _
        have B3 := Lib.hid (B0.out.trans (b3.mono B0.out.size))
        have e1 := on_some b3 d1
        clear b3 d2
        go_upto_region 6 with (fail)
        generalize ((w3.alloc (.cells #[.int .i64 a, .int .i64 b] 66)).alloc (.cells #[.int .i64 b, .int .i64 a] 66)) = w4 at K7 K8 B3 e1 ⊢
        clear d0 d1
        go_wp2
        clear e1
        go_loopg [10, 35] P.length (fun gk _ s35 wr => ∃ (k : Nat), k ≤ P.length ∧ gk = P.length - k ∧ s35 = .int .i64 k ∧ Hid (∀ j y, j < k → P[j]? = some y → joinsB a b y = false) ∧ Hid (Below w4.heap.size w4 wr))
        case atStart => exact ⟨0, Nat.zero_le _, rfl, rfl, fun j y hj => absurd hj (Nat.not_lt_zero _), Below.refl _ _⟩
        case round =>
          obtain ⟨k, hk, rfl, rfl, HO, HW⟩ := hrel
          by_cases hlt : k < P.length
          · have hltz : (k : Int) < (P.length : Int) := by omega
            obtain ⟨y, hy⟩ : ∃ y, P[k]? = some y := ⟨_, List.getElem?_eq_getElem hlt⟩
            obtain ⟨pb, po, rfl, _, hc⟩ := HPA.out (by rintro rfl; simp at hlt)
            have HBW := Lib.hid (B3.out.trans (HW.out.mono B3.out.size))
            have x0 := on_some HBW.out (hc k y hy).1
            have x1 := on_some HBW.out (hc k y hy).2
            have HXX := Lib.hid hy
            obtain ⟨ya, yb⟩ := y
            simp only at x0 x1
            have bS := below1 wr (.cells #[.int .i64 ya, .int .i64 yb] 66)
            have nS := Blk.new wr 66 #[.int .i64 ya, .int .i64 yb]
            have k7 := (K7.out.on HW.out).on bS
            have k8 := (K8.out.on HW.out).on bS
            clear hc hy
            go_upto_region 9 with (fail)
            generalize wr.alloc (.cells #[.int .i64 ya, .int .i64 yb] 66) = w5 at bS nS k7 k8 ⊢
            obtain ⟨s0, s1⟩ := nS.both
            obtain ⟨s2, s3⟩ := k7.both
            obtain ⟨s4, s5⟩ := k8.both
            have HB5 := Lib.hid (HW.out.trans (bS.mono HW.out.size))
            clear bS nS x0 x1 k7 k8
            cases q1 : eqA (ya, yb) (a, b) with
            | true =>
              have HV : Hid (x = true) := HE.out.symm.trans (anyJ HXX.out (by rw [joinsA, q1]; rfl))
              go_wp2
              go_ret
              exact ⟨by rw [HV.out]; rfl, B3.out.trans (HB5.out.mono B3.out.size)⟩
            | false =>
              cases q2 : eqA (ya, yb) (b, a) with
              | true =>
                have HV : Hid (x = true) := HE.out.symm.trans (anyJ HXX.out (by rw [joinsA, q1, q2]; rfl))
                go_wp2
                go_ret
                exact ⟨by rw [HV.out]; rfl, B3.out.trans (HB5.out.mono B3.out.size)⟩
              | false =>
                have HV : Hid (∀ j y, j < k + 1 → P[j]? = some y → joinsB a b y = false) := fun j z hj hz => by
                  by_cases e : j = k
                  · subst e
                    rw [HXX.out] at hz
                    injection hz with hz
                    subst hz
                    rw [joinsA, q1, q2]; rfl
                  · exact HO.out j z (by omega) hz
                go_wp2
                go_roundg (P.length - (k + 1))
                case measure => omega
                case rel => exact ⟨k + 1, by omega, rfl, by go_num, HV, HB5⟩
          · have hltz : ¬ (k : Int) < (P.length : Int) := by omega
            obtain rfl : k = P.length := by omega
            have HV : Hid (x = false) := by
              show _ = _
              rw [← HE.out]
              apply List.any_eq_false.2
              intro y hy
              obtain ⟨j, hj⟩ := List.getElem?_of_mem hy
              rw [HO.out j y (List.getElem?_eq_some_iff.1 hj).1 hj]
              exact Bool.false_ne_true
            go_wp2
            go_ret
            exact ⟨by rw [HV.out]; rfl, B3.out.trans (HW.out.mono B3.out.size)⟩
end Go.Proofs
