/-
  Contracts of rule.Sound and of the reference's Sound. No conditions.
  Contract of customhouselaw05.awake: true. No conditions.
-/
import Derived.Test.YtkbeppknmdejnaaJ5
import Derived.OrdersHeld
namespace Go.Proofs
open Go.RowKit Go.Proofs.Hd Go.Sort
attribute [local go_sem] uv_nonneg
theorem csnd_c (x : Bool) (c : Cb) (w : World) (h : c.snd = x) : Calls Try.prog 17 #[.agg #[.int .u64 (uv c.vh), .int .u64 (uv c.vl), .int .u64 (uv c.ch), .int .u64 (uv c.cl)]] w fun e w' => e = .returned (.bool x) ∧ Below w.heap.size w w' := by
  subst h; exact sound_c _ _ _ _ _
theorem rule_stays {w w1 : World} {r : Rl} (hb : Below (w.alloc (.cells #[.int .i64 r.pri, .int .u64 (uv r.m.vh), .int .u64 (uv r.m.vl), .int .u64 (uv r.m.ch), .int .u64 (uv r.m.cl), .int .i64 r.kind, .int .i64 r.port, .int .i64 r.tab, .int .u64 (uv r.s.vh), .int .u64 (uv r.s.vl), .int .u64 (uv r.s.ch), .int .u64 (uv r.s.cl)] 30)).heap.size (w.alloc (.cells #[.int .i64 r.pri, .int .u64 (uv r.m.vh), .int .u64 (uv r.m.vl), .int .u64 (uv r.m.ch), .int .u64 (uv r.m.cl), .int .i64 r.kind, .int .i64 r.port, .int .i64 r.tab, .int .u64 (uv r.s.vh), .int .u64 (uv r.s.vl), .int .u64 (uv r.s.ch), .int .u64 (uv r.s.cl)] 30)) w1) : Blk w1 w.heap.size 30 #[.int .i64 r.pri, .int .u64 (uv r.m.vh), .int .u64 (uv r.m.vl), .int .u64 (uv r.m.ch), .int .u64 (uv r.m.cl), .int .i64 r.kind, .int .i64 r.port, .int .i64 r.tab, .int .u64 (uv r.s.vh), .int .u64 (uv r.s.vl), .int .u64 (uv r.s.ch), .int .u64 (uv r.s.cl)] := (Blk.new w _ _).on hb
set_option maxRecDepth 100000 in
set_option maxHeartbeats 4000000 in
theorem sound_r (x : Bool) (r : Rl) (table : Int) (v : Value) (K : List Int) (w : World) (hx : sndR r table K = x) (hv : Po w v K) : Calls Try.prog 9 #[.agg #[.int .i64 r.pri, .int .u64 (uv r.m.vh), .int .u64 (uv r.m.vl), .int .u64 (uv r.m.ch), .int .u64 (uv r.m.cl), .int .i64 r.kind, .int .i64 r.port, .int .i64 r.tab, .int .u64 (uv r.s.vh), .int .u64 (uv r.s.vl), .int .u64 (uv r.s.ch), .int .u64 (uv r.s.cl)], .int .i64 table, v] w fun e w' => e = .returned (.bool x) ∧ Below w.heap.size w w' := by
  have B0 := below1 w (.cells #[.int .i64 r.pri, .int .u64 (uv r.m.vh), .int .u64 (uv r.m.vl), .int .u64 (uv r.m.ch), .int .u64 (uv r.m.cl), .int .i64 r.kind, .int .i64 r.port, .int .i64 r.tab, .int .u64 (uv r.s.vh), .int .u64 (uv r.s.vl), .int .u64 (uv r.s.ch), .int .u64 (uv r.s.cl)] 30)
  have N0 : Blk (w.alloc (.cells #[.int .i64 r.pri, .int .u64 (uv r.m.vh), .int .u64 (uv r.m.vl), .int .u64 (uv r.m.ch), .int .u64 (uv r.m.cl), .int .i64 r.kind, .int .i64 r.port, .int .i64 r.tab, .int .u64 (uv r.s.vh), .int .u64 (uv r.s.vl), .int .u64 (uv r.s.ch), .int .u64 (uv r.s.cl)] 30)) w.heap.size 30 #[.int .i64 r.pri, .int .u64 (uv r.m.vh), .int .u64 (uv r.m.vl), .int .u64 (uv r.m.ch), .int .u64 (uv r.m.cl), .int .i64 r.kind, .int .i64 r.port, .int .i64 r.tab, .int .u64 (uv r.s.vh), .int .u64 (uv r.s.vl), .int .u64 (uv r.s.ch), .int .u64 (uv r.s.cl)] := Blk.new w _ _
  have HV := Lib.hid hv
  clear hv
  unfold sndR at hx
  by_cases h1 : 0 ≤ r.pri
  · by_cases h2 : r.pri ≤ 1048576
    · cases h3 : r.m.snd with
      | false =>
        simp [h3] at hx
        subst hx
        go_enter Try.func9, Try.ntmps9
        go_wp2_with fail
        (with_reducible refine (csnd_c _ r.m _ h3).mono ?_)
        rintro e w1 ⟨rfl, hb⟩
        have B := B0.trans (hb.mono B0.size)
        clear B0 hb N0
        go_wp2
        go_ret
        exact ⟨by simp, B⟩
      | true =>
        cases h4 : r.s.snd with
        | false =>
          simp [h4] at hx
          subst hx
          go_enter Try.func9, Try.ntmps9
          go_wp2_with fail
          (with_reducible refine (csnd_c _ r.m _ h3).mono ?_)
          rintro e w1 ⟨rfl, hb⟩
          have B := B0.trans (hb.mono B0.size)
          have N1 := N0.on hb
          have c8 := N1.cell 8
          have c9 := N1.cell 9
          have c10 := N1.cell 10
          have c11 := N1.cell 11
          simp at c8 c9 c10 c11
          clear B0 hb N0
          go_wp2_with fail
          (with_reducible refine (csnd_c _ r.s _ h4).mono ?_)
          rintro e w2 ⟨rfl, hb2⟩
          have B2 := B.trans (hb2.mono B.size)
          clear B hb2 N1 c8 c9 c10 c11
          go_wp2
          go_ret
          exact ⟨by simp, B2⟩
        | true =>
          have h5 : leads r.kind r.port r.tab table K = x := by simpa [h1, h2, h3, h4] using hx
          have H5 := Lib.hid h5
          clear hx h5
          go_enter Try.func9, Try.ntmps9
          go_wp2_with fail
          (with_reducible refine (csnd_c _ r.m _ h3).mono ?_)
          rintro e w1 ⟨rfl, hb⟩
          have B := B0.trans (hb.mono B0.size)
          have N1 := N0.on hb
          have c8 := N1.cell 8
          have c9 := N1.cell 9
          have c10 := N1.cell 10
          have c11 := N1.cell 11
          simp at c8 c9 c10 c11
          clear B0 hb N0
          go_wp2_with fail
          (with_reducible refine (csnd_c _ r.s _ h4).mono ?_)
          rintro e w2 ⟨rfl, hb2⟩
          have B2 := B.trans (hb2.mono B.size)
          have N2 := N1.on hb2
          clear B hb2 N1 c8 c9 c10 c11
          have c0 := N2.cell 0
          have c1 := N2.cell 1
          have c2 := N2.cell 2
          have c3 := N2.cell 3
          have c4 := N2.cell 4
          have c5 := N2.cell 5
          have c6 := N2.cell 6
          have c7 := N2.cell 7
          have c8 := N2.cell 8
          have c9 := N2.cell 9
          have c10 := N2.cell 10
          have c11 := N2.cell 11
          simp at c0 c1 c2 c3 c4 c5 c6 c7 c8 c9 c10 c11
          go_wp2_with fail
          (with_reducible refine (leads_c x r table v K _ H5.out (HV.out.on B2)).mono ?_)
          rintro e w3 ⟨rfl, hb3⟩
          have B3 := B2.trans (hb3.mono B2.size)
          clear B2 hb3 N2 c0 c1 c2 c3 c4 c5 c6 c7 c8 c9 c10 c11
          go_wp2
          go_ret
          exact ⟨rfl, B3⟩
    · simp [h2] at hx
      subst hx
      go_enter Try.func9, Try.ntmps9
      go_wp2
      go_ret
      exact ⟨by simp, B0⟩
  · simp [h1] at hx
    subst hx
    go_enter Try.func9, Try.ntmps9
    go_wp2
    go_ret
    exact ⟨by simp, B0⟩
end Go.Proofs

namespace Go.Proofs
open Go.RowKit Go.Proofs.Hd Go.Sort Go.Shelf Go.Lib
attribute [local go_sem] uv_nonneg
theorem aw_sound (x : Bool) (v : Value) (K : List Int) (W : World) (hx : sndR (⟨3, ⟨0#64, 0#64, 0#64, 0#64⟩, 2, 1, 0, ⟨0#64, 0#64, 0#64, 0#64⟩⟩ : Rl) 0 K = x) (hv : Po W v K) : Calls Try.prog 9 #[.agg #[.int .i64 3, .int .u64 0, .int .u64 0, .int .u64 0, .int .u64 0, .int .i64 2, .int .i64 1, .int .i64 0, .int .u64 0, .int .u64 0, .int .u64 0, .int .u64 0], .int .i64 0, v] W fun e w' => e = .returned (.bool x) ∧ Below W.heap.size W w' := sound_r x (⟨3, ⟨0#64, 0#64, 0#64, 0#64⟩, 2, 1, 0, ⟨0#64, 0#64, 0#64, 0#64⟩⟩ : Rl) 0 v K W hx hv
theorem aw_same (W : World) : Calls Try.prog 15 #[.agg #[.int .i64 3, .int .u64 0, .int .u64 0, .int .u64 0, .int .u64 0, .int .i64 2, .int .i64 1, .int .i64 0, .int .u64 0, .int .u64 0, .int .u64 0, .int .u64 0], .agg #[.int .i64 3, .int .u64 0, .int .u64 0, .int .u64 0, .int .u64 0, .int .i64 2, .int .i64 1, .int .i64 0, .int .u64 0, .int .u64 0, .int .u64 0, .int .u64 0]] W fun e w' => e = .returned (.bool true) ∧ Below W.heap.size W w' := same_r (⟨3, ⟨0#64, 0#64, 0#64, 0#64⟩, 2, 1, 0, ⟨0#64, 0#64, 0#64, 0#64⟩⟩ : Rl) (⟨3, ⟨0#64, 0#64, 0#64, 0#64⟩, 2, 1, 0, ⟨0#64, 0#64, 0#64, 0#64⟩⟩ : Rl) true W (eqR_self _)
theorem aw_before (W : World) : Calls Try.prog 16 #[.agg #[.int .i64 3, .int .u64 0, .int .u64 0, .int .u64 0, .int .u64 0, .int .i64 2, .int .i64 1, .int .i64 0, .int .u64 0, .int .u64 0, .int .u64 0, .int .u64 0], .agg #[.int .i64 2, .int .u64 0, .int .u64 0, .int .u64 0, .int .u64 0, .int .i64 0, .int .i64 0, .int .i64 0, .int .u64 0, .int .u64 0, .int .u64 0, .int .u64 0]] W fun e w' => e = .returned (.bool true) ∧ Below W.heap.size W w' := before_r (⟨3, ⟨0#64, 0#64, 0#64, 0#64⟩, 2, 1, 0, ⟨0#64, 0#64, 0#64, 0#64⟩⟩ : Rl) (⟨2, ⟨0#64, 0#64, 0#64, 0#64⟩, 0, 0, 0, ⟨0#64, 0#64, 0#64, 0#64⟩⟩ : Rl) true W rfl
theorem aw_srt : srt [(⟨1, ⟨0#64, 0#64, 0#64, 0#64⟩, 0, 0, 0, ⟨0#64, 0#64, 0#64, 0#64⟩⟩ : Rl), (⟨3, ⟨0#64, 0#64, 0#64, 0#64⟩, 2, 1, 0, ⟨0#64, 0#64, 0#64, 0#64⟩⟩ : Rl), (⟨3, ⟨0#64, 0#64, 0#64, 0#64⟩, 0, 0, 0, ⟨0#64, 0#64, 0#64, 0#64⟩⟩ : Rl)] = [(⟨3, ⟨0#64, 0#64, 0#64, 0#64⟩, 2, 1, 0, ⟨0#64, 0#64, 0#64, 0#64⟩⟩ : Rl), (⟨3, ⟨0#64, 0#64, 0#64, 0#64⟩, 0, 0, 0, ⟨0#64, 0#64, 0#64, 0#64⟩⟩ : Rl), (⟨1, ⟨0#64, 0#64, 0#64, 0#64⟩, 0, 0, 0, ⟨0#64, 0#64, 0#64, 0#64⟩⟩ : Rl)] := by
  have h : [1, 2, 0] = ordI [(⟨1, ⟨0#64, 0#64, 0#64, 0#64⟩, 0, 0, 0, ⟨0#64, 0#64, 0#64, 0#64⟩⟩ : Rl), (⟨3, ⟨0#64, 0#64, 0#64, 0#64⟩, 2, 1, 0, ⟨0#64, 0#64, 0#64, 0#64⟩⟩ : Rl), (⟨3, ⟨0#64, 0#64, 0#64, 0#64⟩, 0, 0, 0, ⟨0#64, 0#64, 0#64, 0#64⟩⟩ : Rl)] := ordI_unique (by decide) (by decide)
  unfold srt
  rw [← h]
  rfl
theorem aw_row (w : World) : Ru (((w.alloc (.cells #[.int .i64 3, .int .u64 0, .int .u64 0, .int .u64 0, .int .u64 0, .int .i64 2, .int .i64 1, .int .i64 0, .int .u64 0, .int .u64 0, .int .u64 0, .int .u64 0] 30)).alloc (.cells #[.int .i64 2, .int .i64 0, .int .i64 0, .int .i64 0, .int .i64 0, .int .i64 1, .int .i64 0, .int .i64 0, .int .i64 0, .int .i64 0] 45)).alloc (.cells #[.int .i64 1, .int .u64 0, .int .u64 0, .int .u64 0, .int .u64 0, .int .i64 0, .int .i64 0, .int .i64 0, .int .u64 0, .int .u64 0, .int .u64 0, .int .u64 0, .int .i64 3, .int .u64 0, .int .u64 0, .int .u64 0, .int .u64 0, .int .i64 2, .int .i64 1, .int .i64 0, .int .u64 0, .int .u64 0, .int .u64 0, .int .u64 0, .int .i64 3, .int .u64 0, .int .u64 0, .int .u64 0, .int .u64 0, .int .i64 0, .int .i64 0, .int .i64 0, .int .u64 0, .int .u64 0, .int .u64 0, .int .u64 0] 30)) (.slice (some ⟨w.heap.size + 1 + 1, 0, none⟩) 3 3) [(⟨1, ⟨0#64, 0#64, 0#64, 0#64⟩, 0, 0, 0, ⟨0#64, 0#64, 0#64, 0#64⟩⟩ : Rl), (⟨3, ⟨0#64, 0#64, 0#64, 0#64⟩, 2, 1, 0, ⟨0#64, 0#64, 0#64, 0#64⟩⟩ : Rl), (⟨3, ⟨0#64, 0#64, 0#64, 0#64⟩, 0, 0, 0, ⟨0#64, 0#64, 0#64, 0#64⟩⟩ : Rl)] :=
  own_Ru (base := w.heap.size) (t := 30) ⟨rfl, .inr ⟨w.heap.size + 1 + 1, 3, #[.int .i64 1, .int .u64 0, .int .u64 0, .int .u64 0, .int .u64 0, .int .i64 0, .int .i64 0, .int .i64 0, .int .u64 0, .int .u64 0, .int .u64 0, .int .u64 0, .int .i64 3, .int .u64 0, .int .u64 0, .int .u64 0, .int .u64 0, .int .i64 2, .int .i64 1, .int .i64 0, .int .u64 0, .int .u64 0, .int .u64 0, .int .u64 0, .int .i64 3, .int .u64 0, .int .u64 0, .int .u64 0, .int .u64 0, .int .i64 0, .int .i64 0, .int .i64 0, .int .u64 0, .int .u64 0, .int .u64 0, .int .u64 0], rfl, by omega, by have := heap_alloc_new ((w.alloc (.cells #[.int .i64 3, .int .u64 0, .int .u64 0, .int .u64 0, .int .u64 0, .int .i64 2, .int .i64 1, .int .i64 0, .int .u64 0, .int .u64 0, .int .u64 0, .int .u64 0] 30)).alloc (.cells #[.int .i64 2, .int .i64 0, .int .i64 0, .int .i64 0, .int .i64 0, .int .i64 1, .int .i64 0, .int .i64 0, .int .i64 0, .int .i64 0] 45)) (.cells #[.int .i64 1, .int .u64 0, .int .u64 0, .int .u64 0, .int .u64 0, .int .i64 0, .int .i64 0, .int .i64 0, .int .u64 0, .int .u64 0, .int .u64 0, .int .u64 0, .int .i64 3, .int .u64 0, .int .u64 0, .int .u64 0, .int .u64 0, .int .i64 2, .int .i64 1, .int .i64 0, .int .u64 0, .int .u64 0, .int .u64 0, .int .u64 0, .int .i64 3, .int .u64 0, .int .u64 0, .int .u64 0, .int .u64 0, .int .i64 0, .int .i64 0, .int .i64 0, .int .u64 0, .int .u64 0, .int .u64 0, .int .u64 0] 30); simpa using this, by decide, by unfold maxLen; omega, rfl, rfl⟩⟩
theorem aw_ports {W : World} {b : Nat} (h : Blk W b 45 #[.int .i64 2, .int .i64 0, .int .i64 0, .int .i64 0, .int .i64 0, .int .i64 1, .int .i64 0, .int .i64 0, .int .i64 0, .int .i64 0]) : Po W (.slice (some ⟨b, 0, none⟩) 2 2) [2, 1] ∧ Po W (.slice (some ⟨b, 0, none⟩) 1 2) [2] := by
  refine ⟨.inr ⟨b, 0, 2, rfl, by unfold maxLen; simp, h.lt, fun k x hk => ?_⟩, .inr ⟨b, 0, 2, rfl, by unfold maxLen; simp, h.lt, fun k x hk => ?_⟩⟩
  · rw [h.cell]
    rcases k with _ | _ | k
    · simp at hk; subst hk; rfl
    · simp at hk; subst hk; rfl
    · simp at hk
  · rw [h.cell]
    rcases k with _ | k
    · simp at hk; subst hk; rfl
    · simp at hk
set_option maxHeartbeats 8000000 in
set_option maxRecDepth 100000 in
theorem awake5_c (w : World) : Calls Try.prog 8 #[] w fun e w' => e = .returned (.bool true) ∧ Below w.heap.size w w' := by
  have B0 := below3 w (.cells #[.int .i64 3, .int .u64 0, .int .u64 0, .int .u64 0, .int .u64 0, .int .i64 2, .int .i64 1, .int .i64 0, .int .u64 0, .int .u64 0, .int .u64 0, .int .u64 0] 30) (.cells #[.int .i64 2, .int .i64 0, .int .i64 0, .int .i64 0, .int .i64 0, .int .i64 1, .int .i64 0, .int .i64 0, .int .i64 0, .int .i64 0] 45) (.cells #[.int .i64 1, .int .u64 0, .int .u64 0, .int .u64 0, .int .u64 0, .int .i64 0, .int .i64 0, .int .i64 0, .int .u64 0, .int .u64 0, .int .u64 0, .int .u64 0, .int .i64 3, .int .u64 0, .int .u64 0, .int .u64 0, .int .u64 0, .int .i64 2, .int .i64 1, .int .i64 0, .int .u64 0, .int .u64 0, .int .u64 0, .int .u64 0, .int .i64 3, .int .u64 0, .int .u64 0, .int .u64 0, .int .u64 0, .int .i64 0, .int .i64 0, .int .i64 0, .int .u64 0, .int .u64 0, .int .u64 0, .int .u64 0] 30)
  have X0 : Blk (((w.alloc (.cells #[.int .i64 3, .int .u64 0, .int .u64 0, .int .u64 0, .int .u64 0, .int .i64 2, .int .i64 1, .int .i64 0, .int .u64 0, .int .u64 0, .int .u64 0, .int .u64 0] 30)).alloc (.cells #[.int .i64 2, .int .i64 0, .int .i64 0, .int .i64 0, .int .i64 0, .int .i64 1, .int .i64 0, .int .i64 0, .int .i64 0, .int .i64 0] 45)).alloc (.cells #[.int .i64 1, .int .u64 0, .int .u64 0, .int .u64 0, .int .u64 0, .int .i64 0, .int .i64 0, .int .i64 0, .int .u64 0, .int .u64 0, .int .u64 0, .int .u64 0, .int .i64 3, .int .u64 0, .int .u64 0, .int .u64 0, .int .u64 0, .int .i64 2, .int .i64 1, .int .i64 0, .int .u64 0, .int .u64 0, .int .u64 0, .int .u64 0, .int .i64 3, .int .u64 0, .int .u64 0, .int .u64 0, .int .u64 0, .int .i64 0, .int .i64 0, .int .i64 0, .int .u64 0, .int .u64 0, .int .u64 0, .int .u64 0] 30)) w.heap.size 30 #[.int .i64 3, .int .u64 0, .int .u64 0, .int .u64 0, .int .u64 0, .int .i64 2, .int .i64 1, .int .i64 0, .int .u64 0, .int .u64 0, .int .u64 0, .int .u64 0] := (Blk.new w _ _).on (below2 _ _ _)
  have X1 : Blk (((w.alloc (.cells #[.int .i64 3, .int .u64 0, .int .u64 0, .int .u64 0, .int .u64 0, .int .i64 2, .int .i64 1, .int .i64 0, .int .u64 0, .int .u64 0, .int .u64 0, .int .u64 0] 30)).alloc (.cells #[.int .i64 2, .int .i64 0, .int .i64 0, .int .i64 0, .int .i64 0, .int .i64 1, .int .i64 0, .int .i64 0, .int .i64 0, .int .i64 0] 45)).alloc (.cells #[.int .i64 1, .int .u64 0, .int .u64 0, .int .u64 0, .int .u64 0, .int .i64 0, .int .i64 0, .int .i64 0, .int .u64 0, .int .u64 0, .int .u64 0, .int .u64 0, .int .i64 3, .int .u64 0, .int .u64 0, .int .u64 0, .int .u64 0, .int .i64 2, .int .i64 1, .int .i64 0, .int .u64 0, .int .u64 0, .int .u64 0, .int .u64 0, .int .i64 3, .int .u64 0, .int .u64 0, .int .u64 0, .int .u64 0, .int .i64 0, .int .i64 0, .int .i64 0, .int .u64 0, .int .u64 0, .int .u64 0, .int .u64 0] 30)) (w.heap.size + 1) 45 #[.int .i64 2, .int .i64 0, .int .i64 0, .int .i64 0, .int .i64 0, .int .i64 1, .int .i64 0, .int .i64 0, .int .i64 0, .int .i64 0] := by
    have h := (Blk.new (w.alloc (.cells #[.int .i64 3, .int .u64 0, .int .u64 0, .int .u64 0, .int .u64 0, .int .i64 2, .int .i64 1, .int .i64 0, .int .u64 0, .int .u64 0, .int .u64 0, .int .u64 0] 30)) 45 #[.int .i64 2, .int .i64 0, .int .i64 0, .int .i64 0, .int .i64 0, .int .i64 1, .int .i64 0, .int .i64 0, .int .i64 0, .int .i64 0]).on (below1 _ (.cells #[.int .i64 1, .int .u64 0, .int .u64 0, .int .u64 0, .int .u64 0, .int .i64 0, .int .i64 0, .int .i64 0, .int .u64 0, .int .u64 0, .int .u64 0, .int .u64 0, .int .i64 3, .int .u64 0, .int .u64 0, .int .u64 0, .int .u64 0, .int .i64 2, .int .i64 1, .int .i64 0, .int .u64 0, .int .u64 0, .int .u64 0, .int .u64 0, .int .i64 3, .int .u64 0, .int .u64 0, .int .u64 0, .int .u64 0, .int .i64 0, .int .i64 0, .int .i64 0, .int .u64 0, .int .u64 0, .int .u64 0, .int .u64 0] 30))
    simpa using h
  have HX0 := Lib.hid X0
  have HX1 := Lib.hid X1
  have HB0 := Lib.hid B0
  clear X0 X1 B0
  go_enter Try.func8, Try.ntmps8
  go_wp2_with fail
  refine (sort_r _ [(⟨1, ⟨0#64, 0#64, 0#64, 0#64⟩, 0, 0, 0, ⟨0#64, 0#64, 0#64, 0#64⟩⟩ : Rl), (⟨3, ⟨0#64, 0#64, 0#64, 0#64⟩, 2, 1, 0, ⟨0#64, 0#64, 0#64, 0#64⟩⟩ : Rl), (⟨3, ⟨0#64, 0#64, 0#64, 0#64⟩, 0, 0, 0, ⟨0#64, 0#64, 0#64, 0#64⟩⟩ : Rl)] _ (by decide) (aw_row w)).mono ?_
  rintro e w3 ⟨v3, rfl, O3, hb3⟩
  have X0 := HX0.out.on hb3
  have X1 := HX1.out.on hb3
  have B3 := Lib.hid (HB0.out.trans (hb3.mono HB0.out.size))
  rw [aw_srt] at O3
  clear HX0 HX1 HB0 hb3
  obtain ⟨g, cap, rfl⟩ : ∃ g cap, v3 = .slice (some ⟨g, 0, none⟩) 3 cap := by
    rcases O3.2 with ⟨_, h⟩ | ⟨g, cap, cur, h, _⟩
    · simp at h
    · exact ⟨g, cap, h⟩
  have PA := Lib.hid (aw_ports X1).1
  have PB := Lib.hid (aw_ports X1).2
  have KP : ∀ W, Below w3.heap.size w3 W → (Below w3.heap.size w3 W ∧ W.cell? ⟨w.heap.size, 0, none⟩ = some (.int .i64 3) ∧ W.cell? ⟨w.heap.size, 1, none⟩ = some (.int .u64 0) ∧ W.cell? ⟨w.heap.size, 2, none⟩ = some (.int .u64 0) ∧ W.cell? ⟨w.heap.size, 3, none⟩ = some (.int .u64 0) ∧ W.cell? ⟨w.heap.size, 4, none⟩ = some (.int .u64 0) ∧ W.cell? ⟨w.heap.size, 5, none⟩ = some (.int .i64 2) ∧ W.cell? ⟨w.heap.size, 6, none⟩ = some (.int .i64 1) ∧ W.cell? ⟨w.heap.size, 7, none⟩ = some (.int .i64 0) ∧ W.cell? ⟨w.heap.size, 8, none⟩ = some (.int .u64 0) ∧ W.cell? ⟨w.heap.size, 9, none⟩ = some (.int .u64 0) ∧ W.cell? ⟨w.heap.size, 10, none⟩ = some (.int .u64 0) ∧ W.cell? ⟨w.heap.size, 11, none⟩ = some (.int .u64 0) ∧ W.cell? ⟨g, 0, none⟩ = some (.int .i64 3) ∧ W.cell? ⟨g, 1, none⟩ = some (.int .u64 0) ∧ W.cell? ⟨g, 2, none⟩ = some (.int .u64 0) ∧ W.cell? ⟨g, 3, none⟩ = some (.int .u64 0) ∧ W.cell? ⟨g, 4, none⟩ = some (.int .u64 0) ∧ W.cell? ⟨g, 5, none⟩ = some (.int .i64 2) ∧ W.cell? ⟨g, 6, none⟩ = some (.int .i64 1) ∧ W.cell? ⟨g, 7, none⟩ = some (.int .i64 0) ∧ W.cell? ⟨g, 8, none⟩ = some (.int .u64 0) ∧ W.cell? ⟨g, 9, none⟩ = some (.int .u64 0) ∧ W.cell? ⟨g, 10, none⟩ = some (.int .u64 0) ∧ W.cell? ⟨g, 11, none⟩ = some (.int .u64 0) ∧ W.cell? ⟨g, 24, none⟩ = some (.int .i64 1)) := fun W hb =>
    have x0 := X0.on hb
    have o0 : ∀ j, j < 36 → W.cell? ⟨g, j, none⟩ = _ := fun j hj => (own_on O3 hb).cellAt j (by simpa using hj)
    ⟨hb, x0.cell 0, x0.cell 1, x0.cell 2, x0.cell 3, x0.cell 4, x0.cell 5, x0.cell 6, x0.cell 7, x0.cell 8, x0.cell 9, x0.cell 10, x0.cell 11, o0 0 (by decide), o0 1 (by decide), o0 2 (by decide), o0 3 (by decide), o0 4 (by decide), o0 5 (by decide), o0 6 (by decide), o0 7 (by decide), o0 8 (by decide), o0 9 (by decide), o0 10 (by decide), o0 11 (by decide), o0 24 (by decide)⟩
  have HKP := Lib.hid KP
  clear KP X0 X1 O3
  go_upto_region 4 with (fail)
  refine wp_region_held_drew (S := fun w' => Below w3.heap.size w3 w' ∧ w'.cell? ⟨w.heap.size, 0, none⟩ = some (.int .i64 3) ∧ w'.cell? ⟨w.heap.size, 1, none⟩ = some (.int .u64 0) ∧ w'.cell? ⟨w.heap.size, 2, none⟩ = some (.int .u64 0) ∧ w'.cell? ⟨w.heap.size, 3, none⟩ = some (.int .u64 0) ∧ w'.cell? ⟨w.heap.size, 4, none⟩ = some (.int .u64 0) ∧ w'.cell? ⟨w.heap.size, 5, none⟩ = some (.int .i64 2) ∧ w'.cell? ⟨w.heap.size, 6, none⟩ = some (.int .i64 1) ∧ w'.cell? ⟨w.heap.size, 7, none⟩ = some (.int .i64 0) ∧ w'.cell? ⟨w.heap.size, 8, none⟩ = some (.int .u64 0) ∧ w'.cell? ⟨w.heap.size, 9, none⟩ = some (.int .u64 0) ∧ w'.cell? ⟨w.heap.size, 10, none⟩ = some (.int .u64 0) ∧ w'.cell? ⟨w.heap.size, 11, none⟩ = some (.int .u64 0) ∧ w'.cell? ⟨g, 0, none⟩ = some (.int .i64 3) ∧ w'.cell? ⟨g, 1, none⟩ = some (.int .u64 0) ∧ w'.cell? ⟨g, 2, none⟩ = some (.int .u64 0) ∧ w'.cell? ⟨g, 3, none⟩ = some (.int .u64 0) ∧ w'.cell? ⟨g, 4, none⟩ = some (.int .u64 0) ∧ w'.cell? ⟨g, 5, none⟩ = some (.int .i64 2) ∧ w'.cell? ⟨g, 6, none⟩ = some (.int .i64 1) ∧ w'.cell? ⟨g, 7, none⟩ = some (.int .i64 0) ∧ w'.cell? ⟨g, 8, none⟩ = some (.int .u64 0) ∧ w'.cell? ⟨g, 9, none⟩ = some (.int .u64 0) ∧ w'.cell? ⟨g, 10, none⟩ = some (.int .u64 0) ∧ w'.cell? ⟨g, 11, none⟩ = some (.int .u64 0) ∧ w'.cell? ⟨g, 24, none⟩ = some (.int .i64 1)) (by kernel_rfl) (HKP.out _ (Below.refl _ w3).drew) (fun hHeld => ?_)
  refine wpAnyH_take (i := 0) (oi := ⟨some 14, _, _, _, _, _⟩) (v := ?vq0) rfl (by kernel_rfl) (by kernel_rfl) (by kernel_rfl) (fun _ _ _ h => h) (Or.inl ⟨by rfl, ?yq0⟩) hHeld ?rq0
  case yq0 => (intro w' hSw; (try dsimp only at hSw); go_simp; try (with_reducible rfl))
  simp only [Act.put, List.setIfInBounds_toArray, List.set_cons_zero, List.set_cons_succ]
  refine wpAnyH_take (i := 1) (oi := ⟨some 15, _, _, _, _, _⟩) (v := ?vq1) rfl (by kernel_rfl) (by kernel_rfl) (by kernel_rfl) (fun _ _ _ h => h) (Or.inl ⟨by rfl, ?yq1⟩) hHeld ?rq1
  case yq1 => (intro w' hSw; (try dsimp only at hSw); go_simp; try (with_reducible rfl))
  simp only [Act.put, List.setIfInBounds_toArray, List.set_cons_zero, List.set_cons_succ]
  refine wpAnyH_ready (rs := [2]) (by kernel_rfl) (by simp) ?_
  refine AllReadyH.cons (o := ⟨some 16, _, _, _, _, _⟩) rfl (fun K hK => ?_) AllReadyH.nil
  go_simp
  (with_reducible refine (aw_sound true _ [2, 1] _ (by decide) (PA.out.on hHeld.1)).mono ?_)
  rintro e w5 ⟨rfl, hb⟩
  (try dsimp only)
  refine hK.out _ _ (HKP.out _ (hHeld.1.trans (hb.mono hHeld.1.size))) (fun hNext => ?_)
  clear hK K hHeld
  have hHeld := hNext
  clear hNext
  try simp only [Act.put, List.setIfInBounds_toArray, List.set_cons_zero, List.set_cons_succ]
  refine wpAnyH_take (i := 3) (oi := ⟨some 17, _, _, _, _, _⟩) (v := ?vq3) rfl (by kernel_rfl) (by kernel_rfl) (by kernel_rfl) (fun _ _ _ h => h) (Or.inl ⟨by rfl, ?yq3⟩) hHeld ?rq3
  case yq3 => (intro w' hSw; (try dsimp only at hSw); go_simp; try (with_reducible rfl))
  simp only [Act.put, List.setIfInBounds_toArray, List.set_cons_zero, List.set_cons_succ]
  refine wpAnyH_take (i := 4) (oi := ⟨some 18, _, _, _, _, _⟩) (v := ?vq4) rfl (by kernel_rfl) (by kernel_rfl) (by kernel_rfl) (fun _ _ _ h => h) (Or.inl ⟨by rfl, ?yq4⟩) hHeld ?rq4
  case yq4 => (intro w' hSw; (try dsimp only at hSw); go_simp; try (with_reducible rfl))
  simp only [Act.put, List.setIfInBounds_toArray, List.set_cons_zero, List.set_cons_succ]
  refine wpAnyH_take (i := 5) (oi := ⟨some 19, _, _, _, _, _⟩) (v := ?vq5) rfl (by kernel_rfl) (by kernel_rfl) (by kernel_rfl) (fun _ _ _ h => h) (Or.inl ⟨by rfl, ?yq5⟩) hHeld ?rq5
  case yq5 => (intro w' hSw; (try dsimp only at hSw); go_simp; try (with_reducible rfl))
  simp only [Act.put, List.setIfInBounds_toArray, List.set_cons_zero, List.set_cons_succ]
  refine wpAnyH_take (i := 6) (oi := ⟨some 20, _, _, _, _, _⟩) (v := ?vq6) rfl (by kernel_rfl) (by kernel_rfl) (by kernel_rfl) (fun _ _ _ h => h) (Or.inl ⟨by rfl, ?yq6⟩) hHeld ?rq6
  case yq6 => (intro w' hSw; (try dsimp only at hSw); go_simp; try (with_reducible rfl))
  simp only [Act.put, List.setIfInBounds_toArray, List.set_cons_zero, List.set_cons_succ]
  refine wpAnyH_ready (rs := [7]) (by kernel_rfl) (by simp) ?_
  refine AllReadyH.cons (o := ⟨some 21, _, _, _, _, _⟩) rfl (fun K hK => ?_) AllReadyH.nil
  go_simp
  (with_reducible refine (aw_sound false _ [2] _ (by decide) (PB.out.on hHeld.1)).mono ?_)
  rintro e w6 ⟨rfl, hb⟩
  (try dsimp only)
  refine hK.out _ _ (HKP.out _ (hHeld.1.trans (hb.mono hHeld.1.size))) (fun hNext => ?_)
  clear hK K hHeld
  have hHeld := hNext
  clear hNext
  try simp only [Act.put, List.setIfInBounds_toArray, List.set_cons_zero, List.set_cons_succ]
  refine wpAnyH_take (i := 8) (oi := ⟨some 22, _, _, _, _, _⟩) (v := ?vq8) rfl (by kernel_rfl) (by kernel_rfl) (by kernel_rfl) (fun _ _ _ h => h) (Or.inl ⟨by rfl, ?yq8⟩) hHeld ?rq8
  case yq8 => (intro w' hSw; (try dsimp only at hSw); go_simp; try (with_reducible rfl))
  simp only [Act.put, List.setIfInBounds_toArray, List.set_cons_zero, List.set_cons_succ]
  refine wpAnyH_take (i := 9) (oi := ⟨some 23, _, _, _, _, _⟩) (v := ?vq9) rfl (by kernel_rfl) (by kernel_rfl) (by kernel_rfl) (fun _ _ _ h => h) (Or.inl ⟨by rfl, ?yq9⟩) hHeld ?rq9
  case yq9 => (intro w' hSw; (try dsimp only at hSw); go_simp; try (with_reducible rfl))
  simp only [Act.put, List.setIfInBounds_toArray, List.set_cons_zero, List.set_cons_succ]
  refine wpAnyH_take (i := 10) (oi := ⟨some 24, _, _, _, _, _⟩) (v := ?vq10) rfl (by kernel_rfl) (by kernel_rfl) (by kernel_rfl) (fun _ _ _ h => h) (Or.inl ⟨by rfl, ?yq10⟩) hHeld ?rq10
  case yq10 => (intro w' hSw; (try dsimp only at hSw); go_simp; try (with_reducible rfl))
  simp only [Act.put, List.setIfInBounds_toArray, List.set_cons_zero, List.set_cons_succ]
  refine wpAnyH_take (i := 11) (oi := ⟨some 25, _, _, _, _, _⟩) (v := ?vq11) rfl (by kernel_rfl) (by kernel_rfl) (by kernel_rfl) (fun _ _ _ h => h) (Or.inl ⟨by rfl, ?yq11⟩) hHeld ?rq11
  case yq11 => (intro w' hSw; (try dsimp only at hSw); go_simp; try (with_reducible rfl))
  simp only [Act.put, List.setIfInBounds_toArray, List.set_cons_zero, List.set_cons_succ]
  refine wpAnyH_take (i := 12) (oi := ⟨some 26, _, _, _, _, _⟩) (v := ?vq12) rfl (by kernel_rfl) (by kernel_rfl) (by kernel_rfl) (fun _ _ _ h => h) (Or.inl ⟨by rfl, ?yq12⟩) hHeld ?rq12
  case yq12 => (intro w' hSw; (try dsimp only at hSw); go_simp; try (with_reducible rfl))
  simp only [Act.put, List.setIfInBounds_toArray, List.set_cons_zero, List.set_cons_succ]
  refine wpAnyH_ready (rs := [13]) (by kernel_rfl) (by simp) ?_
  refine AllReadyH.cons (o := ⟨some 27, _, _, _, _, _⟩) rfl (fun K hK => ?_) AllReadyH.nil
  go_simp
  (with_reducible refine (aw_same _).mono ?_)
  rintro e w7 ⟨rfl, hb⟩
  (try dsimp only)
  refine hK.out _ _ (HKP.out _ (hHeld.1.trans (hb.mono hHeld.1.size))) (fun hNext => ?_)
  clear hK K hHeld
  have hHeld := hNext
  clear hNext
  try simp only [Act.put, List.setIfInBounds_toArray, List.set_cons_zero, List.set_cons_succ]
  refine wpAnyH_take (i := 14) (oi := ⟨some 28, _, _, _, _, _⟩) (v := ?vq14) rfl (by kernel_rfl) (by kernel_rfl) (by kernel_rfl) (fun _ _ _ h => h) (Or.inl ⟨by rfl, ?yq14⟩) hHeld ?rq14
  case yq14 => (intro w' hSw; (try dsimp only at hSw); go_simp; try (with_reducible rfl))
  simp only [Act.put, List.setIfInBounds_toArray, List.set_cons_zero, List.set_cons_succ]
  refine wpAnyH_take (i := 15) (oi := ⟨some 29, _, _, _, _, _⟩) (v := ?vq15) rfl (by kernel_rfl) (by kernel_rfl) (by kernel_rfl) (fun _ _ _ h => h) (Or.inl ⟨by rfl, ?yq15⟩) hHeld ?rq15
  case yq15 => (intro w' hSw; (try dsimp only at hSw); go_simp; try (with_reducible rfl))
  simp only [Act.put, List.setIfInBounds_toArray, List.set_cons_zero, List.set_cons_succ]
  refine wpAnyH_take (i := 16) (oi := ⟨some 30, _, _, _, _, _⟩) (v := ?vq16) rfl (by kernel_rfl) (by kernel_rfl) (by kernel_rfl) (fun _ _ _ h => h) (Or.inl ⟨by rfl, ?yq16⟩) hHeld ?rq16
  case yq16 => (intro w' hSw; (try dsimp only at hSw); go_simp; try (with_reducible rfl))
  simp only [Act.put, List.setIfInBounds_toArray, List.set_cons_zero, List.set_cons_succ]
  refine wpAnyH_take (i := 17) (oi := ⟨some 31, _, _, _, _, _⟩) (v := ?vq17) rfl (by kernel_rfl) (by kernel_rfl) (by kernel_rfl) (fun _ _ _ h => h) (Or.inl ⟨by rfl, ?yq17⟩) hHeld ?rq17
  case yq17 => (intro w' hSw; (try dsimp only at hSw); go_simp; try (with_reducible rfl))
  simp only [Act.put, List.setIfInBounds_toArray, List.set_cons_zero, List.set_cons_succ]
  refine wpAnyH_ready (rs := [18]) (by kernel_rfl) (by simp) ?_
  refine AllReadyH.cons (o := ⟨some 32, _, _, _, _, _⟩) rfl (fun K hK => ?_) AllReadyH.nil
  go_simp
  (with_reducible refine (aw_before _).mono ?_)
  rintro e w8 ⟨rfl, hb⟩
  (try dsimp only)
  refine hK.out _ _ (HKP.out _ (hHeld.1.trans (hb.mono hHeld.1.size))) (fun hNext => ?_)
  clear hK K hHeld
  have hHeld := hNext
  clear hNext
  try simp only [Act.put, List.setIfInBounds_toArray, List.set_cons_zero, List.set_cons_succ]
  refine wpAnyH_take (i := 19) (oi := ⟨some 33, _, _, _, _, _⟩) (v := ?vq19) rfl (by kernel_rfl) (by kernel_rfl) (by kernel_rfl) (fun _ _ _ h => h) (Or.inl ⟨by rfl, ?yq19⟩) hHeld ?rq19
  case yq19 => (intro w' hSw; (try dsimp only at hSw); go_simp; try (with_reducible rfl))
  simp only [Act.put, List.setIfInBounds_toArray, List.set_cons_zero, List.set_cons_succ]
  refine wpAnyH_take (i := 20) (oi := ⟨some 34, _, _, _, _, _⟩) (v := ?vq20) rfl (by kernel_rfl) (by kernel_rfl) (by kernel_rfl) (fun _ _ _ h => h) (Or.inl ⟨by rfl, ?yq20⟩) hHeld ?rq20
  case yq20 => (intro w' hSw; (try dsimp only at hSw); go_simp; try (with_reducible rfl))
  simp only [Act.put, List.setIfInBounds_toArray, List.set_cons_zero, List.set_cons_succ]
  refine wpAnyH_take (i := 21) (oi := ⟨some 35, _, _, _, _, _⟩) (v := ?vq21) rfl (by kernel_rfl) (by kernel_rfl) (by kernel_rfl) (fun _ _ _ h => h) (Or.inl ⟨by rfl, ?yq21⟩) hHeld ?rq21
  case yq21 => (intro w' hSw; (try dsimp only at hSw); go_simp; try (with_reducible rfl))
  simp only [Act.put, List.setIfInBounds_toArray, List.set_cons_zero, List.set_cons_succ]
  refine wpAnyH_take (i := 22) (oi := ⟨some 36, _, _, _, _, _⟩) (v := ?vq22) rfl (by kernel_rfl) (by kernel_rfl) (by kernel_rfl) (fun _ _ _ h => h) (Or.inl ⟨by rfl, ?yq22⟩) hHeld ?rq22
  case yq22 => (intro w' hSw; (try dsimp only at hSw); go_simp; try (with_reducible rfl))
  simp only [Act.put, List.setIfInBounds_toArray, List.set_cons_zero, List.set_cons_succ]
  refine wpAnyH_take (i := 23) (oi := ⟨some 37, _, _, _, _, _⟩) (v := ?vq23) rfl (by kernel_rfl) (by kernel_rfl) (by kernel_rfl) (fun _ _ _ h => h) (Or.inl ⟨by rfl, ?yq23⟩) hHeld ?rq23
  case yq23 => (intro w' hSw; (try dsimp only at hSw); go_simp; try (with_reducible rfl))
  simp only [Act.put, List.setIfInBounds_toArray, List.set_cons_zero, List.set_cons_succ]
  refine wpAnyH_take (i := 24) (oi := ⟨some 38, _, _, _, _, _⟩) (v := ?vq24) rfl (by kernel_rfl) (by kernel_rfl) (by kernel_rfl) (fun _ _ _ h => h) (Or.inl ⟨by rfl, ?yq24⟩) hHeld ?rq24
  case yq24 => (intro w' hSw; (try dsimp only at hSw); go_simp; try (with_reducible rfl))
  simp only [Act.put, List.setIfInBounds_toArray, List.set_cons_zero, List.set_cons_succ]
  refine wpAnyH_take (i := 25) (oi := ⟨some 39, _, _, _, _, _⟩) (v := ?vq25) rfl (by kernel_rfl) (by kernel_rfl) (by kernel_rfl) (fun _ _ _ h => h) (Or.inl ⟨by rfl, ?yq25⟩) hHeld ?rq25
  case yq25 => (intro w' hSw; (try dsimp only at hSw); go_simp; try (with_reducible rfl))
  simp only [Act.put, List.setIfInBounds_toArray, List.set_cons_zero, List.set_cons_succ]
  refine wpAnyH_take (i := 26) (oi := ⟨some 40, _, _, _, _, _⟩) (v := ?vq26) rfl (by kernel_rfl) (by kernel_rfl) (by kernel_rfl) (fun _ _ _ h => h) (Or.inl ⟨by rfl, ?yq26⟩) hHeld ?rq26
  case yq26 => (intro w' hSw; (try dsimp only at hSw); go_simp; try (with_reducible rfl))
  simp only [Act.put, List.setIfInBounds_toArray, List.set_cons_zero, List.set_cons_succ]
  refine wpAnyH_take (i := 27) (oi := ⟨some 41, _, _, _, _, _⟩) (v := ?vq27) rfl (by kernel_rfl) (by kernel_rfl) (by kernel_rfl) (fun _ _ _ h => h) (Or.inl ⟨by rfl, ?yq27⟩) hHeld ?rq27
  case yq27 => (intro w' hSw; (try dsimp only at hSw); go_simp; try (with_reducible rfl))
  simp only [Act.put, List.setIfInBounds_toArray, List.set_cons_zero, List.set_cons_succ]
  refine wpAnyH_take (i := 28) (oi := ⟨some 42, _, _, _, _, _⟩) (v := ?vq28) rfl (by kernel_rfl) (by kernel_rfl) (by kernel_rfl) (fun _ _ _ h => h) (Or.inl ⟨by rfl, ?yq28⟩) hHeld ?rq28
  case yq28 => (intro w' hSw; (try dsimp only at hSw); go_simp; try (with_reducible rfl))
  simp only [Act.put, List.setIfInBounds_toArray, List.set_cons_zero, List.set_cons_succ]
  refine wpAnyH_take (i := 29) (oi := ⟨some 43, _, _, _, _, _⟩) (v := ?vq29) rfl (by kernel_rfl) (by kernel_rfl) (by kernel_rfl) (fun _ _ _ h => h) (Or.inl ⟨by rfl, ?yq29⟩) hHeld ?rq29
  case yq29 => (intro w' hSw; (try dsimp only at hSw); go_simp; try (with_reducible rfl))
  simp only [Act.put, List.setIfInBounds_toArray, List.set_cons_zero, List.set_cons_succ]
  refine wpAnyH_take (i := 30) (oi := ⟨some 44, _, _, _, _, _⟩) (v := ?vq30) rfl (by kernel_rfl) (by kernel_rfl) (by kernel_rfl) (fun _ _ _ h => h) (Or.inl ⟨by rfl, ?yq30⟩) hHeld ?rq30
  case yq30 => (intro w' hSw; (try dsimp only at hSw); go_simp; try (with_reducible rfl))
  simp only [Act.put, List.setIfInBounds_toArray, List.set_cons_zero, List.set_cons_succ]
  refine wpAnyH_take (i := 31) (oi := ⟨some 45, _, _, _, _, _⟩) (v := ?vq31) rfl (by kernel_rfl) (by kernel_rfl) (by kernel_rfl) (fun _ _ _ h => h) (Or.inl ⟨by rfl, ?yq31⟩) hHeld ?rq31
  case yq31 => (intro w' hSw; (try dsimp only at hSw); go_simp; try (with_reducible rfl))
  simp only [Act.put, List.setIfInBounds_toArray, List.set_cons_zero, List.set_cons_succ]
  refine wpAnyH_take (i := 32) (oi := ⟨some 46, _, _, _, _, _⟩) (v := ?vq32) rfl (by kernel_rfl) (by kernel_rfl) (by kernel_rfl) (fun _ _ _ h => h) (Or.inl ⟨by rfl, ?yq32⟩) hHeld ?rq32
  case yq32 => (intro w' hSw; (try dsimp only at hSw); go_simp; try (with_reducible rfl))
  simp only [Act.put, List.setIfInBounds_toArray, List.set_cons_zero, List.set_cons_succ]
  refine wpAnyH_take (i := 33) (oi := ⟨some 47, _, _, _, _, _⟩) (v := ?vq33) rfl (by kernel_rfl) (by kernel_rfl) (by kernel_rfl) (fun _ _ _ h => h) (Or.inl ⟨by rfl, ?yq33⟩) hHeld ?rq33
  case yq33 => (intro w' hSw; (try dsimp only at hSw); go_simp; try (with_reducible rfl))
  simp only [Act.put, List.setIfInBounds_toArray, List.set_cons_zero, List.set_cons_succ]
  refine wpAnyH_take (i := 34) (oi := ⟨some 48, _, _, _, _, _⟩) (v := ?vq34) rfl (by kernel_rfl) (by kernel_rfl) (by kernel_rfl) (fun _ _ _ h => h) (Or.inl ⟨by rfl, ?yq34⟩) hHeld ?rq34
  case yq34 => (intro w' hSw; (try dsimp only at hSw); go_simp; try (with_reducible rfl))
  simp only [Act.put, List.setIfInBounds_toArray, List.set_cons_zero, List.set_cons_succ]
  refine wpAnyH_take (i := 35) (oi := ⟨some 49, _, _, _, _, _⟩) (v := ?vq35) rfl (by kernel_rfl) (by kernel_rfl) (by kernel_rfl) (fun _ _ _ h => h) (Or.inl ⟨by rfl, ?yq35⟩) hHeld ?rq35
  case yq35 => (intro w' hSw; (try dsimp only at hSw); go_simp; try (with_reducible rfl))
  simp only [Act.put, List.setIfInBounds_toArray, List.set_cons_zero, List.set_cons_succ]
  refine wpAnyH_take (i := 36) (oi := ⟨some 50, _, _, _, _, _⟩) (v := ?vq36) rfl (by kernel_rfl) (by kernel_rfl) (by kernel_rfl) (fun _ _ _ h => h) (Or.inl ⟨by rfl, ?yq36⟩) hHeld ?rq36
  case yq36 => (intro w' hSw; (try dsimp only at hSw); go_simp; try (with_reducible rfl))
  simp only [Act.put, List.setIfInBounds_toArray, List.set_cons_zero, List.set_cons_succ]
  refine wpAnyH_take (i := 37) (oi := ⟨some 51, _, _, _, _, _⟩) (v := ?vq37) rfl (by kernel_rfl) (by kernel_rfl) (by kernel_rfl) (fun _ _ _ h => h) (Or.inl ⟨by rfl, ?yq37⟩) hHeld ?rq37
  case yq37 => (intro w' hSw; (try dsimp only at hSw); go_simp; try (with_reducible rfl))
  simp only [Act.put, List.setIfInBounds_toArray, List.set_cons_zero, List.set_cons_succ]
  refine wpAnyH_take (i := 38) (oi := ⟨some 52, _, _, _, _, _⟩) (v := ?vq38) rfl (by kernel_rfl) (by kernel_rfl) (by kernel_rfl) (fun _ _ _ h => h) (Or.inl ⟨by rfl, ?yq38⟩) hHeld ?rq38
  case yq38 => (intro w' hSw; (try dsimp only at hSw); go_simp; try (with_reducible rfl))
  simp only [Act.put, List.setIfInBounds_toArray, List.set_cons_zero, List.set_cons_succ]
  refine wpAnyH_take (i := 39) (oi := ⟨some 0, _, _, _, _, _⟩) (v := ?vq39) rfl (by kernel_rfl) (by kernel_rfl) (by kernel_rfl) (fun _ _ _ h => h) (Or.inl ⟨by rfl, ?yq39⟩) hHeld ?rq39
  case yq39 => (intro w' hSw; (try dsimp only at hSw); go_simp; try (with_reducible rfl))
  simp only [Act.put, List.setIfInBounds_toArray, List.set_cons_zero]
  refine wpAnyH_done (by kernel_rfl) ?_ _
  have hL := B3.out.trans (hHeld.1.mono B3.out.size)
  clear hHeld HKP
  go_wp2
  go_ret
  exact ⟨rfl, hL⟩
end Go.Proofs
