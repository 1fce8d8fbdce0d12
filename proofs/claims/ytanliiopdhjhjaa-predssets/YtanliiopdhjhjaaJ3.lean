/-
  Contract: Text of the reference of layer 2: a cube's text, or that it is not sound. Conditions as each theorem lists them.
-/
import Derived.Test.YtanliiopdhjhjaaJ2
import Derived.Deep.DeepCutAuto
import Derived.Deep.LoopGhost
import Derived.Deep.Light
import Derived.Deep.MidRow
import Derived.OwnWalk
namespace Go.Proofs
open Go.RowKit Go.Proofs.Hd
attribute [local go_sem] uv_nonneg
theorem info8 : (Try.prog.info? 5).map (fun i => (i.zero, i.size, i.bytes)) = some (some (.int .u8 0), 1, 1) := by kernel_rfl
theorem back128 (c : Cb) (u : World) : (convert 85 9 (.slice (some ⟨u.heap.size, 0, none⟩) 128 128)).run Try.prog (u.alloc (.cells (by8 (upTxt c 128)).toArray 5)) = .ok (.string (txt c)) (u.alloc (.cells (by8 (upTxt c 128)).toArray 5)) := by
  have h := run_convert_bytes_back (P := Try.prog) (u.alloc (.cells (by8 (upTxt c 128)).toArray 5)) 85 9 5 ⟨u.heap.size, 0, none⟩ 128 (txtL c) Try.underlying85 Try.underlying5 Try.underlying9 (fun j hj => by
    have ha : (⟨u.heap.size, 0, none⟩ : Addr).add j = ⟨u.heap.size, j, none⟩ := by unfold Addr.add; split <;> simp_all
    rw [ha, World.cell?_alloc_new, upTxt_all]
    simp [hj])
  rw [txtL_len] at h
  exact h
theorem upto_ok {c : Cb} {k : Nat} (h : ∀ j, j < k → c.V j = true → c.K j = true) (hk : c.V k = true → c.K k = true) : ∀ j, j < k + 1 → c.V j = true → c.K j = true := fun j hj => by
  by_cases e : j = k
  · subst e; exact hk
  · exact h j (by omega)
theorem make128 (u : World) : (Instr.makeSlice 85 (.int .i64 128) (.int .i64 128)).run Try.prog u = .ok (.slice (some ⟨u.heap.size, 0, none⟩) 128 128) (u.alloc (.cells (by8 (fun _ => 0)).toArray 5)) := by
  obtain ⟨i0, hi0, hz0, hz1, hz2⟩ := info_parts info8
  have h := run_make (P := Try.prog) u 85 5 i0 _ Try.underlying85 hi0 hz0 .i64 .i64 128 128 (by omega) (by omega) (by rw [hz2]; decide) (by omega)
  rw [hz1] at h
  exact h.trans (by rw [← made8]; rfl)
set_option maxRecDepth 100000 in
set_option maxHeartbeats 8000000 in
theorem text_yes (c : Cb) (w : World) (hs : c.snd = true) : Calls Try.prog 17 #[.agg #[.int .u64 (uv c.vh), .int .u64 (uv c.vl), .int .u64 (uv c.ch), .int .u64 (uv c.cl)]] w fun e w' => e = .returned (.tuple #[.string (txt c), .bool true]) ∧ Below w.heap.size w w' := by
  have hz := zero25
  have S0 : Below w.heap.size w (w.alloc (.cells #[.int .u64 (uv c.vh), .int .u64 (uv c.vl), .int .u64 (uv c.ch), .int .u64 (uv c.cl)] 43)) ∧ (w.alloc (.cells #[.int .u64 (uv c.vh), .int .u64 (uv c.vl), .int .u64 (uv c.ch), .int .u64 (uv c.cl)] 43)).cell? ⟨w.heap.size, 0, none⟩ = some (.int .u64 (uv c.vh)) ∧ (w.alloc (.cells #[.int .u64 (uv c.vh), .int .u64 (uv c.vl), .int .u64 (uv c.ch), .int .u64 (uv c.cl)] 43)).cell? ⟨w.heap.size, 1, none⟩ = some (.int .u64 (uv c.vl)) ∧ (w.alloc (.cells #[.int .u64 (uv c.vh), .int .u64 (uv c.vl), .int .u64 (uv c.ch), .int .u64 (uv c.cl)] 43)).cell? ⟨w.heap.size, 2, none⟩ = some (.int .u64 (uv c.ch)) ∧ (w.alloc (.cells #[.int .u64 (uv c.vh), .int .u64 (uv c.vl), .int .u64 (uv c.ch), .int .u64 (uv c.cl)] 43)).cell? ⟨w.heap.size, 3, none⟩ = some (.int .u64 (uv c.cl)) := ⟨below1 w (.cells #[.int .u64 (uv c.vh), .int .u64 (uv c.vl), .int .u64 (uv c.ch), .int .u64 (uv c.cl)] 43), by go_simp, by go_simp, by go_simp, by go_simp⟩
  go_enter Try.func17, Try.ntmps17
  go_upto_region 1 with (fail)
  go_cut [4, 5] (fun i o wc => ∃ bx by' : Nat, i = .pointer (some ⟨bx, 0, none⟩) ∧ o = .pointer (some ⟨by', 0, none⟩) ∧ Below w.heap.size w wc ∧ wc.rangeAt bx 0 (bl (hbit c.vh c.vl)) ∧ wc.rangeAt by' 0 (bl (hbit c.ch c.cl)))
  case first =>
    refine wp_region_held_drew (S := fun w' => Below w.heap.size w w' ∧ w'.cell? ⟨w.heap.size, 0, none⟩ = some (.int .u64 (uv c.vh)) ∧ w'.cell? ⟨w.heap.size, 1, none⟩ = some (.int .u64 (uv c.vl)) ∧ w'.cell? ⟨w.heap.size, 2, none⟩ = some (.int .u64 (uv c.ch)) ∧ w'.cell? ⟨w.heap.size, 3, none⟩ = some (.int .u64 (uv c.cl))) (by kernel_rfl) ⟨S0.1.drew, S0.2⟩ (fun hHeld => ?_)
    generalize (w.alloc (.cells #[.int .u64 (uv c.vh), .int .u64 (uv c.vl), .int .u64 (uv c.ch), .int .u64 (uv c.cl)] 43)).drew = u0 at hHeld ⊢
    refine wpAnyH_take (i := 0) (oi := ⟨some 9, _, _, _, _, _⟩) (v := ?v0) rfl (by kernel_rfl) (by kernel_rfl) (by kernel_rfl) (fun _ _ _ h => h) (Or.inl ⟨by rfl, ?y0⟩) hHeld ?r0
    case y0 => (intro w' hSw; (try dsimp only at hSw); go_simp; try (with_reducible rfl))
    simp only [Act.put, List.setIfInBounds_toArray, List.set_cons_zero, List.set_cons_succ]
    refine wpAnyH_take (i := 1) (oi := ⟨some 10, _, _, _, _, _⟩) (v := ?v1) rfl (by kernel_rfl) (by kernel_rfl) (by kernel_rfl) (fun _ _ _ h => h) (Or.inl ⟨by rfl, ?y1⟩) hHeld ?r1
    case y1 => (intro w' hSw; (try dsimp only at hSw); go_simp; try (with_reducible rfl))
    simp only [Act.put, List.setIfInBounds_toArray, List.set_cons_zero, List.set_cons_succ]
    refine wpAnyH_take (i := 3) (oi := ⟨some 12, _, _, _, _, _⟩) (v := ?v3) rfl (by kernel_rfl) (by kernel_rfl) (by kernel_rfl) (fun _ _ _ h => h) (Or.inl ⟨by rfl, ?y3⟩) hHeld ?r3
    case y3 => (intro w' hSw; (try dsimp only at hSw); go_simp; try (with_reducible rfl))
    simp only [Act.put, List.setIfInBounds_toArray, List.set_cons_zero, List.set_cons_succ]
    refine wpAnyH_take (i := 4) (oi := ⟨some 13, _, _, _, _, _⟩) (v := ?v4) rfl (by kernel_rfl) (by kernel_rfl) (by kernel_rfl) (fun _ _ _ h => h) (Or.inl ⟨by rfl, ?y4⟩) hHeld ?r4
    case y4 => (intro w' hSw; (try dsimp only at hSw); go_simp; try (with_reducible rfl))
    simp only [Act.put, List.setIfInBounds_toArray, List.set_cons_zero, List.set_cons_succ]
    refine wpAnyH_ready (rs := [2, 6, 7]) (by kernel_rfl) (by simp) ?_
    refine AllReadyH.cons (o := ⟨some 11, _, _, _, _, _⟩) rfl (fun K hK => ?_) ?_
    · go_simp
      (with_reducible refine (bits_c _ _ _).mono ?_)
      rintro e u1 ⟨rfl, hb⟩
      (try dsimp only)
      refine hK.out _ _ (hold4 hb hHeld) (fun hNext => ?_)
      clear hK K hHeld
      have hHeld := hNext
      clear hNext
      clear hb
      try simp only [Act.put, List.setIfInBounds_toArray, List.set_cons_zero, List.set_cons_succ]
      refine wpAnyH_ready (rs := [5, 6, 7]) (by kernel_rfl) (by simp) ?_
      refine AllReadyH.cons (o := ⟨some 14, _, _, _, _, _⟩) rfl (fun K hK => ?_) ?_
      · go_simp
        (with_reducible refine (bits_c _ _ _).mono ?_)
        rintro e u2 ⟨rfl, hb⟩
        (try dsimp only)
        refine hK.out _ _ (hold4 hb hHeld) (fun hNext => ?_)
        clear hK K hHeld
        have hHeld := hNext
        clear hNext
        clear hb
        try simp only [Act.put, List.setIfInBounds_toArray, List.set_cons_zero, List.set_cons_succ]
        refine wpAnyH_ready (rs := [6, 7]) (by kernel_rfl) (by simp) ?_
        refine AllReadyH.cons (o := ⟨some 4, _, _, _, _, _⟩) rfl (fun K hK => ?_) ?_
        · go_simp
          have hb := below1 u2 (.cells (bl (fun _ => false)).toArray 92)
          refine hK.out _ _ (hold4 hb hHeld) (fun hNext => ?_)
          have t6 : Th (w.heap.size + 1) (u2.alloc (.cells (bl (fun _ => false)).toArray 92)) u2.heap.size := Th.top u2 _ rfl (World.block_lt_of_cell? u2 _ hHeld.2.1)
          clear hK K hHeld hb
          have hHeld := hNext
          clear hNext
          generalize (u2.alloc (.cells (bl (fun _ => false)).toArray 92)) = u3 at hHeld t6 ⊢
          try simp only [Act.put, List.setIfInBounds_toArray, List.set_cons_zero, List.set_cons_succ]
          refine wpAnyH_ready (rs := [7]) (by kernel_rfl) (by simp) ?_
          refine AllReadyH.cons (o := ⟨some 5, _, _, _, _, _⟩) rfl (fun K hK => ?_) AllReadyH.nil
          go_simp
          have hb := below1 u3 (.cells (bl (fun _ => false)).toArray 92)
          refine hK.out _ _ (hold4 hb hHeld) (fun hNext => ?_)
          have t7 : Th (w.heap.size + 1) (u3.alloc (.cells (bl (fun _ => false)).toArray 92)) u3.heap.size := Th.top u3 _ rfl (World.block_lt_of_cell? u3 _ hHeld.2.1)
          have n7_6 : u2.heap.size ≠ u3.heap.size := t6.ne
          replace t6 := t6.on hb
          clear hK K hHeld hb
          have hHeld := hNext
          clear hNext
          generalize (u3.alloc (.cells (bl (fun _ => false)).toArray 92)) = u4 at hHeld t6 t7 ⊢
          try simp only [Act.put, List.setIfInBounds_toArray, List.set_cons_zero, List.set_cons_succ]
          have s6 := t6.1
          have s7 := t7.1
          refine wpAnyH_ready (rs := [8]) (by kernel_rfl) (by simp) ?_
          refine AllReadyH.cons (o := ⟨none, _, _, _, _, _⟩) rfl (fun K hK => ?_) AllReadyH.nil
          rw [if_pos (by rfl)]
          refine wp_store_mid 92 _ _ rfl u2.heap.size 0 (bl (hbit c.vh c.vl)).toArray rfl rfl (by rw [bl_size]; exact t6.1) (size25 _) (bl_all _) ?_
          (try dsimp only)
          refine hK.out _ _ (shold4 (Below.setCells (b := u2.heap.size) _ _ _ (Below.refl _ _) (Nat.le_refl _)) hHeld (by have := t6.2; omega) (by have := t6.2; dsimp only; omega) (by have := t6.2; dsimp only; omega) (by have := t6.2; dsimp only; omega) (by have := t6.2; dsimp only; omega)) (fun hNext => ?_)
          clear hK K hHeld
          have hHeld := hNext
          clear hNext
          replace t6 := t6.set u2.heap.size (bl (hbit c.vh c.vl))
          replace t7 := t7.set u2.heap.size (bl (hbit c.vh c.vl))
          try simp only [Act.put]
          refine wpAnyH_ready (rs := [9]) (by kernel_rfl) (by simp) ?_
          refine AllReadyH.cons (o := ⟨none, _, _, _, _, _⟩) rfl (fun K hK => ?_) AllReadyH.nil
          rw [if_pos (by rfl)]
          refine wp_store_mid 92 _ _ rfl u3.heap.size 0 (bl (hbit c.ch c.cl)).toArray rfl rfl (by rw [bl_size]; exact t7.1) (size25 _) (bl_all _) ?_
          (try dsimp only)
          refine hK.out _ _ (shold4 (Below.setCells (b := u3.heap.size) _ _ _ (Below.refl _ _) (Nat.le_refl _)) hHeld (by have := t7.2; omega) (by have := t7.2; dsimp only; omega) (by have := t7.2; dsimp only; omega) (by have := t7.2; dsimp only; omega) (by have := t7.2; dsimp only; omega)) (fun hNext => ?_)
          clear hK K hHeld
          have hHeld := hNext
          clear hNext
          replace t6 := t6.set u3.heap.size (bl (hbit c.ch c.cl))
          replace t7 := t7.set u3.heap.size (bl (hbit c.ch c.cl))
          try simp only [Act.put]
          refine wpAnyH_done (by kernel_rfl) ?_ _
          go_wp2_with fail
          go_meet
          exact ⟨u2.heap.size, u3.heap.size, rfl, rfl, hHeld.1, (rows2 _ _ s6 s7 n7_6).1, (rows2 _ _ s6 s7 n7_6).2⟩
        refine AllReadyH.cons (o := ⟨some 5, _, _, _, _, _⟩) rfl (fun K hK => ?_) AllReadyH.nil
        go_simp
        have hb := below1 u2 (.cells (bl (fun _ => false)).toArray 92)
        refine hK.out _ _ (hold4 hb hHeld) (fun hNext => ?_)
        have t7 : Th (w.heap.size + 1) (u2.alloc (.cells (bl (fun _ => false)).toArray 92)) u2.heap.size := Th.top u2 _ rfl (World.block_lt_of_cell? u2 _ hHeld.2.1)
        clear hK K hHeld hb
        have hHeld := hNext
        clear hNext
        generalize (u2.alloc (.cells (bl (fun _ => false)).toArray 92)) = u5 at hHeld t7 ⊢
        try simp only [Act.put, List.setIfInBounds_toArray, List.set_cons_zero, List.set_cons_succ]
        refine wpAnyH_ready (rs := [6]) (by kernel_rfl) (by simp) ?_
        refine AllReadyH.cons (o := ⟨some 4, _, _, _, _, _⟩) rfl (fun K hK => ?_) AllReadyH.nil
        go_simp
        have hb := below1 u5 (.cells (bl (fun _ => false)).toArray 92)
        refine hK.out _ _ (hold4 hb hHeld) (fun hNext => ?_)
        have t6 : Th (w.heap.size + 1) (u5.alloc (.cells (bl (fun _ => false)).toArray 92)) u5.heap.size := Th.top u5 _ rfl (World.block_lt_of_cell? u5 _ hHeld.2.1)
        have n6_7 : u2.heap.size ≠ u5.heap.size := t7.ne
        replace t7 := t7.on hb
        clear hK K hHeld hb
        have hHeld := hNext
        clear hNext
        generalize (u5.alloc (.cells (bl (fun _ => false)).toArray 92)) = u6 at hHeld t6 t7 ⊢
        try simp only [Act.put, List.setIfInBounds_toArray, List.set_cons_zero, List.set_cons_succ]
        have s6 := t6.1
        have s7 := t7.1
        refine wpAnyH_ready (rs := [8]) (by kernel_rfl) (by simp) ?_
        refine AllReadyH.cons (o := ⟨none, _, _, _, _, _⟩) rfl (fun K hK => ?_) AllReadyH.nil
        rw [if_pos (by rfl)]
        refine wp_store_mid 92 _ _ rfl u5.heap.size 0 (bl (hbit c.vh c.vl)).toArray rfl rfl (by rw [bl_size]; exact t6.1) (size25 _) (bl_all _) ?_
        (try dsimp only)
        refine hK.out _ _ (shold4 (Below.setCells (b := u5.heap.size) _ _ _ (Below.refl _ _) (Nat.le_refl _)) hHeld (by have := t6.2; omega) (by have := t6.2; dsimp only; omega) (by have := t6.2; dsimp only; omega) (by have := t6.2; dsimp only; omega) (by have := t6.2; dsimp only; omega)) (fun hNext => ?_)
        clear hK K hHeld
        have hHeld := hNext
        clear hNext
        replace t6 := t6.set u5.heap.size (bl (hbit c.vh c.vl))
        replace t7 := t7.set u5.heap.size (bl (hbit c.vh c.vl))
        try simp only [Act.put]
        refine wpAnyH_ready (rs := [9]) (by kernel_rfl) (by simp) ?_
        refine AllReadyH.cons (o := ⟨none, _, _, _, _, _⟩) rfl (fun K hK => ?_) AllReadyH.nil
        rw [if_pos (by rfl)]
        refine wp_store_mid 92 _ _ rfl u2.heap.size 0 (bl (hbit c.ch c.cl)).toArray rfl rfl (by rw [bl_size]; exact t7.1) (size25 _) (bl_all _) ?_
        (try dsimp only)
        refine hK.out _ _ (shold4 (Below.setCells (b := u2.heap.size) _ _ _ (Below.refl _ _) (Nat.le_refl _)) hHeld (by have := t7.2; omega) (by have := t7.2; dsimp only; omega) (by have := t7.2; dsimp only; omega) (by have := t7.2; dsimp only; omega) (by have := t7.2; dsimp only; omega)) (fun hNext => ?_)
        clear hK K hHeld
        have hHeld := hNext
        clear hNext
        replace t6 := t6.set u2.heap.size (bl (hbit c.ch c.cl))
        replace t7 := t7.set u2.heap.size (bl (hbit c.ch c.cl))
        try simp only [Act.put]
        refine wpAnyH_done (by kernel_rfl) ?_ _
        go_wp2_with fail
        go_meet
        exact ⟨u5.heap.size, u2.heap.size, rfl, rfl, hHeld.1, (rows2 _ _ s6 s7 n6_7.symm).1, (rows2 _ _ s6 s7 n6_7.symm).2⟩
      refine AllReadyH.cons (o := ⟨some 4, _, _, _, _, _⟩) rfl (fun K hK => ?_) ?_
      · go_simp
        have hb := below1 u1 (.cells (bl (fun _ => false)).toArray 92)
        refine hK.out _ _ (hold4 hb hHeld) (fun hNext => ?_)
        have t6 : Th (w.heap.size + 1) (u1.alloc (.cells (bl (fun _ => false)).toArray 92)) u1.heap.size := Th.top u1 _ rfl (World.block_lt_of_cell? u1 _ hHeld.2.1)
        clear hK K hHeld hb
        have hHeld := hNext
        clear hNext
        generalize (u1.alloc (.cells (bl (fun _ => false)).toArray 92)) = u7 at hHeld t6 ⊢
        try simp only [Act.put, List.setIfInBounds_toArray, List.set_cons_zero, List.set_cons_succ]
        refine wpAnyH_ready (rs := [5, 7]) (by kernel_rfl) (by simp) ?_
        refine AllReadyH.cons (o := ⟨some 14, _, _, _, _, _⟩) rfl (fun K hK => ?_) ?_
        · go_simp
          (with_reducible refine (bits_c _ _ _).mono ?_)
          rintro e u8 ⟨rfl, hb⟩
          (try dsimp only)
          refine hK.out _ _ (hold4 hb hHeld) (fun hNext => ?_)
          clear hK K hHeld
          have hHeld := hNext
          clear hNext
          replace t6 := t6.on hb
          clear hb
          try simp only [Act.put, List.setIfInBounds_toArray, List.set_cons_zero, List.set_cons_succ]
          refine wpAnyH_ready (rs := [7]) (by kernel_rfl) (by simp) ?_
          refine AllReadyH.cons (o := ⟨some 5, _, _, _, _, _⟩) rfl (fun K hK => ?_) AllReadyH.nil
          go_simp
          have hb := below1 u8 (.cells (bl (fun _ => false)).toArray 92)
          refine hK.out _ _ (hold4 hb hHeld) (fun hNext => ?_)
          have t7 : Th (w.heap.size + 1) (u8.alloc (.cells (bl (fun _ => false)).toArray 92)) u8.heap.size := Th.top u8 _ rfl (World.block_lt_of_cell? u8 _ hHeld.2.1)
          have n7_6 : u1.heap.size ≠ u8.heap.size := t6.ne
          replace t6 := t6.on hb
          clear hK K hHeld hb
          have hHeld := hNext
          clear hNext
          generalize (u8.alloc (.cells (bl (fun _ => false)).toArray 92)) = u9 at hHeld t6 t7 ⊢
          try simp only [Act.put, List.setIfInBounds_toArray, List.set_cons_zero, List.set_cons_succ]
          have s6 := t6.1
          have s7 := t7.1
          refine wpAnyH_ready (rs := [8]) (by kernel_rfl) (by simp) ?_
          refine AllReadyH.cons (o := ⟨none, _, _, _, _, _⟩) rfl (fun K hK => ?_) AllReadyH.nil
          rw [if_pos (by rfl)]
          refine wp_store_mid 92 _ _ rfl u1.heap.size 0 (bl (hbit c.vh c.vl)).toArray rfl rfl (by rw [bl_size]; exact t6.1) (size25 _) (bl_all _) ?_
          (try dsimp only)
          refine hK.out _ _ (shold4 (Below.setCells (b := u1.heap.size) _ _ _ (Below.refl _ _) (Nat.le_refl _)) hHeld (by have := t6.2; omega) (by have := t6.2; dsimp only; omega) (by have := t6.2; dsimp only; omega) (by have := t6.2; dsimp only; omega) (by have := t6.2; dsimp only; omega)) (fun hNext => ?_)
          clear hK K hHeld
          have hHeld := hNext
          clear hNext
          replace t6 := t6.set u1.heap.size (bl (hbit c.vh c.vl))
          replace t7 := t7.set u1.heap.size (bl (hbit c.vh c.vl))
          try simp only [Act.put]
          refine wpAnyH_ready (rs := [9]) (by kernel_rfl) (by simp) ?_
          refine AllReadyH.cons (o := ⟨none, _, _, _, _, _⟩) rfl (fun K hK => ?_) AllReadyH.nil
          rw [if_pos (by rfl)]
          refine wp_store_mid 92 _ _ rfl u8.heap.size 0 (bl (hbit c.ch c.cl)).toArray rfl rfl (by rw [bl_size]; exact t7.1) (size25 _) (bl_all _) ?_
          (try dsimp only)
          refine hK.out _ _ (shold4 (Below.setCells (b := u8.heap.size) _ _ _ (Below.refl _ _) (Nat.le_refl _)) hHeld (by have := t7.2; omega) (by have := t7.2; dsimp only; omega) (by have := t7.2; dsimp only; omega) (by have := t7.2; dsimp only; omega) (by have := t7.2; dsimp only; omega)) (fun hNext => ?_)
          clear hK K hHeld
          have hHeld := hNext
          clear hNext
          replace t6 := t6.set u8.heap.size (bl (hbit c.ch c.cl))
          replace t7 := t7.set u8.heap.size (bl (hbit c.ch c.cl))
          try simp only [Act.put]
          refine wpAnyH_done (by kernel_rfl) ?_ _
          go_wp2_with fail
          go_meet
          exact ⟨u1.heap.size, u8.heap.size, rfl, rfl, hHeld.1, (rows2 _ _ s6 s7 n7_6).1, (rows2 _ _ s6 s7 n7_6).2⟩
        refine AllReadyH.cons (o := ⟨some 5, _, _, _, _, _⟩) rfl (fun K hK => ?_) AllReadyH.nil
        go_simp
        have hb := below1 u7 (.cells (bl (fun _ => false)).toArray 92)
        refine hK.out _ _ (hold4 hb hHeld) (fun hNext => ?_)
        have t7 : Th (w.heap.size + 1) (u7.alloc (.cells (bl (fun _ => false)).toArray 92)) u7.heap.size := Th.top u7 _ rfl (World.block_lt_of_cell? u7 _ hHeld.2.1)
        have n7_6 : u1.heap.size ≠ u7.heap.size := t6.ne
        replace t6 := t6.on hb
        clear hK K hHeld hb
        have hHeld := hNext
        clear hNext
        generalize (u7.alloc (.cells (bl (fun _ => false)).toArray 92)) = u10 at hHeld t6 t7 ⊢
        try simp only [Act.put, List.setIfInBounds_toArray, List.set_cons_zero, List.set_cons_succ]
        refine wpAnyH_ready (rs := [5]) (by kernel_rfl) (by simp) ?_
        refine AllReadyH.cons (o := ⟨some 14, _, _, _, _, _⟩) rfl (fun K hK => ?_) AllReadyH.nil
        go_simp
        (with_reducible refine (bits_c _ _ _).mono ?_)
        rintro e u11 ⟨rfl, hb⟩
        (try dsimp only)
        refine hK.out _ _ (hold4 hb hHeld) (fun hNext => ?_)
        clear hK K hHeld
        have hHeld := hNext
        clear hNext
        replace t6 := t6.on hb
        replace t7 := t7.on hb
        clear hb
        try simp only [Act.put, List.setIfInBounds_toArray, List.set_cons_zero, List.set_cons_succ]
        have s6 := t6.1
        have s7 := t7.1
        refine wpAnyH_ready (rs := [8]) (by kernel_rfl) (by simp) ?_
        refine AllReadyH.cons (o := ⟨none, _, _, _, _, _⟩) rfl (fun K hK => ?_) AllReadyH.nil
        rw [if_pos (by rfl)]
        refine wp_store_mid 92 _ _ rfl u1.heap.size 0 (bl (hbit c.vh c.vl)).toArray rfl rfl (by rw [bl_size]; exact t6.1) (size25 _) (bl_all _) ?_
        (try dsimp only)
        refine hK.out _ _ (shold4 (Below.setCells (b := u1.heap.size) _ _ _ (Below.refl _ _) (Nat.le_refl _)) hHeld (by have := t6.2; omega) (by have := t6.2; dsimp only; omega) (by have := t6.2; dsimp only; omega) (by have := t6.2; dsimp only; omega) (by have := t6.2; dsimp only; omega)) (fun hNext => ?_)
        clear hK K hHeld
        have hHeld := hNext
        clear hNext
        replace t6 := t6.set u1.heap.size (bl (hbit c.vh c.vl))
        replace t7 := t7.set u1.heap.size (bl (hbit c.vh c.vl))
        try simp only [Act.put]
        refine wpAnyH_ready (rs := [9]) (by kernel_rfl) (by simp) ?_
        refine AllReadyH.cons (o := ⟨none, _, _, _, _, _⟩) rfl (fun K hK => ?_) AllReadyH.nil
        rw [if_pos (by rfl)]
        refine wp_store_mid 92 _ _ rfl u7.heap.size 0 (bl (hbit c.ch c.cl)).toArray rfl rfl (by rw [bl_size]; exact t7.1) (size25 _) (bl_all _) ?_
        (try dsimp only)
        refine hK.out _ _ (shold4 (Below.setCells (b := u7.heap.size) _ _ _ (Below.refl _ _) (Nat.le_refl _)) hHeld (by have := t7.2; omega) (by have := t7.2; dsimp only; omega) (by have := t7.2; dsimp only; omega) (by have := t7.2; dsimp only; omega) (by have := t7.2; dsimp only; omega)) (fun hNext => ?_)
        clear hK K hHeld
        have hHeld := hNext
        clear hNext
        replace t6 := t6.set u7.heap.size (bl (hbit c.ch c.cl))
        replace t7 := t7.set u7.heap.size (bl (hbit c.ch c.cl))
        try simp only [Act.put]
        refine wpAnyH_done (by kernel_rfl) ?_ _
        go_wp2_with fail
        go_meet
        exact ⟨u1.heap.size, u7.heap.size, rfl, rfl, hHeld.1, (rows2 _ _ s6 s7 n7_6).1, (rows2 _ _ s6 s7 n7_6).2⟩
      refine AllReadyH.cons (o := ⟨some 5, _, _, _, _, _⟩) rfl (fun K hK => ?_) AllReadyH.nil
      go_simp
      have hb := below1 u1 (.cells (bl (fun _ => false)).toArray 92)
      refine hK.out _ _ (hold4 hb hHeld) (fun hNext => ?_)
      have t7 : Th (w.heap.size + 1) (u1.alloc (.cells (bl (fun _ => false)).toArray 92)) u1.heap.size := Th.top u1 _ rfl (World.block_lt_of_cell? u1 _ hHeld.2.1)
      clear hK K hHeld hb
      have hHeld := hNext
      clear hNext
      generalize (u1.alloc (.cells (bl (fun _ => false)).toArray 92)) = u12 at hHeld t7 ⊢
      try simp only [Act.put, List.setIfInBounds_toArray, List.set_cons_zero, List.set_cons_succ]
      refine wpAnyH_ready (rs := [5, 6]) (by kernel_rfl) (by simp) ?_
      refine AllReadyH.cons (o := ⟨some 14, _, _, _, _, _⟩) rfl (fun K hK => ?_) ?_
      · go_simp
        (with_reducible refine (bits_c _ _ _).mono ?_)
        rintro e u13 ⟨rfl, hb⟩
        (try dsimp only)
        refine hK.out _ _ (hold4 hb hHeld) (fun hNext => ?_)
        clear hK K hHeld
        have hHeld := hNext
        clear hNext
        replace t7 := t7.on hb
        clear hb
        try simp only [Act.put, List.setIfInBounds_toArray, List.set_cons_zero, List.set_cons_succ]
        refine wpAnyH_ready (rs := [6]) (by kernel_rfl) (by simp) ?_
        refine AllReadyH.cons (o := ⟨some 4, _, _, _, _, _⟩) rfl (fun K hK => ?_) AllReadyH.nil
        go_simp
        have hb := below1 u13 (.cells (bl (fun _ => false)).toArray 92)
        refine hK.out _ _ (hold4 hb hHeld) (fun hNext => ?_)
        have t6 : Th (w.heap.size + 1) (u13.alloc (.cells (bl (fun _ => false)).toArray 92)) u13.heap.size := Th.top u13 _ rfl (World.block_lt_of_cell? u13 _ hHeld.2.1)
        have n6_7 : u1.heap.size ≠ u13.heap.size := t7.ne
        replace t7 := t7.on hb
        clear hK K hHeld hb
        have hHeld := hNext
        clear hNext
        generalize (u13.alloc (.cells (bl (fun _ => false)).toArray 92)) = u14 at hHeld t6 t7 ⊢
        try simp only [Act.put, List.setIfInBounds_toArray, List.set_cons_zero, List.set_cons_succ]
        have s6 := t6.1
        have s7 := t7.1
        refine wpAnyH_ready (rs := [8]) (by kernel_rfl) (by simp) ?_
        refine AllReadyH.cons (o := ⟨none, _, _, _, _, _⟩) rfl (fun K hK => ?_) AllReadyH.nil
        rw [if_pos (by rfl)]
        refine wp_store_mid 92 _ _ rfl u13.heap.size 0 (bl (hbit c.vh c.vl)).toArray rfl rfl (by rw [bl_size]; exact t6.1) (size25 _) (bl_all _) ?_
        (try dsimp only)
        refine hK.out _ _ (shold4 (Below.setCells (b := u13.heap.size) _ _ _ (Below.refl _ _) (Nat.le_refl _)) hHeld (by have := t6.2; omega) (by have := t6.2; dsimp only; omega) (by have := t6.2; dsimp only; omega) (by have := t6.2; dsimp only; omega) (by have := t6.2; dsimp only; omega)) (fun hNext => ?_)
        clear hK K hHeld
        have hHeld := hNext
        clear hNext
        replace t6 := t6.set u13.heap.size (bl (hbit c.vh c.vl))
        replace t7 := t7.set u13.heap.size (bl (hbit c.vh c.vl))
        try simp only [Act.put]
        refine wpAnyH_ready (rs := [9]) (by kernel_rfl) (by simp) ?_
        refine AllReadyH.cons (o := ⟨none, _, _, _, _, _⟩) rfl (fun K hK => ?_) AllReadyH.nil
        rw [if_pos (by rfl)]
        refine wp_store_mid 92 _ _ rfl u1.heap.size 0 (bl (hbit c.ch c.cl)).toArray rfl rfl (by rw [bl_size]; exact t7.1) (size25 _) (bl_all _) ?_
        (try dsimp only)
        refine hK.out _ _ (shold4 (Below.setCells (b := u1.heap.size) _ _ _ (Below.refl _ _) (Nat.le_refl _)) hHeld (by have := t7.2; omega) (by have := t7.2; dsimp only; omega) (by have := t7.2; dsimp only; omega) (by have := t7.2; dsimp only; omega) (by have := t7.2; dsimp only; omega)) (fun hNext => ?_)
        clear hK K hHeld
        have hHeld := hNext
        clear hNext
        replace t6 := t6.set u1.heap.size (bl (hbit c.ch c.cl))
        replace t7 := t7.set u1.heap.size (bl (hbit c.ch c.cl))
        try simp only [Act.put]
        refine wpAnyH_done (by kernel_rfl) ?_ _
        go_wp2_with fail
        go_meet
        exact ⟨u13.heap.size, u1.heap.size, rfl, rfl, hHeld.1, (rows2 _ _ s6 s7 n6_7.symm).1, (rows2 _ _ s6 s7 n6_7.symm).2⟩
      refine AllReadyH.cons (o := ⟨some 4, _, _, _, _, _⟩) rfl (fun K hK => ?_) AllReadyH.nil
      go_simp
      have hb := below1 u12 (.cells (bl (fun _ => false)).toArray 92)
      refine hK.out _ _ (hold4 hb hHeld) (fun hNext => ?_)
      have t6 : Th (w.heap.size + 1) (u12.alloc (.cells (bl (fun _ => false)).toArray 92)) u12.heap.size := Th.top u12 _ rfl (World.block_lt_of_cell? u12 _ hHeld.2.1)
      have n6_7 : u1.heap.size ≠ u12.heap.size := t7.ne
      replace t7 := t7.on hb
      clear hK K hHeld hb
      have hHeld := hNext
      clear hNext
      generalize (u12.alloc (.cells (bl (fun _ => false)).toArray 92)) = u15 at hHeld t6 t7 ⊢
      try simp only [Act.put, List.setIfInBounds_toArray, List.set_cons_zero, List.set_cons_succ]
      refine wpAnyH_ready (rs := [5]) (by kernel_rfl) (by simp) ?_
      refine AllReadyH.cons (o := ⟨some 14, _, _, _, _, _⟩) rfl (fun K hK => ?_) AllReadyH.nil
      go_simp
      (with_reducible refine (bits_c _ _ _).mono ?_)
      rintro e u16 ⟨rfl, hb⟩
      (try dsimp only)
      refine hK.out _ _ (hold4 hb hHeld) (fun hNext => ?_)
      clear hK K hHeld
      have hHeld := hNext
      clear hNext
      replace t6 := t6.on hb
      replace t7 := t7.on hb
      clear hb
      try simp only [Act.put, List.setIfInBounds_toArray, List.set_cons_zero, List.set_cons_succ]
      have s6 := t6.1
      have s7 := t7.1
      refine wpAnyH_ready (rs := [8]) (by kernel_rfl) (by simp) ?_
      refine AllReadyH.cons (o := ⟨none, _, _, _, _, _⟩) rfl (fun K hK => ?_) AllReadyH.nil
      rw [if_pos (by rfl)]
      refine wp_store_mid 92 _ _ rfl u12.heap.size 0 (bl (hbit c.vh c.vl)).toArray rfl rfl (by rw [bl_size]; exact t6.1) (size25 _) (bl_all _) ?_
      (try dsimp only)
      refine hK.out _ _ (shold4 (Below.setCells (b := u12.heap.size) _ _ _ (Below.refl _ _) (Nat.le_refl _)) hHeld (by have := t6.2; omega) (by have := t6.2; dsimp only; omega) (by have := t6.2; dsimp only; omega) (by have := t6.2; dsimp only; omega) (by have := t6.2; dsimp only; omega)) (fun hNext => ?_)
      clear hK K hHeld
      have hHeld := hNext
      clear hNext
      replace t6 := t6.set u12.heap.size (bl (hbit c.vh c.vl))
      replace t7 := t7.set u12.heap.size (bl (hbit c.vh c.vl))
      try simp only [Act.put]
      refine wpAnyH_ready (rs := [9]) (by kernel_rfl) (by simp) ?_
      refine AllReadyH.cons (o := ⟨none, _, _, _, _, _⟩) rfl (fun K hK => ?_) AllReadyH.nil
      rw [if_pos (by rfl)]
      refine wp_store_mid 92 _ _ rfl u1.heap.size 0 (bl (hbit c.ch c.cl)).toArray rfl rfl (by rw [bl_size]; exact t7.1) (size25 _) (bl_all _) ?_
      (try dsimp only)
      refine hK.out _ _ (shold4 (Below.setCells (b := u1.heap.size) _ _ _ (Below.refl _ _) (Nat.le_refl _)) hHeld (by have := t7.2; omega) (by have := t7.2; dsimp only; omega) (by have := t7.2; dsimp only; omega) (by have := t7.2; dsimp only; omega) (by have := t7.2; dsimp only; omega)) (fun hNext => ?_)
      clear hK K hHeld
      have hHeld := hNext
      clear hNext
      replace t6 := t6.set u1.heap.size (bl (hbit c.ch c.cl))
      replace t7 := t7.set u1.heap.size (bl (hbit c.ch c.cl))
      try simp only [Act.put]
      refine wpAnyH_done (by kernel_rfl) ?_ _
      go_wp2_with fail
      go_meet
      exact ⟨u12.heap.size, u1.heap.size, rfl, rfl, hHeld.1, (rows2 _ _ s6 s7 n6_7.symm).1, (rows2 _ _ s6 s7 n6_7.symm).2⟩
    refine AllReadyH.cons (o := ⟨some 4, _, _, _, _, _⟩) rfl (fun K hK => ?_) ?_
    · go_simp
      have hb := below1 u0 (.cells (bl (fun _ => false)).toArray 92)
      refine hK.out _ _ (hold4 hb hHeld) (fun hNext => ?_)
      have t6 : Th (w.heap.size + 1) (u0.alloc (.cells (bl (fun _ => false)).toArray 92)) u0.heap.size := Th.top u0 _ rfl (World.block_lt_of_cell? u0 _ hHeld.2.1)
      clear hK K hHeld hb
      have hHeld := hNext
      clear hNext
      generalize (u0.alloc (.cells (bl (fun _ => false)).toArray 92)) = u17 at hHeld t6 ⊢
      try simp only [Act.put, List.setIfInBounds_toArray, List.set_cons_zero, List.set_cons_succ]
      refine wpAnyH_ready (rs := [2, 7]) (by kernel_rfl) (by simp) ?_
      refine AllReadyH.cons (o := ⟨some 11, _, _, _, _, _⟩) rfl (fun K hK => ?_) ?_
      · go_simp
        (with_reducible refine (bits_c _ _ _).mono ?_)
        rintro e u18 ⟨rfl, hb⟩
        (try dsimp only)
        refine hK.out _ _ (hold4 hb hHeld) (fun hNext => ?_)
        clear hK K hHeld
        have hHeld := hNext
        clear hNext
        replace t6 := t6.on hb
        clear hb
        try simp only [Act.put, List.setIfInBounds_toArray, List.set_cons_zero, List.set_cons_succ]
        refine wpAnyH_ready (rs := [5, 7]) (by kernel_rfl) (by simp) ?_
        refine AllReadyH.cons (o := ⟨some 14, _, _, _, _, _⟩) rfl (fun K hK => ?_) ?_
        · go_simp
          (with_reducible refine (bits_c _ _ _).mono ?_)
          rintro e u19 ⟨rfl, hb⟩
          (try dsimp only)
          refine hK.out _ _ (hold4 hb hHeld) (fun hNext => ?_)
          clear hK K hHeld
          have hHeld := hNext
          clear hNext
          replace t6 := t6.on hb
          clear hb
          try simp only [Act.put, List.setIfInBounds_toArray, List.set_cons_zero, List.set_cons_succ]
          refine wpAnyH_ready (rs := [7]) (by kernel_rfl) (by simp) ?_
          refine AllReadyH.cons (o := ⟨some 5, _, _, _, _, _⟩) rfl (fun K hK => ?_) AllReadyH.nil
          go_simp
          have hb := below1 u19 (.cells (bl (fun _ => false)).toArray 92)
          refine hK.out _ _ (hold4 hb hHeld) (fun hNext => ?_)
          have t7 : Th (w.heap.size + 1) (u19.alloc (.cells (bl (fun _ => false)).toArray 92)) u19.heap.size := Th.top u19 _ rfl (World.block_lt_of_cell? u19 _ hHeld.2.1)
          have n7_6 : u0.heap.size ≠ u19.heap.size := t6.ne
          replace t6 := t6.on hb
          clear hK K hHeld hb
          have hHeld := hNext
          clear hNext
          generalize (u19.alloc (.cells (bl (fun _ => false)).toArray 92)) = u20 at hHeld t6 t7 ⊢
          try simp only [Act.put, List.setIfInBounds_toArray, List.set_cons_zero, List.set_cons_succ]
          have s6 := t6.1
          have s7 := t7.1
          refine wpAnyH_ready (rs := [8]) (by kernel_rfl) (by simp) ?_
          refine AllReadyH.cons (o := ⟨none, _, _, _, _, _⟩) rfl (fun K hK => ?_) AllReadyH.nil
          rw [if_pos (by rfl)]
          refine wp_store_mid 92 _ _ rfl u0.heap.size 0 (bl (hbit c.vh c.vl)).toArray rfl rfl (by rw [bl_size]; exact t6.1) (size25 _) (bl_all _) ?_
          (try dsimp only)
          refine hK.out _ _ (shold4 (Below.setCells (b := u0.heap.size) _ _ _ (Below.refl _ _) (Nat.le_refl _)) hHeld (by have := t6.2; omega) (by have := t6.2; dsimp only; omega) (by have := t6.2; dsimp only; omega) (by have := t6.2; dsimp only; omega) (by have := t6.2; dsimp only; omega)) (fun hNext => ?_)
          clear hK K hHeld
          have hHeld := hNext
          clear hNext
          replace t6 := t6.set u0.heap.size (bl (hbit c.vh c.vl))
          replace t7 := t7.set u0.heap.size (bl (hbit c.vh c.vl))
          try simp only [Act.put]
          refine wpAnyH_ready (rs := [9]) (by kernel_rfl) (by simp) ?_
          refine AllReadyH.cons (o := ⟨none, _, _, _, _, _⟩) rfl (fun K hK => ?_) AllReadyH.nil
          rw [if_pos (by rfl)]
          refine wp_store_mid 92 _ _ rfl u19.heap.size 0 (bl (hbit c.ch c.cl)).toArray rfl rfl (by rw [bl_size]; exact t7.1) (size25 _) (bl_all _) ?_
          (try dsimp only)
          refine hK.out _ _ (shold4 (Below.setCells (b := u19.heap.size) _ _ _ (Below.refl _ _) (Nat.le_refl _)) hHeld (by have := t7.2; omega) (by have := t7.2; dsimp only; omega) (by have := t7.2; dsimp only; omega) (by have := t7.2; dsimp only; omega) (by have := t7.2; dsimp only; omega)) (fun hNext => ?_)
          clear hK K hHeld
          have hHeld := hNext
          clear hNext
          replace t6 := t6.set u19.heap.size (bl (hbit c.ch c.cl))
          replace t7 := t7.set u19.heap.size (bl (hbit c.ch c.cl))
          try simp only [Act.put]
          refine wpAnyH_done (by kernel_rfl) ?_ _
          go_wp2_with fail
          go_meet
          exact ⟨u0.heap.size, u19.heap.size, rfl, rfl, hHeld.1, (rows2 _ _ s6 s7 n7_6).1, (rows2 _ _ s6 s7 n7_6).2⟩
        refine AllReadyH.cons (o := ⟨some 5, _, _, _, _, _⟩) rfl (fun K hK => ?_) AllReadyH.nil
        go_simp
        have hb := below1 u18 (.cells (bl (fun _ => false)).toArray 92)
        refine hK.out _ _ (hold4 hb hHeld) (fun hNext => ?_)
        have t7 : Th (w.heap.size + 1) (u18.alloc (.cells (bl (fun _ => false)).toArray 92)) u18.heap.size := Th.top u18 _ rfl (World.block_lt_of_cell? u18 _ hHeld.2.1)
        have n7_6 : u0.heap.size ≠ u18.heap.size := t6.ne
        replace t6 := t6.on hb
        clear hK K hHeld hb
        have hHeld := hNext
        clear hNext
        generalize (u18.alloc (.cells (bl (fun _ => false)).toArray 92)) = u21 at hHeld t6 t7 ⊢
        try simp only [Act.put, List.setIfInBounds_toArray, List.set_cons_zero, List.set_cons_succ]
        refine wpAnyH_ready (rs := [5]) (by kernel_rfl) (by simp) ?_
        refine AllReadyH.cons (o := ⟨some 14, _, _, _, _, _⟩) rfl (fun K hK => ?_) AllReadyH.nil
        go_simp
        (with_reducible refine (bits_c _ _ _).mono ?_)
        rintro e u22 ⟨rfl, hb⟩
        (try dsimp only)
        refine hK.out _ _ (hold4 hb hHeld) (fun hNext => ?_)
        clear hK K hHeld
        have hHeld := hNext
        clear hNext
        replace t6 := t6.on hb
        replace t7 := t7.on hb
        clear hb
        try simp only [Act.put, List.setIfInBounds_toArray, List.set_cons_zero, List.set_cons_succ]
        have s6 := t6.1
        have s7 := t7.1
        refine wpAnyH_ready (rs := [8]) (by kernel_rfl) (by simp) ?_
        refine AllReadyH.cons (o := ⟨none, _, _, _, _, _⟩) rfl (fun K hK => ?_) AllReadyH.nil
        rw [if_pos (by rfl)]
        refine wp_store_mid 92 _ _ rfl u0.heap.size 0 (bl (hbit c.vh c.vl)).toArray rfl rfl (by rw [bl_size]; exact t6.1) (size25 _) (bl_all _) ?_
        (try dsimp only)
        refine hK.out _ _ (shold4 (Below.setCells (b := u0.heap.size) _ _ _ (Below.refl _ _) (Nat.le_refl _)) hHeld (by have := t6.2; omega) (by have := t6.2; dsimp only; omega) (by have := t6.2; dsimp only; omega) (by have := t6.2; dsimp only; omega) (by have := t6.2; dsimp only; omega)) (fun hNext => ?_)
        clear hK K hHeld
        have hHeld := hNext
        clear hNext
        replace t6 := t6.set u0.heap.size (bl (hbit c.vh c.vl))
        replace t7 := t7.set u0.heap.size (bl (hbit c.vh c.vl))
        try simp only [Act.put]
        refine wpAnyH_ready (rs := [9]) (by kernel_rfl) (by simp) ?_
        refine AllReadyH.cons (o := ⟨none, _, _, _, _, _⟩) rfl (fun K hK => ?_) AllReadyH.nil
        rw [if_pos (by rfl)]
        refine wp_store_mid 92 _ _ rfl u18.heap.size 0 (bl (hbit c.ch c.cl)).toArray rfl rfl (by rw [bl_size]; exact t7.1) (size25 _) (bl_all _) ?_
        (try dsimp only)
        refine hK.out _ _ (shold4 (Below.setCells (b := u18.heap.size) _ _ _ (Below.refl _ _) (Nat.le_refl _)) hHeld (by have := t7.2; omega) (by have := t7.2; dsimp only; omega) (by have := t7.2; dsimp only; omega) (by have := t7.2; dsimp only; omega) (by have := t7.2; dsimp only; omega)) (fun hNext => ?_)
        clear hK K hHeld
        have hHeld := hNext
        clear hNext
        replace t6 := t6.set u18.heap.size (bl (hbit c.ch c.cl))
        replace t7 := t7.set u18.heap.size (bl (hbit c.ch c.cl))
        try simp only [Act.put]
        refine wpAnyH_done (by kernel_rfl) ?_ _
        go_wp2_with fail
        go_meet
        exact ⟨u0.heap.size, u18.heap.size, rfl, rfl, hHeld.1, (rows2 _ _ s6 s7 n7_6).1, (rows2 _ _ s6 s7 n7_6).2⟩
      refine AllReadyH.cons (o := ⟨some 5, _, _, _, _, _⟩) rfl (fun K hK => ?_) AllReadyH.nil
      go_simp
      have hb := below1 u17 (.cells (bl (fun _ => false)).toArray 92)
      refine hK.out _ _ (hold4 hb hHeld) (fun hNext => ?_)
      have t7 : Th (w.heap.size + 1) (u17.alloc (.cells (bl (fun _ => false)).toArray 92)) u17.heap.size := Th.top u17 _ rfl (World.block_lt_of_cell? u17 _ hHeld.2.1)
      have n7_6 : u0.heap.size ≠ u17.heap.size := t6.ne
      replace t6 := t6.on hb
      clear hK K hHeld hb
      have hHeld := hNext
      clear hNext
      generalize (u17.alloc (.cells (bl (fun _ => false)).toArray 92)) = u23 at hHeld t6 t7 ⊢
      try simp only [Act.put, List.setIfInBounds_toArray, List.set_cons_zero, List.set_cons_succ]
      refine wpAnyH_ready (rs := [2]) (by kernel_rfl) (by simp) ?_
      refine AllReadyH.cons (o := ⟨some 11, _, _, _, _, _⟩) rfl (fun K hK => ?_) AllReadyH.nil
      go_simp
      (with_reducible refine (bits_c _ _ _).mono ?_)
      rintro e u24 ⟨rfl, hb⟩
      (try dsimp only)
      refine hK.out _ _ (hold4 hb hHeld) (fun hNext => ?_)
      clear hK K hHeld
      have hHeld := hNext
      clear hNext
      replace t6 := t6.on hb
      replace t7 := t7.on hb
      clear hb
      try simp only [Act.put, List.setIfInBounds_toArray, List.set_cons_zero, List.set_cons_succ]
      refine wpAnyH_ready (rs := [5]) (by kernel_rfl) (by simp) ?_
      refine AllReadyH.cons (o := ⟨some 14, _, _, _, _, _⟩) rfl (fun K hK => ?_) AllReadyH.nil
      go_simp
      (with_reducible refine (bits_c _ _ _).mono ?_)
      rintro e u25 ⟨rfl, hb⟩
      (try dsimp only)
      refine hK.out _ _ (hold4 hb hHeld) (fun hNext => ?_)
      clear hK K hHeld
      have hHeld := hNext
      clear hNext
      replace t6 := t6.on hb
      replace t7 := t7.on hb
      clear hb
      try simp only [Act.put, List.setIfInBounds_toArray, List.set_cons_zero, List.set_cons_succ]
      have s6 := t6.1
      have s7 := t7.1
      refine wpAnyH_ready (rs := [8]) (by kernel_rfl) (by simp) ?_
      refine AllReadyH.cons (o := ⟨none, _, _, _, _, _⟩) rfl (fun K hK => ?_) AllReadyH.nil
      rw [if_pos (by rfl)]
      refine wp_store_mid 92 _ _ rfl u0.heap.size 0 (bl (hbit c.vh c.vl)).toArray rfl rfl (by rw [bl_size]; exact t6.1) (size25 _) (bl_all _) ?_
      (try dsimp only)
      refine hK.out _ _ (shold4 (Below.setCells (b := u0.heap.size) _ _ _ (Below.refl _ _) (Nat.le_refl _)) hHeld (by have := t6.2; omega) (by have := t6.2; dsimp only; omega) (by have := t6.2; dsimp only; omega) (by have := t6.2; dsimp only; omega) (by have := t6.2; dsimp only; omega)) (fun hNext => ?_)
      clear hK K hHeld
      have hHeld := hNext
      clear hNext
      replace t6 := t6.set u0.heap.size (bl (hbit c.vh c.vl))
      replace t7 := t7.set u0.heap.size (bl (hbit c.vh c.vl))
      try simp only [Act.put]
      refine wpAnyH_ready (rs := [9]) (by kernel_rfl) (by simp) ?_
      refine AllReadyH.cons (o := ⟨none, _, _, _, _, _⟩) rfl (fun K hK => ?_) AllReadyH.nil
      rw [if_pos (by rfl)]
      refine wp_store_mid 92 _ _ rfl u17.heap.size 0 (bl (hbit c.ch c.cl)).toArray rfl rfl (by rw [bl_size]; exact t7.1) (size25 _) (bl_all _) ?_
      (try dsimp only)
      refine hK.out _ _ (shold4 (Below.setCells (b := u17.heap.size) _ _ _ (Below.refl _ _) (Nat.le_refl _)) hHeld (by have := t7.2; omega) (by have := t7.2; dsimp only; omega) (by have := t7.2; dsimp only; omega) (by have := t7.2; dsimp only; omega) (by have := t7.2; dsimp only; omega)) (fun hNext => ?_)
      clear hK K hHeld
      have hHeld := hNext
      clear hNext
      replace t6 := t6.set u17.heap.size (bl (hbit c.ch c.cl))
      replace t7 := t7.set u17.heap.size (bl (hbit c.ch c.cl))
      try simp only [Act.put]
      refine wpAnyH_done (by kernel_rfl) ?_ _
      go_wp2_with fail
      go_meet
      exact ⟨u0.heap.size, u17.heap.size, rfl, rfl, hHeld.1, (rows2 _ _ s6 s7 n7_6).1, (rows2 _ _ s6 s7 n7_6).2⟩
    refine AllReadyH.cons (o := ⟨some 5, _, _, _, _, _⟩) rfl (fun K hK => ?_) AllReadyH.nil
    go_simp
    have hb := below1 u0 (.cells (bl (fun _ => false)).toArray 92)
    refine hK.out _ _ (hold4 hb hHeld) (fun hNext => ?_)
    have t7 : Th (w.heap.size + 1) (u0.alloc (.cells (bl (fun _ => false)).toArray 92)) u0.heap.size := Th.top u0 _ rfl (World.block_lt_of_cell? u0 _ hHeld.2.1)
    clear hK K hHeld hb
    have hHeld := hNext
    clear hNext
    generalize (u0.alloc (.cells (bl (fun _ => false)).toArray 92)) = u26 at hHeld t7 ⊢
    try simp only [Act.put, List.setIfInBounds_toArray, List.set_cons_zero, List.set_cons_succ]
    refine wpAnyH_ready (rs := [2, 6]) (by kernel_rfl) (by simp) ?_
    refine AllReadyH.cons (o := ⟨some 11, _, _, _, _, _⟩) rfl (fun K hK => ?_) ?_
    · go_simp
      (with_reducible refine (bits_c _ _ _).mono ?_)
      rintro e u27 ⟨rfl, hb⟩
      (try dsimp only)
      refine hK.out _ _ (hold4 hb hHeld) (fun hNext => ?_)
      clear hK K hHeld
      have hHeld := hNext
      clear hNext
      replace t7 := t7.on hb
      clear hb
      try simp only [Act.put, List.setIfInBounds_toArray, List.set_cons_zero, List.set_cons_succ]
      refine wpAnyH_ready (rs := [5, 6]) (by kernel_rfl) (by simp) ?_
      refine AllReadyH.cons (o := ⟨some 14, _, _, _, _, _⟩) rfl (fun K hK => ?_) ?_
      · go_simp
        (with_reducible refine (bits_c _ _ _).mono ?_)
        rintro e u28 ⟨rfl, hb⟩
        (try dsimp only)
        refine hK.out _ _ (hold4 hb hHeld) (fun hNext => ?_)
        clear hK K hHeld
        have hHeld := hNext
        clear hNext
        replace t7 := t7.on hb
        clear hb
        try simp only [Act.put, List.setIfInBounds_toArray, List.set_cons_zero, List.set_cons_succ]
        refine wpAnyH_ready (rs := [6]) (by kernel_rfl) (by simp) ?_
        refine AllReadyH.cons (o := ⟨some 4, _, _, _, _, _⟩) rfl (fun K hK => ?_) AllReadyH.nil
        go_simp
        have hb := below1 u28 (.cells (bl (fun _ => false)).toArray 92)
        refine hK.out _ _ (hold4 hb hHeld) (fun hNext => ?_)
        have t6 : Th (w.heap.size + 1) (u28.alloc (.cells (bl (fun _ => false)).toArray 92)) u28.heap.size := Th.top u28 _ rfl (World.block_lt_of_cell? u28 _ hHeld.2.1)
        have n6_7 : u0.heap.size ≠ u28.heap.size := t7.ne
        replace t7 := t7.on hb
        clear hK K hHeld hb
        have hHeld := hNext
        clear hNext
        generalize (u28.alloc (.cells (bl (fun _ => false)).toArray 92)) = u29 at hHeld t6 t7 ⊢
        try simp only [Act.put, List.setIfInBounds_toArray, List.set_cons_zero, List.set_cons_succ]
        have s6 := t6.1
        have s7 := t7.1
        refine wpAnyH_ready (rs := [8]) (by kernel_rfl) (by simp) ?_
        refine AllReadyH.cons (o := ⟨none, _, _, _, _, _⟩) rfl (fun K hK => ?_) AllReadyH.nil
        rw [if_pos (by rfl)]
        refine wp_store_mid 92 _ _ rfl u28.heap.size 0 (bl (hbit c.vh c.vl)).toArray rfl rfl (by rw [bl_size]; exact t6.1) (size25 _) (bl_all _) ?_
        (try dsimp only)
        refine hK.out _ _ (shold4 (Below.setCells (b := u28.heap.size) _ _ _ (Below.refl _ _) (Nat.le_refl _)) hHeld (by have := t6.2; omega) (by have := t6.2; dsimp only; omega) (by have := t6.2; dsimp only; omega) (by have := t6.2; dsimp only; omega) (by have := t6.2; dsimp only; omega)) (fun hNext => ?_)
        clear hK K hHeld
        have hHeld := hNext
        clear hNext
        replace t6 := t6.set u28.heap.size (bl (hbit c.vh c.vl))
        replace t7 := t7.set u28.heap.size (bl (hbit c.vh c.vl))
        try simp only [Act.put]
        refine wpAnyH_ready (rs := [9]) (by kernel_rfl) (by simp) ?_
        refine AllReadyH.cons (o := ⟨none, _, _, _, _, _⟩) rfl (fun K hK => ?_) AllReadyH.nil
        rw [if_pos (by rfl)]
        refine wp_store_mid 92 _ _ rfl u0.heap.size 0 (bl (hbit c.ch c.cl)).toArray rfl rfl (by rw [bl_size]; exact t7.1) (size25 _) (bl_all _) ?_
        (try dsimp only)
        refine hK.out _ _ (shold4 (Below.setCells (b := u0.heap.size) _ _ _ (Below.refl _ _) (Nat.le_refl _)) hHeld (by have := t7.2; omega) (by have := t7.2; dsimp only; omega) (by have := t7.2; dsimp only; omega) (by have := t7.2; dsimp only; omega) (by have := t7.2; dsimp only; omega)) (fun hNext => ?_)
        clear hK K hHeld
        have hHeld := hNext
        clear hNext
        replace t6 := t6.set u0.heap.size (bl (hbit c.ch c.cl))
        replace t7 := t7.set u0.heap.size (bl (hbit c.ch c.cl))
        try simp only [Act.put]
        refine wpAnyH_done (by kernel_rfl) ?_ _
        go_wp2_with fail
        go_meet
        exact ⟨u28.heap.size, u0.heap.size, rfl, rfl, hHeld.1, (rows2 _ _ s6 s7 n6_7.symm).1, (rows2 _ _ s6 s7 n6_7.symm).2⟩
      refine AllReadyH.cons (o := ⟨some 4, _, _, _, _, _⟩) rfl (fun K hK => ?_) AllReadyH.nil
      go_simp
      have hb := below1 u27 (.cells (bl (fun _ => false)).toArray 92)
      refine hK.out _ _ (hold4 hb hHeld) (fun hNext => ?_)
      have t6 : Th (w.heap.size + 1) (u27.alloc (.cells (bl (fun _ => false)).toArray 92)) u27.heap.size := Th.top u27 _ rfl (World.block_lt_of_cell? u27 _ hHeld.2.1)
      have n6_7 : u0.heap.size ≠ u27.heap.size := t7.ne
      replace t7 := t7.on hb
      clear hK K hHeld hb
      have hHeld := hNext
      clear hNext
      generalize (u27.alloc (.cells (bl (fun _ => false)).toArray 92)) = u30 at hHeld t6 t7 ⊢
      try simp only [Act.put, List.setIfInBounds_toArray, List.set_cons_zero, List.set_cons_succ]
      refine wpAnyH_ready (rs := [5]) (by kernel_rfl) (by simp) ?_
      refine AllReadyH.cons (o := ⟨some 14, _, _, _, _, _⟩) rfl (fun K hK => ?_) AllReadyH.nil
      go_simp
      (with_reducible refine (bits_c _ _ _).mono ?_)
      rintro e u31 ⟨rfl, hb⟩
      (try dsimp only)
      refine hK.out _ _ (hold4 hb hHeld) (fun hNext => ?_)
      clear hK K hHeld
      have hHeld := hNext
      clear hNext
      replace t6 := t6.on hb
      replace t7 := t7.on hb
      clear hb
      try simp only [Act.put, List.setIfInBounds_toArray, List.set_cons_zero, List.set_cons_succ]
      have s6 := t6.1
      have s7 := t7.1
      refine wpAnyH_ready (rs := [8]) (by kernel_rfl) (by simp) ?_
      refine AllReadyH.cons (o := ⟨none, _, _, _, _, _⟩) rfl (fun K hK => ?_) AllReadyH.nil
      rw [if_pos (by rfl)]
      refine wp_store_mid 92 _ _ rfl u27.heap.size 0 (bl (hbit c.vh c.vl)).toArray rfl rfl (by rw [bl_size]; exact t6.1) (size25 _) (bl_all _) ?_
      (try dsimp only)
      refine hK.out _ _ (shold4 (Below.setCells (b := u27.heap.size) _ _ _ (Below.refl _ _) (Nat.le_refl _)) hHeld (by have := t6.2; omega) (by have := t6.2; dsimp only; omega) (by have := t6.2; dsimp only; omega) (by have := t6.2; dsimp only; omega) (by have := t6.2; dsimp only; omega)) (fun hNext => ?_)
      clear hK K hHeld
      have hHeld := hNext
      clear hNext
      replace t6 := t6.set u27.heap.size (bl (hbit c.vh c.vl))
      replace t7 := t7.set u27.heap.size (bl (hbit c.vh c.vl))
      try simp only [Act.put]
      refine wpAnyH_ready (rs := [9]) (by kernel_rfl) (by simp) ?_
      refine AllReadyH.cons (o := ⟨none, _, _, _, _, _⟩) rfl (fun K hK => ?_) AllReadyH.nil
      rw [if_pos (by rfl)]
      refine wp_store_mid 92 _ _ rfl u0.heap.size 0 (bl (hbit c.ch c.cl)).toArray rfl rfl (by rw [bl_size]; exact t7.1) (size25 _) (bl_all _) ?_
      (try dsimp only)
      refine hK.out _ _ (shold4 (Below.setCells (b := u0.heap.size) _ _ _ (Below.refl _ _) (Nat.le_refl _)) hHeld (by have := t7.2; omega) (by have := t7.2; dsimp only; omega) (by have := t7.2; dsimp only; omega) (by have := t7.2; dsimp only; omega) (by have := t7.2; dsimp only; omega)) (fun hNext => ?_)
      clear hK K hHeld
      have hHeld := hNext
      clear hNext
      replace t6 := t6.set u0.heap.size (bl (hbit c.ch c.cl))
      replace t7 := t7.set u0.heap.size (bl (hbit c.ch c.cl))
      try simp only [Act.put]
      refine wpAnyH_done (by kernel_rfl) ?_ _
      go_wp2_with fail
      go_meet
      exact ⟨u27.heap.size, u0.heap.size, rfl, rfl, hHeld.1, (rows2 _ _ s6 s7 n6_7.symm).1, (rows2 _ _ s6 s7 n6_7.symm).2⟩
    refine AllReadyH.cons (o := ⟨some 4, _, _, _, _, _⟩) rfl (fun K hK => ?_) AllReadyH.nil
    go_simp
    have hb := below1 u26 (.cells (bl (fun _ => false)).toArray 92)
    refine hK.out _ _ (hold4 hb hHeld) (fun hNext => ?_)
    have t6 : Th (w.heap.size + 1) (u26.alloc (.cells (bl (fun _ => false)).toArray 92)) u26.heap.size := Th.top u26 _ rfl (World.block_lt_of_cell? u26 _ hHeld.2.1)
    have n6_7 : u0.heap.size ≠ u26.heap.size := t7.ne
    replace t7 := t7.on hb
    clear hK K hHeld hb
    have hHeld := hNext
    clear hNext
    generalize (u26.alloc (.cells (bl (fun _ => false)).toArray 92)) = u32 at hHeld t6 t7 ⊢
    try simp only [Act.put, List.setIfInBounds_toArray, List.set_cons_zero, List.set_cons_succ]
    refine wpAnyH_ready (rs := [2]) (by kernel_rfl) (by simp) ?_
    refine AllReadyH.cons (o := ⟨some 11, _, _, _, _, _⟩) rfl (fun K hK => ?_) AllReadyH.nil
    go_simp
    (with_reducible refine (bits_c _ _ _).mono ?_)
    rintro e u33 ⟨rfl, hb⟩
    (try dsimp only)
    refine hK.out _ _ (hold4 hb hHeld) (fun hNext => ?_)
    clear hK K hHeld
    have hHeld := hNext
    clear hNext
    replace t6 := t6.on hb
    replace t7 := t7.on hb
    clear hb
    try simp only [Act.put, List.setIfInBounds_toArray, List.set_cons_zero, List.set_cons_succ]
    refine wpAnyH_ready (rs := [5]) (by kernel_rfl) (by simp) ?_
    refine AllReadyH.cons (o := ⟨some 14, _, _, _, _, _⟩) rfl (fun K hK => ?_) AllReadyH.nil
    go_simp
    (with_reducible refine (bits_c _ _ _).mono ?_)
    rintro e u34 ⟨rfl, hb⟩
    (try dsimp only)
    refine hK.out _ _ (hold4 hb hHeld) (fun hNext => ?_)
    clear hK K hHeld
    have hHeld := hNext
    clear hNext
    replace t6 := t6.on hb
    replace t7 := t7.on hb
    clear hb
    try simp only [Act.put, List.setIfInBounds_toArray, List.set_cons_zero, List.set_cons_succ]
    have s6 := t6.1
    have s7 := t7.1
    refine wpAnyH_ready (rs := [8]) (by kernel_rfl) (by simp) ?_
    refine AllReadyH.cons (o := ⟨none, _, _, _, _, _⟩) rfl (fun K hK => ?_) AllReadyH.nil
    rw [if_pos (by rfl)]
    refine wp_store_mid 92 _ _ rfl u26.heap.size 0 (bl (hbit c.vh c.vl)).toArray rfl rfl (by rw [bl_size]; exact t6.1) (size25 _) (bl_all _) ?_
    (try dsimp only)
    refine hK.out _ _ (shold4 (Below.setCells (b := u26.heap.size) _ _ _ (Below.refl _ _) (Nat.le_refl _)) hHeld (by have := t6.2; omega) (by have := t6.2; dsimp only; omega) (by have := t6.2; dsimp only; omega) (by have := t6.2; dsimp only; omega) (by have := t6.2; dsimp only; omega)) (fun hNext => ?_)
    clear hK K hHeld
    have hHeld := hNext
    clear hNext
    replace t6 := t6.set u26.heap.size (bl (hbit c.vh c.vl))
    replace t7 := t7.set u26.heap.size (bl (hbit c.vh c.vl))
    try simp only [Act.put]
    refine wpAnyH_ready (rs := [9]) (by kernel_rfl) (by simp) ?_
    refine AllReadyH.cons (o := ⟨none, _, _, _, _, _⟩) rfl (fun K hK => ?_) AllReadyH.nil
    rw [if_pos (by rfl)]
    refine wp_store_mid 92 _ _ rfl u0.heap.size 0 (bl (hbit c.ch c.cl)).toArray rfl rfl (by rw [bl_size]; exact t7.1) (size25 _) (bl_all _) ?_
    (try dsimp only)
    refine hK.out _ _ (shold4 (Below.setCells (b := u0.heap.size) _ _ _ (Below.refl _ _) (Nat.le_refl _)) hHeld (by have := t7.2; omega) (by have := t7.2; dsimp only; omega) (by have := t7.2; dsimp only; omega) (by have := t7.2; dsimp only; omega) (by have := t7.2; dsimp only; omega)) (fun hNext => ?_)
    clear hK K hHeld
    have hHeld := hNext
    clear hNext
    replace t6 := t6.set u0.heap.size (bl (hbit c.ch c.cl))
    replace t7 := t7.set u0.heap.size (bl (hbit c.ch c.cl))
    try simp only [Act.put]
    refine wpAnyH_done (by kernel_rfl) ?_ _
    go_wp2_with fail
    go_meet
    exact ⟨u26.heap.size, u0.heap.size, rfl, rfl, hHeld.1, (rows2 _ _ s6 s7 n6_7.symm).1, (rows2 _ _ s6 s7 n6_7.symm).2⟩
  case rest =>
    obtain ⟨bx, by', rfl, rfl, BC, hx, hy⟩ := hcut
    clear S0 hz
    have hmk : ∀ u : World, (Instr.makeSlice 85 (.int .i64 128) (.int .i64 128)).run Try.prog u = .ok (.slice (some ⟨u.heap.size, 0, none⟩) 128 128) (u.alloc (.cells (by8 (fun _ => 0)).toArray 5)) := make128
    have lx : bx < wc.heap.size := World.block_lt_of_cell? wc ⟨bx, 0, none⟩ (range_cell hx (by omega))
    have ly : by' < wc.heap.size := World.block_lt_of_cell? wc ⟨by', 0, none⟩ (range_cell hy (by omega))
    have HX := Lib.hid hx
    have HY := Lib.hid hy
    clear hx hy
    go_wp2_with fail
    go_loopg [7] 128 (fun g i wr => ∃ k : Nat, k ≤ 128 ∧ g = 128 - k ∧ i = .int .i64 k ∧ wr = wc.alloc (.cells (by8 (upTxt c k)).toArray 5))
    case atStart => exact ⟨0, by omega, rfl, rfl, by rw [upTxt_zero]⟩
    case round =>
      obtain ⟨k, hk, rfl, rfl, rfl⟩ := hrel
      by_cases hlt : k < 128
      · have hlt' : (k : Int) < 128 := by omega
        have hx : wc.cell? ⟨bx, k, none⟩ = some (.bool (c.V k)) := range_cell HX.out hlt
        have hy : wc.cell? ⟨by', k, none⟩ = some (.bool (c.K k)) := range_cell HY.out hlt
        obtain ⟨m, hm⟩ : ∃ m, m + k = 127 := ⟨127 - k, by omega⟩
        have hi : (127 : Int) - (k : Int) = (m : Int) := by omega
        have hm1 : m < 128 := by omega
        have hm2 : (m : Int) < 128 := by omega
        have hg := by8_get (upTxt c k) m hm1
        have HM := Lib.hid hm
        clear hm
        cases hv : c.V k <;> cases hc : c.K k
        · rw [hv] at hx; rw [hc] at hy
          have HS : ((sgn c k).toNat : Int) = 120 := by unfold sgn; rw [hc]; rfl
          have HSS := Lib.hid HS
          clear HS hv hc hs
          go_wp2
          go_roundg (128 - (k + 1))
          case measure => omega
          case rel => exact ⟨k + 1, by omega, rfl, by go_num, by rw [upTxt_put c k m HM.out _ HSS.out.symm]⟩
        · rw [hv] at hx; rw [hc] at hy
          have HS : ((sgn c k).toNat : Int) = 48 := by unfold sgn; rw [hc, hv]; rfl
          have HSS := Lib.hid HS
          clear HS hv hc hs
          go_wp2
          go_roundg (128 - (k + 1))
          case measure => omega
          case rel => exact ⟨k + 1, by omega, rfl, by go_num, by rw [upTxt_put c k m HM.out _ HSS.out.symm]⟩
        · exfalso
          have := (Cb.snd_iff c).1 hs k hlt hv
          rw [hc] at this; cases this
        · rw [hv] at hx; rw [hc] at hy
          have HS : ((sgn c k).toNat : Int) = 49 := by unfold sgn; rw [hc, hv]; rfl
          have HSS := Lib.hid HS
          clear HS hv hc hs
          go_wp2
          go_roundg (128 - (k + 1))
          case measure => omega
          case rel => exact ⟨k + 1, by omega, rfl, by go_num, by rw [upTxt_put c k m HM.out _ HSS.out.symm]⟩
      · obtain rfl : k = 128 := by omega
        have hcv : (convert 85 9 (.slice (some ⟨wc.heap.size, 0, none⟩) 128 128)).run Try.prog (wc.alloc (.cells (by8 (upTxt c 128)).toArray 5)) = .ok (.string (txt c)) (wc.alloc (.cells (by8 (upTxt c 128)).toArray 5)) := back128 c wc
        go_wp2
        go_ret2
        exact ⟨rfl, BC.alloc BC.size _⟩

set_option maxRecDepth 100000 in
set_option maxHeartbeats 8000000 in
theorem text_no (c : Cb) (w : World) (hs : c.snd = false) : Calls Try.prog 17 #[.agg #[.int .u64 (uv c.vh), .int .u64 (uv c.vl), .int .u64 (uv c.ch), .int .u64 (uv c.cl)]] w fun e w' => e = .returned (.tuple #[.string ⟨#[]⟩, .bool false]) ∧ Below w.heap.size w w' := by
  have hz := zero25
  have S0 : Below w.heap.size w (w.alloc (.cells #[.int .u64 (uv c.vh), .int .u64 (uv c.vl), .int .u64 (uv c.ch), .int .u64 (uv c.cl)] 43)) ∧ (w.alloc (.cells #[.int .u64 (uv c.vh), .int .u64 (uv c.vl), .int .u64 (uv c.ch), .int .u64 (uv c.cl)] 43)).cell? ⟨w.heap.size, 0, none⟩ = some (.int .u64 (uv c.vh)) ∧ (w.alloc (.cells #[.int .u64 (uv c.vh), .int .u64 (uv c.vl), .int .u64 (uv c.ch), .int .u64 (uv c.cl)] 43)).cell? ⟨w.heap.size, 1, none⟩ = some (.int .u64 (uv c.vl)) ∧ (w.alloc (.cells #[.int .u64 (uv c.vh), .int .u64 (uv c.vl), .int .u64 (uv c.ch), .int .u64 (uv c.cl)] 43)).cell? ⟨w.heap.size, 2, none⟩ = some (.int .u64 (uv c.ch)) ∧ (w.alloc (.cells #[.int .u64 (uv c.vh), .int .u64 (uv c.vl), .int .u64 (uv c.ch), .int .u64 (uv c.cl)] 43)).cell? ⟨w.heap.size, 3, none⟩ = some (.int .u64 (uv c.cl)) := ⟨below1 w (.cells #[.int .u64 (uv c.vh), .int .u64 (uv c.vl), .int .u64 (uv c.ch), .int .u64 (uv c.cl)] 43), by go_simp, by go_simp, by go_simp, by go_simp⟩
  go_enter Try.func17, Try.ntmps17
  go_upto_region 1 with (fail)
  go_cut [4, 5] (fun i o wc => ∃ bx by' : Nat, i = .pointer (some ⟨bx, 0, none⟩) ∧ o = .pointer (some ⟨by', 0, none⟩) ∧ Below w.heap.size w wc ∧ wc.rangeAt bx 0 (bl (hbit c.vh c.vl)) ∧ wc.rangeAt by' 0 (bl (hbit c.ch c.cl)))
  case first =>
    refine wp_region_held_drew (S := fun w' => Below w.heap.size w w' ∧ w'.cell? ⟨w.heap.size, 0, none⟩ = some (.int .u64 (uv c.vh)) ∧ w'.cell? ⟨w.heap.size, 1, none⟩ = some (.int .u64 (uv c.vl)) ∧ w'.cell? ⟨w.heap.size, 2, none⟩ = some (.int .u64 (uv c.ch)) ∧ w'.cell? ⟨w.heap.size, 3, none⟩ = some (.int .u64 (uv c.cl))) (by kernel_rfl) ⟨S0.1.drew, S0.2⟩ (fun hHeld => ?_)
    generalize (w.alloc (.cells #[.int .u64 (uv c.vh), .int .u64 (uv c.vl), .int .u64 (uv c.ch), .int .u64 (uv c.cl)] 43)).drew = u0 at hHeld ⊢
    refine wpAnyH_take (i := 0) (oi := ⟨some 9, _, _, _, _, _⟩) (v := ?v0) rfl (by kernel_rfl) (by kernel_rfl) (by kernel_rfl) (fun _ _ _ h => h) (Or.inl ⟨by rfl, ?y0⟩) hHeld ?r0
    case y0 => (intro w' hSw; (try dsimp only at hSw); go_simp; try (with_reducible rfl))
    simp only [Act.put, List.setIfInBounds_toArray, List.set_cons_zero, List.set_cons_succ]
    refine wpAnyH_take (i := 1) (oi := ⟨some 10, _, _, _, _, _⟩) (v := ?v1) rfl (by kernel_rfl) (by kernel_rfl) (by kernel_rfl) (fun _ _ _ h => h) (Or.inl ⟨by rfl, ?y1⟩) hHeld ?r1
    case y1 => (intro w' hSw; (try dsimp only at hSw); go_simp; try (with_reducible rfl))
    simp only [Act.put, List.setIfInBounds_toArray, List.set_cons_zero, List.set_cons_succ]
    refine wpAnyH_take (i := 3) (oi := ⟨some 12, _, _, _, _, _⟩) (v := ?v3) rfl (by kernel_rfl) (by kernel_rfl) (by kernel_rfl) (fun _ _ _ h => h) (Or.inl ⟨by rfl, ?y3⟩) hHeld ?r3
    case y3 => (intro w' hSw; (try dsimp only at hSw); go_simp; try (with_reducible rfl))
    simp only [Act.put, List.setIfInBounds_toArray, List.set_cons_zero, List.set_cons_succ]
    refine wpAnyH_take (i := 4) (oi := ⟨some 13, _, _, _, _, _⟩) (v := ?v4) rfl (by kernel_rfl) (by kernel_rfl) (by kernel_rfl) (fun _ _ _ h => h) (Or.inl ⟨by rfl, ?y4⟩) hHeld ?r4
    case y4 => (intro w' hSw; (try dsimp only at hSw); go_simp; try (with_reducible rfl))
    simp only [Act.put, List.setIfInBounds_toArray, List.set_cons_zero, List.set_cons_succ]
    refine wpAnyH_ready (rs := [2, 6, 7]) (by kernel_rfl) (by simp) ?_
    refine AllReadyH.cons (o := ⟨some 11, _, _, _, _, _⟩) rfl (fun K hK => ?_) ?_
    · go_simp
      (with_reducible refine (bits_c _ _ _).mono ?_)
      rintro e u1 ⟨rfl, hb⟩
      (try dsimp only)
      refine hK.out _ _ (hold4 hb hHeld) (fun hNext => ?_)
      clear hK K hHeld
      have hHeld := hNext
      clear hNext
      clear hb
      try simp only [Act.put, List.setIfInBounds_toArray, List.set_cons_zero, List.set_cons_succ]
      refine wpAnyH_ready (rs := [5, 6, 7]) (by kernel_rfl) (by simp) ?_
      refine AllReadyH.cons (o := ⟨some 14, _, _, _, _, _⟩) rfl (fun K hK => ?_) ?_
      · go_simp
        (with_reducible refine (bits_c _ _ _).mono ?_)
        rintro e u2 ⟨rfl, hb⟩
        (try dsimp only)
        refine hK.out _ _ (hold4 hb hHeld) (fun hNext => ?_)
        clear hK K hHeld
        have hHeld := hNext
        clear hNext
        clear hb
        try simp only [Act.put, List.setIfInBounds_toArray, List.set_cons_zero, List.set_cons_succ]
        refine wpAnyH_ready (rs := [6, 7]) (by kernel_rfl) (by simp) ?_
        refine AllReadyH.cons (o := ⟨some 4, _, _, _, _, _⟩) rfl (fun K hK => ?_) ?_
        · go_simp
          have hb := below1 u2 (.cells (bl (fun _ => false)).toArray 92)
          refine hK.out _ _ (hold4 hb hHeld) (fun hNext => ?_)
          have t6 : Th (w.heap.size + 1) (u2.alloc (.cells (bl (fun _ => false)).toArray 92)) u2.heap.size := Th.top u2 _ rfl (World.block_lt_of_cell? u2 _ hHeld.2.1)
          clear hK K hHeld hb
          have hHeld := hNext
          clear hNext
          generalize (u2.alloc (.cells (bl (fun _ => false)).toArray 92)) = u3 at hHeld t6 ⊢
          try simp only [Act.put, List.setIfInBounds_toArray, List.set_cons_zero, List.set_cons_succ]
          refine wpAnyH_ready (rs := [7]) (by kernel_rfl) (by simp) ?_
          refine AllReadyH.cons (o := ⟨some 5, _, _, _, _, _⟩) rfl (fun K hK => ?_) AllReadyH.nil
          go_simp
          have hb := below1 u3 (.cells (bl (fun _ => false)).toArray 92)
          refine hK.out _ _ (hold4 hb hHeld) (fun hNext => ?_)
          have t7 : Th (w.heap.size + 1) (u3.alloc (.cells (bl (fun _ => false)).toArray 92)) u3.heap.size := Th.top u3 _ rfl (World.block_lt_of_cell? u3 _ hHeld.2.1)
          have n7_6 : u2.heap.size ≠ u3.heap.size := t6.ne
          replace t6 := t6.on hb
          clear hK K hHeld hb
          have hHeld := hNext
          clear hNext
          generalize (u3.alloc (.cells (bl (fun _ => false)).toArray 92)) = u4 at hHeld t6 t7 ⊢
          try simp only [Act.put, List.setIfInBounds_toArray, List.set_cons_zero, List.set_cons_succ]
          have s6 := t6.1
          have s7 := t7.1
          refine wpAnyH_ready (rs := [8]) (by kernel_rfl) (by simp) ?_
          refine AllReadyH.cons (o := ⟨none, _, _, _, _, _⟩) rfl (fun K hK => ?_) AllReadyH.nil
          rw [if_pos (by rfl)]
          refine wp_store_mid 92 _ _ rfl u2.heap.size 0 (bl (hbit c.vh c.vl)).toArray rfl rfl (by rw [bl_size]; exact t6.1) (size25 _) (bl_all _) ?_
          (try dsimp only)
          refine hK.out _ _ (shold4 (Below.setCells (b := u2.heap.size) _ _ _ (Below.refl _ _) (Nat.le_refl _)) hHeld (by have := t6.2; omega) (by have := t6.2; dsimp only; omega) (by have := t6.2; dsimp only; omega) (by have := t6.2; dsimp only; omega) (by have := t6.2; dsimp only; omega)) (fun hNext => ?_)
          clear hK K hHeld
          have hHeld := hNext
          clear hNext
          replace t6 := t6.set u2.heap.size (bl (hbit c.vh c.vl))
          replace t7 := t7.set u2.heap.size (bl (hbit c.vh c.vl))
          try simp only [Act.put]
          refine wpAnyH_ready (rs := [9]) (by kernel_rfl) (by simp) ?_
          refine AllReadyH.cons (o := ⟨none, _, _, _, _, _⟩) rfl (fun K hK => ?_) AllReadyH.nil
          rw [if_pos (by rfl)]
          refine wp_store_mid 92 _ _ rfl u3.heap.size 0 (bl (hbit c.ch c.cl)).toArray rfl rfl (by rw [bl_size]; exact t7.1) (size25 _) (bl_all _) ?_
          (try dsimp only)
          refine hK.out _ _ (shold4 (Below.setCells (b := u3.heap.size) _ _ _ (Below.refl _ _) (Nat.le_refl _)) hHeld (by have := t7.2; omega) (by have := t7.2; dsimp only; omega) (by have := t7.2; dsimp only; omega) (by have := t7.2; dsimp only; omega) (by have := t7.2; dsimp only; omega)) (fun hNext => ?_)
          clear hK K hHeld
          have hHeld := hNext
          clear hNext
          replace t6 := t6.set u3.heap.size (bl (hbit c.ch c.cl))
          replace t7 := t7.set u3.heap.size (bl (hbit c.ch c.cl))
          try simp only [Act.put]
          refine wpAnyH_done (by kernel_rfl) ?_ _
          go_wp2_with fail
          go_meet
          exact ⟨u2.heap.size, u3.heap.size, rfl, rfl, hHeld.1, (rows2 _ _ s6 s7 n7_6).1, (rows2 _ _ s6 s7 n7_6).2⟩
        refine AllReadyH.cons (o := ⟨some 5, _, _, _, _, _⟩) rfl (fun K hK => ?_) AllReadyH.nil
        go_simp
        have hb := below1 u2 (.cells (bl (fun _ => false)).toArray 92)
        refine hK.out _ _ (hold4 hb hHeld) (fun hNext => ?_)
        have t7 : Th (w.heap.size + 1) (u2.alloc (.cells (bl (fun _ => false)).toArray 92)) u2.heap.size := Th.top u2 _ rfl (World.block_lt_of_cell? u2 _ hHeld.2.1)
        clear hK K hHeld hb
        have hHeld := hNext
        clear hNext
        generalize (u2.alloc (.cells (bl (fun _ => false)).toArray 92)) = u5 at hHeld t7 ⊢
        try simp only [Act.put, List.setIfInBounds_toArray, List.set_cons_zero, List.set_cons_succ]
        refine wpAnyH_ready (rs := [6]) (by kernel_rfl) (by simp) ?_
        refine AllReadyH.cons (o := ⟨some 4, _, _, _, _, _⟩) rfl (fun K hK => ?_) AllReadyH.nil
        go_simp
        have hb := below1 u5 (.cells (bl (fun _ => false)).toArray 92)
        refine hK.out _ _ (hold4 hb hHeld) (fun hNext => ?_)
        have t6 : Th (w.heap.size + 1) (u5.alloc (.cells (bl (fun _ => false)).toArray 92)) u5.heap.size := Th.top u5 _ rfl (World.block_lt_of_cell? u5 _ hHeld.2.1)
        have n6_7 : u2.heap.size ≠ u5.heap.size := t7.ne
        replace t7 := t7.on hb
        clear hK K hHeld hb
        have hHeld := hNext
        clear hNext
        generalize (u5.alloc (.cells (bl (fun _ => false)).toArray 92)) = u6 at hHeld t6 t7 ⊢
        try simp only [Act.put, List.setIfInBounds_toArray, List.set_cons_zero, List.set_cons_succ]
        have s6 := t6.1
        have s7 := t7.1
        refine wpAnyH_ready (rs := [8]) (by kernel_rfl) (by simp) ?_
        refine AllReadyH.cons (o := ⟨none, _, _, _, _, _⟩) rfl (fun K hK => ?_) AllReadyH.nil
        rw [if_pos (by rfl)]
        refine wp_store_mid 92 _ _ rfl u5.heap.size 0 (bl (hbit c.vh c.vl)).toArray rfl rfl (by rw [bl_size]; exact t6.1) (size25 _) (bl_all _) ?_
        (try dsimp only)
        refine hK.out _ _ (shold4 (Below.setCells (b := u5.heap.size) _ _ _ (Below.refl _ _) (Nat.le_refl _)) hHeld (by have := t6.2; omega) (by have := t6.2; dsimp only; omega) (by have := t6.2; dsimp only; omega) (by have := t6.2; dsimp only; omega) (by have := t6.2; dsimp only; omega)) (fun hNext => ?_)
        clear hK K hHeld
        have hHeld := hNext
        clear hNext
        replace t6 := t6.set u5.heap.size (bl (hbit c.vh c.vl))
        replace t7 := t7.set u5.heap.size (bl (hbit c.vh c.vl))
        try simp only [Act.put]
        refine wpAnyH_ready (rs := [9]) (by kernel_rfl) (by simp) ?_
        refine AllReadyH.cons (o := ⟨none, _, _, _, _, _⟩) rfl (fun K hK => ?_) AllReadyH.nil
        rw [if_pos (by rfl)]
        refine wp_store_mid 92 _ _ rfl u2.heap.size 0 (bl (hbit c.ch c.cl)).toArray rfl rfl (by rw [bl_size]; exact t7.1) (size25 _) (bl_all _) ?_
        (try dsimp only)
        refine hK.out _ _ (shold4 (Below.setCells (b := u2.heap.size) _ _ _ (Below.refl _ _) (Nat.le_refl _)) hHeld (by have := t7.2; omega) (by have := t7.2; dsimp only; omega) (by have := t7.2; dsimp only; omega) (by have := t7.2; dsimp only; omega) (by have := t7.2; dsimp only; omega)) (fun hNext => ?_)
        clear hK K hHeld
        have hHeld := hNext
        clear hNext
        replace t6 := t6.set u2.heap.size (bl (hbit c.ch c.cl))
        replace t7 := t7.set u2.heap.size (bl (hbit c.ch c.cl))
        try simp only [Act.put]
        refine wpAnyH_done (by kernel_rfl) ?_ _
        go_wp2_with fail
        go_meet
        exact ⟨u5.heap.size, u2.heap.size, rfl, rfl, hHeld.1, (rows2 _ _ s6 s7 n6_7.symm).1, (rows2 _ _ s6 s7 n6_7.symm).2⟩
      refine AllReadyH.cons (o := ⟨some 4, _, _, _, _, _⟩) rfl (fun K hK => ?_) ?_
      · go_simp
        have hb := below1 u1 (.cells (bl (fun _ => false)).toArray 92)
        refine hK.out _ _ (hold4 hb hHeld) (fun hNext => ?_)
        have t6 : Th (w.heap.size + 1) (u1.alloc (.cells (bl (fun _ => false)).toArray 92)) u1.heap.size := Th.top u1 _ rfl (World.block_lt_of_cell? u1 _ hHeld.2.1)
        clear hK K hHeld hb
        have hHeld := hNext
        clear hNext
        generalize (u1.alloc (.cells (bl (fun _ => false)).toArray 92)) = u7 at hHeld t6 ⊢
        try simp only [Act.put, List.setIfInBounds_toArray, List.set_cons_zero, List.set_cons_succ]
        refine wpAnyH_ready (rs := [5, 7]) (by kernel_rfl) (by simp) ?_
        refine AllReadyH.cons (o := ⟨some 14, _, _, _, _, _⟩) rfl (fun K hK => ?_) ?_
        · go_simp
          (with_reducible refine (bits_c _ _ _).mono ?_)
          rintro e u8 ⟨rfl, hb⟩
          (try dsimp only)
          refine hK.out _ _ (hold4 hb hHeld) (fun hNext => ?_)
          clear hK K hHeld
          have hHeld := hNext
          clear hNext
          replace t6 := t6.on hb
          clear hb
          try simp only [Act.put, List.setIfInBounds_toArray, List.set_cons_zero, List.set_cons_succ]
          refine wpAnyH_ready (rs := [7]) (by kernel_rfl) (by simp) ?_
          refine AllReadyH.cons (o := ⟨some 5, _, _, _, _, _⟩) rfl (fun K hK => ?_) AllReadyH.nil
          go_simp
          have hb := below1 u8 (.cells (bl (fun _ => false)).toArray 92)
          refine hK.out _ _ (hold4 hb hHeld) (fun hNext => ?_)
          have t7 : Th (w.heap.size + 1) (u8.alloc (.cells (bl (fun _ => false)).toArray 92)) u8.heap.size := Th.top u8 _ rfl (World.block_lt_of_cell? u8 _ hHeld.2.1)
          have n7_6 : u1.heap.size ≠ u8.heap.size := t6.ne
          replace t6 := t6.on hb
          clear hK K hHeld hb
          have hHeld := hNext
          clear hNext
          generalize (u8.alloc (.cells (bl (fun _ => false)).toArray 92)) = u9 at hHeld t6 t7 ⊢
          try simp only [Act.put, List.setIfInBounds_toArray, List.set_cons_zero, List.set_cons_succ]
          have s6 := t6.1
          have s7 := t7.1
          refine wpAnyH_ready (rs := [8]) (by kernel_rfl) (by simp) ?_
          refine AllReadyH.cons (o := ⟨none, _, _, _, _, _⟩) rfl (fun K hK => ?_) AllReadyH.nil
          rw [if_pos (by rfl)]
          refine wp_store_mid 92 _ _ rfl u1.heap.size 0 (bl (hbit c.vh c.vl)).toArray rfl rfl (by rw [bl_size]; exact t6.1) (size25 _) (bl_all _) ?_
          (try dsimp only)
          refine hK.out _ _ (shold4 (Below.setCells (b := u1.heap.size) _ _ _ (Below.refl _ _) (Nat.le_refl _)) hHeld (by have := t6.2; omega) (by have := t6.2; dsimp only; omega) (by have := t6.2; dsimp only; omega) (by have := t6.2; dsimp only; omega) (by have := t6.2; dsimp only; omega)) (fun hNext => ?_)
          clear hK K hHeld
          have hHeld := hNext
          clear hNext
          replace t6 := t6.set u1.heap.size (bl (hbit c.vh c.vl))
          replace t7 := t7.set u1.heap.size (bl (hbit c.vh c.vl))
          try simp only [Act.put]
          refine wpAnyH_ready (rs := [9]) (by kernel_rfl) (by simp) ?_
          refine AllReadyH.cons (o := ⟨none, _, _, _, _, _⟩) rfl (fun K hK => ?_) AllReadyH.nil
          rw [if_pos (by rfl)]
          refine wp_store_mid 92 _ _ rfl u8.heap.size 0 (bl (hbit c.ch c.cl)).toArray rfl rfl (by rw [bl_size]; exact t7.1) (size25 _) (bl_all _) ?_
          (try dsimp only)
          refine hK.out _ _ (shold4 (Below.setCells (b := u8.heap.size) _ _ _ (Below.refl _ _) (Nat.le_refl _)) hHeld (by have := t7.2; omega) (by have := t7.2; dsimp only; omega) (by have := t7.2; dsimp only; omega) (by have := t7.2; dsimp only; omega) (by have := t7.2; dsimp only; omega)) (fun hNext => ?_)
          clear hK K hHeld
          have hHeld := hNext
          clear hNext
          replace t6 := t6.set u8.heap.size (bl (hbit c.ch c.cl))
          replace t7 := t7.set u8.heap.size (bl (hbit c.ch c.cl))
          try simp only [Act.put]
          refine wpAnyH_done (by kernel_rfl) ?_ _
          go_wp2_with fail
          go_meet
          exact ⟨u1.heap.size, u8.heap.size, rfl, rfl, hHeld.1, (rows2 _ _ s6 s7 n7_6).1, (rows2 _ _ s6 s7 n7_6).2⟩
        refine AllReadyH.cons (o := ⟨some 5, _, _, _, _, _⟩) rfl (fun K hK => ?_) AllReadyH.nil
        go_simp
        have hb := below1 u7 (.cells (bl (fun _ => false)).toArray 92)
        refine hK.out _ _ (hold4 hb hHeld) (fun hNext => ?_)
        have t7 : Th (w.heap.size + 1) (u7.alloc (.cells (bl (fun _ => false)).toArray 92)) u7.heap.size := Th.top u7 _ rfl (World.block_lt_of_cell? u7 _ hHeld.2.1)
        have n7_6 : u1.heap.size ≠ u7.heap.size := t6.ne
        replace t6 := t6.on hb
        clear hK K hHeld hb
        have hHeld := hNext
        clear hNext
        generalize (u7.alloc (.cells (bl (fun _ => false)).toArray 92)) = u10 at hHeld t6 t7 ⊢
        try simp only [Act.put, List.setIfInBounds_toArray, List.set_cons_zero, List.set_cons_succ]
        refine wpAnyH_ready (rs := [5]) (by kernel_rfl) (by simp) ?_
        refine AllReadyH.cons (o := ⟨some 14, _, _, _, _, _⟩) rfl (fun K hK => ?_) AllReadyH.nil
        go_simp
        (with_reducible refine (bits_c _ _ _).mono ?_)
        rintro e u11 ⟨rfl, hb⟩
        (try dsimp only)
        refine hK.out _ _ (hold4 hb hHeld) (fun hNext => ?_)
        clear hK K hHeld
        have hHeld := hNext
        clear hNext
        replace t6 := t6.on hb
        replace t7 := t7.on hb
        clear hb
        try simp only [Act.put, List.setIfInBounds_toArray, List.set_cons_zero, List.set_cons_succ]
        have s6 := t6.1
        have s7 := t7.1
        refine wpAnyH_ready (rs := [8]) (by kernel_rfl) (by simp) ?_
        refine AllReadyH.cons (o := ⟨none, _, _, _, _, _⟩) rfl (fun K hK => ?_) AllReadyH.nil
        rw [if_pos (by rfl)]
        refine wp_store_mid 92 _ _ rfl u1.heap.size 0 (bl (hbit c.vh c.vl)).toArray rfl rfl (by rw [bl_size]; exact t6.1) (size25 _) (bl_all _) ?_
        (try dsimp only)
        refine hK.out _ _ (shold4 (Below.setCells (b := u1.heap.size) _ _ _ (Below.refl _ _) (Nat.le_refl _)) hHeld (by have := t6.2; omega) (by have := t6.2; dsimp only; omega) (by have := t6.2; dsimp only; omega) (by have := t6.2; dsimp only; omega) (by have := t6.2; dsimp only; omega)) (fun hNext => ?_)
        clear hK K hHeld
        have hHeld := hNext
        clear hNext
        replace t6 := t6.set u1.heap.size (bl (hbit c.vh c.vl))
        replace t7 := t7.set u1.heap.size (bl (hbit c.vh c.vl))
        try simp only [Act.put]
        refine wpAnyH_ready (rs := [9]) (by kernel_rfl) (by simp) ?_
        refine AllReadyH.cons (o := ⟨none, _, _, _, _, _⟩) rfl (fun K hK => ?_) AllReadyH.nil
        rw [if_pos (by rfl)]
        refine wp_store_mid 92 _ _ rfl u7.heap.size 0 (bl (hbit c.ch c.cl)).toArray rfl rfl (by rw [bl_size]; exact t7.1) (size25 _) (bl_all _) ?_
        (try dsimp only)
        refine hK.out _ _ (shold4 (Below.setCells (b := u7.heap.size) _ _ _ (Below.refl _ _) (Nat.le_refl _)) hHeld (by have := t7.2; omega) (by have := t7.2; dsimp only; omega) (by have := t7.2; dsimp only; omega) (by have := t7.2; dsimp only; omega) (by have := t7.2; dsimp only; omega)) (fun hNext => ?_)
        clear hK K hHeld
        have hHeld := hNext
        clear hNext
        replace t6 := t6.set u7.heap.size (bl (hbit c.ch c.cl))
        replace t7 := t7.set u7.heap.size (bl (hbit c.ch c.cl))
        try simp only [Act.put]
        refine wpAnyH_done (by kernel_rfl) ?_ _
        go_wp2_with fail
        go_meet
        exact ⟨u1.heap.size, u7.heap.size, rfl, rfl, hHeld.1, (rows2 _ _ s6 s7 n7_6).1, (rows2 _ _ s6 s7 n7_6).2⟩
      refine AllReadyH.cons (o := ⟨some 5, _, _, _, _, _⟩) rfl (fun K hK => ?_) AllReadyH.nil
      go_simp
      have hb := below1 u1 (.cells (bl (fun _ => false)).toArray 92)
      refine hK.out _ _ (hold4 hb hHeld) (fun hNext => ?_)
      have t7 : Th (w.heap.size + 1) (u1.alloc (.cells (bl (fun _ => false)).toArray 92)) u1.heap.size := Th.top u1 _ rfl (World.block_lt_of_cell? u1 _ hHeld.2.1)
      clear hK K hHeld hb
      have hHeld := hNext
      clear hNext
      generalize (u1.alloc (.cells (bl (fun _ => false)).toArray 92)) = u12 at hHeld t7 ⊢
      try simp only [Act.put, List.setIfInBounds_toArray, List.set_cons_zero, List.set_cons_succ]
      refine wpAnyH_ready (rs := [5, 6]) (by kernel_rfl) (by simp) ?_
      refine AllReadyH.cons (o := ⟨some 14, _, _, _, _, _⟩) rfl (fun K hK => ?_) ?_
      · go_simp
        (with_reducible refine (bits_c _ _ _).mono ?_)
        rintro e u13 ⟨rfl, hb⟩
        (try dsimp only)
        refine hK.out _ _ (hold4 hb hHeld) (fun hNext => ?_)
        clear hK K hHeld
        have hHeld := hNext
        clear hNext
        replace t7 := t7.on hb
        clear hb
        try simp only [Act.put, List.setIfInBounds_toArray, List.set_cons_zero, List.set_cons_succ]
        refine wpAnyH_ready (rs := [6]) (by kernel_rfl) (by simp) ?_
        refine AllReadyH.cons (o := ⟨some 4, _, _, _, _, _⟩) rfl (fun K hK => ?_) AllReadyH.nil
        go_simp
        have hb := below1 u13 (.cells (bl (fun _ => false)).toArray 92)
        refine hK.out _ _ (hold4 hb hHeld) (fun hNext => ?_)
        have t6 : Th (w.heap.size + 1) (u13.alloc (.cells (bl (fun _ => false)).toArray 92)) u13.heap.size := Th.top u13 _ rfl (World.block_lt_of_cell? u13 _ hHeld.2.1)
        have n6_7 : u1.heap.size ≠ u13.heap.size := t7.ne
        replace t7 := t7.on hb
        clear hK K hHeld hb
        have hHeld := hNext
        clear hNext
        generalize (u13.alloc (.cells (bl (fun _ => false)).toArray 92)) = u14 at hHeld t6 t7 ⊢
        try simp only [Act.put, List.setIfInBounds_toArray, List.set_cons_zero, List.set_cons_succ]
        have s6 := t6.1
        have s7 := t7.1
        refine wpAnyH_ready (rs := [8]) (by kernel_rfl) (by simp) ?_
        refine AllReadyH.cons (o := ⟨none, _, _, _, _, _⟩) rfl (fun K hK => ?_) AllReadyH.nil
        rw [if_pos (by rfl)]
        refine wp_store_mid 92 _ _ rfl u13.heap.size 0 (bl (hbit c.vh c.vl)).toArray rfl rfl (by rw [bl_size]; exact t6.1) (size25 _) (bl_all _) ?_
        (try dsimp only)
        refine hK.out _ _ (shold4 (Below.setCells (b := u13.heap.size) _ _ _ (Below.refl _ _) (Nat.le_refl _)) hHeld (by have := t6.2; omega) (by have := t6.2; dsimp only; omega) (by have := t6.2; dsimp only; omega) (by have := t6.2; dsimp only; omega) (by have := t6.2; dsimp only; omega)) (fun hNext => ?_)
        clear hK K hHeld
        have hHeld := hNext
        clear hNext
        replace t6 := t6.set u13.heap.size (bl (hbit c.vh c.vl))
        replace t7 := t7.set u13.heap.size (bl (hbit c.vh c.vl))
        try simp only [Act.put]
        refine wpAnyH_ready (rs := [9]) (by kernel_rfl) (by simp) ?_
        refine AllReadyH.cons (o := ⟨none, _, _, _, _, _⟩) rfl (fun K hK => ?_) AllReadyH.nil
        rw [if_pos (by rfl)]
        refine wp_store_mid 92 _ _ rfl u1.heap.size 0 (bl (hbit c.ch c.cl)).toArray rfl rfl (by rw [bl_size]; exact t7.1) (size25 _) (bl_all _) ?_
        (try dsimp only)
        refine hK.out _ _ (shold4 (Below.setCells (b := u1.heap.size) _ _ _ (Below.refl _ _) (Nat.le_refl _)) hHeld (by have := t7.2; omega) (by have := t7.2; dsimp only; omega) (by have := t7.2; dsimp only; omega) (by have := t7.2; dsimp only; omega) (by have := t7.2; dsimp only; omega)) (fun hNext => ?_)
        clear hK K hHeld
        have hHeld := hNext
        clear hNext
        replace t6 := t6.set u1.heap.size (bl (hbit c.ch c.cl))
        replace t7 := t7.set u1.heap.size (bl (hbit c.ch c.cl))
        try simp only [Act.put]
        refine wpAnyH_done (by kernel_rfl) ?_ _
        go_wp2_with fail
        go_meet
        exact ⟨u13.heap.size, u1.heap.size, rfl, rfl, hHeld.1, (rows2 _ _ s6 s7 n6_7.symm).1, (rows2 _ _ s6 s7 n6_7.symm).2⟩
      refine AllReadyH.cons (o := ⟨some 4, _, _, _, _, _⟩) rfl (fun K hK => ?_) AllReadyH.nil
      go_simp
      have hb := below1 u12 (.cells (bl (fun _ => false)).toArray 92)
      refine hK.out _ _ (hold4 hb hHeld) (fun hNext => ?_)
      have t6 : Th (w.heap.size + 1) (u12.alloc (.cells (bl (fun _ => false)).toArray 92)) u12.heap.size := Th.top u12 _ rfl (World.block_lt_of_cell? u12 _ hHeld.2.1)
      have n6_7 : u1.heap.size ≠ u12.heap.size := t7.ne
      replace t7 := t7.on hb
      clear hK K hHeld hb
      have hHeld := hNext
      clear hNext
      generalize (u12.alloc (.cells (bl (fun _ => false)).toArray 92)) = u15 at hHeld t6 t7 ⊢
      try simp only [Act.put, List.setIfInBounds_toArray, List.set_cons_zero, List.set_cons_succ]
      refine wpAnyH_ready (rs := [5]) (by kernel_rfl) (by simp) ?_
      refine AllReadyH.cons (o := ⟨some 14, _, _, _, _, _⟩) rfl (fun K hK => ?_) AllReadyH.nil
      go_simp
      (with_reducible refine (bits_c _ _ _).mono ?_)
      rintro e u16 ⟨rfl, hb⟩
      (try dsimp only)
      refine hK.out _ _ (hold4 hb hHeld) (fun hNext => ?_)
      clear hK K hHeld
      have hHeld := hNext
      clear hNext
      replace t6 := t6.on hb
      replace t7 := t7.on hb
      clear hb
      try simp only [Act.put, List.setIfInBounds_toArray, List.set_cons_zero, List.set_cons_succ]
      have s6 := t6.1
      have s7 := t7.1
      refine wpAnyH_ready (rs := [8]) (by kernel_rfl) (by simp) ?_
      refine AllReadyH.cons (o := ⟨none, _, _, _, _, _⟩) rfl (fun K hK => ?_) AllReadyH.nil
      rw [if_pos (by rfl)]
      refine wp_store_mid 92 _ _ rfl u12.heap.size 0 (bl (hbit c.vh c.vl)).toArray rfl rfl (by rw [bl_size]; exact t6.1) (size25 _) (bl_all _) ?_
      (try dsimp only)
      refine hK.out _ _ (shold4 (Below.setCells (b := u12.heap.size) _ _ _ (Below.refl _ _) (Nat.le_refl _)) hHeld (by have := t6.2; omega) (by have := t6.2; dsimp only; omega) (by have := t6.2; dsimp only; omega) (by have := t6.2; dsimp only; omega) (by have := t6.2; dsimp only; omega)) (fun hNext => ?_)
      clear hK K hHeld
      have hHeld := hNext
      clear hNext
      replace t6 := t6.set u12.heap.size (bl (hbit c.vh c.vl))
      replace t7 := t7.set u12.heap.size (bl (hbit c.vh c.vl))
      try simp only [Act.put]
      refine wpAnyH_ready (rs := [9]) (by kernel_rfl) (by simp) ?_
      refine AllReadyH.cons (o := ⟨none, _, _, _, _, _⟩) rfl (fun K hK => ?_) AllReadyH.nil
      rw [if_pos (by rfl)]
      refine wp_store_mid 92 _ _ rfl u1.heap.size 0 (bl (hbit c.ch c.cl)).toArray rfl rfl (by rw [bl_size]; exact t7.1) (size25 _) (bl_all _) ?_
      (try dsimp only)
      refine hK.out _ _ (shold4 (Below.setCells (b := u1.heap.size) _ _ _ (Below.refl _ _) (Nat.le_refl _)) hHeld (by have := t7.2; omega) (by have := t7.2; dsimp only; omega) (by have := t7.2; dsimp only; omega) (by have := t7.2; dsimp only; omega) (by have := t7.2; dsimp only; omega)) (fun hNext => ?_)
      clear hK K hHeld
      have hHeld := hNext
      clear hNext
      replace t6 := t6.set u1.heap.size (bl (hbit c.ch c.cl))
      replace t7 := t7.set u1.heap.size (bl (hbit c.ch c.cl))
      try simp only [Act.put]
      refine wpAnyH_done (by kernel_rfl) ?_ _
      go_wp2_with fail
      go_meet
      exact ⟨u12.heap.size, u1.heap.size, rfl, rfl, hHeld.1, (rows2 _ _ s6 s7 n6_7.symm).1, (rows2 _ _ s6 s7 n6_7.symm).2⟩
    refine AllReadyH.cons (o := ⟨some 4, _, _, _, _, _⟩) rfl (fun K hK => ?_) ?_
    · go_simp
      have hb := below1 u0 (.cells (bl (fun _ => false)).toArray 92)
      refine hK.out _ _ (hold4 hb hHeld) (fun hNext => ?_)
      have t6 : Th (w.heap.size + 1) (u0.alloc (.cells (bl (fun _ => false)).toArray 92)) u0.heap.size := Th.top u0 _ rfl (World.block_lt_of_cell? u0 _ hHeld.2.1)
      clear hK K hHeld hb
      have hHeld := hNext
      clear hNext
      generalize (u0.alloc (.cells (bl (fun _ => false)).toArray 92)) = u17 at hHeld t6 ⊢
      try simp only [Act.put, List.setIfInBounds_toArray, List.set_cons_zero, List.set_cons_succ]
      refine wpAnyH_ready (rs := [2, 7]) (by kernel_rfl) (by simp) ?_
      refine AllReadyH.cons (o := ⟨some 11, _, _, _, _, _⟩) rfl (fun K hK => ?_) ?_
      · go_simp
        (with_reducible refine (bits_c _ _ _).mono ?_)
        rintro e u18 ⟨rfl, hb⟩
        (try dsimp only)
        refine hK.out _ _ (hold4 hb hHeld) (fun hNext => ?_)
        clear hK K hHeld
        have hHeld := hNext
        clear hNext
        replace t6 := t6.on hb
        clear hb
        try simp only [Act.put, List.setIfInBounds_toArray, List.set_cons_zero, List.set_cons_succ]
        refine wpAnyH_ready (rs := [5, 7]) (by kernel_rfl) (by simp) ?_
        refine AllReadyH.cons (o := ⟨some 14, _, _, _, _, _⟩) rfl (fun K hK => ?_) ?_
        · go_simp
          (with_reducible refine (bits_c _ _ _).mono ?_)
          rintro e u19 ⟨rfl, hb⟩
          (try dsimp only)
          refine hK.out _ _ (hold4 hb hHeld) (fun hNext => ?_)
          clear hK K hHeld
          have hHeld := hNext
          clear hNext
          replace t6 := t6.on hb
          clear hb
          try simp only [Act.put, List.setIfInBounds_toArray, List.set_cons_zero, List.set_cons_succ]
          refine wpAnyH_ready (rs := [7]) (by kernel_rfl) (by simp) ?_
          refine AllReadyH.cons (o := ⟨some 5, _, _, _, _, _⟩) rfl (fun K hK => ?_) AllReadyH.nil
          go_simp
          have hb := below1 u19 (.cells (bl (fun _ => false)).toArray 92)
          refine hK.out _ _ (hold4 hb hHeld) (fun hNext => ?_)
          have t7 : Th (w.heap.size + 1) (u19.alloc (.cells (bl (fun _ => false)).toArray 92)) u19.heap.size := Th.top u19 _ rfl (World.block_lt_of_cell? u19 _ hHeld.2.1)
          have n7_6 : u0.heap.size ≠ u19.heap.size := t6.ne
          replace t6 := t6.on hb
          clear hK K hHeld hb
          have hHeld := hNext
          clear hNext
          generalize (u19.alloc (.cells (bl (fun _ => false)).toArray 92)) = u20 at hHeld t6 t7 ⊢
          try simp only [Act.put, List.setIfInBounds_toArray, List.set_cons_zero, List.set_cons_succ]
          have s6 := t6.1
          have s7 := t7.1
          refine wpAnyH_ready (rs := [8]) (by kernel_rfl) (by simp) ?_
          refine AllReadyH.cons (o := ⟨none, _, _, _, _, _⟩) rfl (fun K hK => ?_) AllReadyH.nil
          rw [if_pos (by rfl)]
          refine wp_store_mid 92 _ _ rfl u0.heap.size 0 (bl (hbit c.vh c.vl)).toArray rfl rfl (by rw [bl_size]; exact t6.1) (size25 _) (bl_all _) ?_
          (try dsimp only)
          refine hK.out _ _ (shold4 (Below.setCells (b := u0.heap.size) _ _ _ (Below.refl _ _) (Nat.le_refl _)) hHeld (by have := t6.2; omega) (by have := t6.2; dsimp only; omega) (by have := t6.2; dsimp only; omega) (by have := t6.2; dsimp only; omega) (by have := t6.2; dsimp only; omega)) (fun hNext => ?_)
          clear hK K hHeld
          have hHeld := hNext
          clear hNext
          replace t6 := t6.set u0.heap.size (bl (hbit c.vh c.vl))
          replace t7 := t7.set u0.heap.size (bl (hbit c.vh c.vl))
          try simp only [Act.put]
          refine wpAnyH_ready (rs := [9]) (by kernel_rfl) (by simp) ?_
          refine AllReadyH.cons (o := ⟨none, _, _, _, _, _⟩) rfl (fun K hK => ?_) AllReadyH.nil
          rw [if_pos (by rfl)]
          refine wp_store_mid 92 _ _ rfl u19.heap.size 0 (bl (hbit c.ch c.cl)).toArray rfl rfl (by rw [bl_size]; exact t7.1) (size25 _) (bl_all _) ?_
          (try dsimp only)
          refine hK.out _ _ (shold4 (Below.setCells (b := u19.heap.size) _ _ _ (Below.refl _ _) (Nat.le_refl _)) hHeld (by have := t7.2; omega) (by have := t7.2; dsimp only; omega) (by have := t7.2; dsimp only; omega) (by have := t7.2; dsimp only; omega) (by have := t7.2; dsimp only; omega)) (fun hNext => ?_)
          clear hK K hHeld
          have hHeld := hNext
          clear hNext
          replace t6 := t6.set u19.heap.size (bl (hbit c.ch c.cl))
          replace t7 := t7.set u19.heap.size (bl (hbit c.ch c.cl))
          try simp only [Act.put]
          refine wpAnyH_done (by kernel_rfl) ?_ _
          go_wp2_with fail
          go_meet
          exact ⟨u0.heap.size, u19.heap.size, rfl, rfl, hHeld.1, (rows2 _ _ s6 s7 n7_6).1, (rows2 _ _ s6 s7 n7_6).2⟩
        refine AllReadyH.cons (o := ⟨some 5, _, _, _, _, _⟩) rfl (fun K hK => ?_) AllReadyH.nil
        go_simp
        have hb := below1 u18 (.cells (bl (fun _ => false)).toArray 92)
        refine hK.out _ _ (hold4 hb hHeld) (fun hNext => ?_)
        have t7 : Th (w.heap.size + 1) (u18.alloc (.cells (bl (fun _ => false)).toArray 92)) u18.heap.size := Th.top u18 _ rfl (World.block_lt_of_cell? u18 _ hHeld.2.1)
        have n7_6 : u0.heap.size ≠ u18.heap.size := t6.ne
        replace t6 := t6.on hb
        clear hK K hHeld hb
        have hHeld := hNext
        clear hNext
        generalize (u18.alloc (.cells (bl (fun _ => false)).toArray 92)) = u21 at hHeld t6 t7 ⊢
        try simp only [Act.put, List.setIfInBounds_toArray, List.set_cons_zero, List.set_cons_succ]
        refine wpAnyH_ready (rs := [5]) (by kernel_rfl) (by simp) ?_
        refine AllReadyH.cons (o := ⟨some 14, _, _, _, _, _⟩) rfl (fun K hK => ?_) AllReadyH.nil
        go_simp
        (with_reducible refine (bits_c _ _ _).mono ?_)
        rintro e u22 ⟨rfl, hb⟩
        (try dsimp only)
        refine hK.out _ _ (hold4 hb hHeld) (fun hNext => ?_)
        clear hK K hHeld
        have hHeld := hNext
        clear hNext
        replace t6 := t6.on hb
        replace t7 := t7.on hb
        clear hb
        try simp only [Act.put, List.setIfInBounds_toArray, List.set_cons_zero, List.set_cons_succ]
        have s6 := t6.1
        have s7 := t7.1
        refine wpAnyH_ready (rs := [8]) (by kernel_rfl) (by simp) ?_
        refine AllReadyH.cons (o := ⟨none, _, _, _, _, _⟩) rfl (fun K hK => ?_) AllReadyH.nil
        rw [if_pos (by rfl)]
        refine wp_store_mid 92 _ _ rfl u0.heap.size 0 (bl (hbit c.vh c.vl)).toArray rfl rfl (by rw [bl_size]; exact t6.1) (size25 _) (bl_all _) ?_
        (try dsimp only)
        refine hK.out _ _ (shold4 (Below.setCells (b := u0.heap.size) _ _ _ (Below.refl _ _) (Nat.le_refl _)) hHeld (by have := t6.2; omega) (by have := t6.2; dsimp only; omega) (by have := t6.2; dsimp only; omega) (by have := t6.2; dsimp only; omega) (by have := t6.2; dsimp only; omega)) (fun hNext => ?_)
        clear hK K hHeld
        have hHeld := hNext
        clear hNext
        replace t6 := t6.set u0.heap.size (bl (hbit c.vh c.vl))
        replace t7 := t7.set u0.heap.size (bl (hbit c.vh c.vl))
        try simp only [Act.put]
        refine wpAnyH_ready (rs := [9]) (by kernel_rfl) (by simp) ?_
        refine AllReadyH.cons (o := ⟨none, _, _, _, _, _⟩) rfl (fun K hK => ?_) AllReadyH.nil
        rw [if_pos (by rfl)]
        refine wp_store_mid 92 _ _ rfl u18.heap.size 0 (bl (hbit c.ch c.cl)).toArray rfl rfl (by rw [bl_size]; exact t7.1) (size25 _) (bl_all _) ?_
        (try dsimp only)
        refine hK.out _ _ (shold4 (Below.setCells (b := u18.heap.size) _ _ _ (Below.refl _ _) (Nat.le_refl _)) hHeld (by have := t7.2; omega) (by have := t7.2; dsimp only; omega) (by have := t7.2; dsimp only; omega) (by have := t7.2; dsimp only; omega) (by have := t7.2; dsimp only; omega)) (fun hNext => ?_)
        clear hK K hHeld
        have hHeld := hNext
        clear hNext
        replace t6 := t6.set u18.heap.size (bl (hbit c.ch c.cl))
        replace t7 := t7.set u18.heap.size (bl (hbit c.ch c.cl))
        try simp only [Act.put]
        refine wpAnyH_done (by kernel_rfl) ?_ _
        go_wp2_with fail
        go_meet
        exact ⟨u0.heap.size, u18.heap.size, rfl, rfl, hHeld.1, (rows2 _ _ s6 s7 n7_6).1, (rows2 _ _ s6 s7 n7_6).2⟩
      refine AllReadyH.cons (o := ⟨some 5, _, _, _, _, _⟩) rfl (fun K hK => ?_) AllReadyH.nil
      go_simp
      have hb := below1 u17 (.cells (bl (fun _ => false)).toArray 92)
      refine hK.out _ _ (hold4 hb hHeld) (fun hNext => ?_)
      have t7 : Th (w.heap.size + 1) (u17.alloc (.cells (bl (fun _ => false)).toArray 92)) u17.heap.size := Th.top u17 _ rfl (World.block_lt_of_cell? u17 _ hHeld.2.1)
      have n7_6 : u0.heap.size ≠ u17.heap.size := t6.ne
      replace t6 := t6.on hb
      clear hK K hHeld hb
      have hHeld := hNext
      clear hNext
      generalize (u17.alloc (.cells (bl (fun _ => false)).toArray 92)) = u23 at hHeld t6 t7 ⊢
      try simp only [Act.put, List.setIfInBounds_toArray, List.set_cons_zero, List.set_cons_succ]
      refine wpAnyH_ready (rs := [2]) (by kernel_rfl) (by simp) ?_
      refine AllReadyH.cons (o := ⟨some 11, _, _, _, _, _⟩) rfl (fun K hK => ?_) AllReadyH.nil
      go_simp
      (with_reducible refine (bits_c _ _ _).mono ?_)
      rintro e u24 ⟨rfl, hb⟩
      (try dsimp only)
      refine hK.out _ _ (hold4 hb hHeld) (fun hNext => ?_)
      clear hK K hHeld
      have hHeld := hNext
      clear hNext
      replace t6 := t6.on hb
      replace t7 := t7.on hb
      clear hb
      try simp only [Act.put, List.setIfInBounds_toArray, List.set_cons_zero, List.set_cons_succ]
      refine wpAnyH_ready (rs := [5]) (by kernel_rfl) (by simp) ?_
      refine AllReadyH.cons (o := ⟨some 14, _, _, _, _, _⟩) rfl (fun K hK => ?_) AllReadyH.nil
      go_simp
      (with_reducible refine (bits_c _ _ _).mono ?_)
      rintro e u25 ⟨rfl, hb⟩
      (try dsimp only)
      refine hK.out _ _ (hold4 hb hHeld) (fun hNext => ?_)
      clear hK K hHeld
      have hHeld := hNext
      clear hNext
      replace t6 := t6.on hb
      replace t7 := t7.on hb
      clear hb
      try simp only [Act.put, List.setIfInBounds_toArray, List.set_cons_zero, List.set_cons_succ]
      have s6 := t6.1
      have s7 := t7.1
      refine wpAnyH_ready (rs := [8]) (by kernel_rfl) (by simp) ?_
      refine AllReadyH.cons (o := ⟨none, _, _, _, _, _⟩) rfl (fun K hK => ?_) AllReadyH.nil
      rw [if_pos (by rfl)]
      refine wp_store_mid 92 _ _ rfl u0.heap.size 0 (bl (hbit c.vh c.vl)).toArray rfl rfl (by rw [bl_size]; exact t6.1) (size25 _) (bl_all _) ?_
      (try dsimp only)
      refine hK.out _ _ (shold4 (Below.setCells (b := u0.heap.size) _ _ _ (Below.refl _ _) (Nat.le_refl _)) hHeld (by have := t6.2; omega) (by have := t6.2; dsimp only; omega) (by have := t6.2; dsimp only; omega) (by have := t6.2; dsimp only; omega) (by have := t6.2; dsimp only; omega)) (fun hNext => ?_)
      clear hK K hHeld
      have hHeld := hNext
      clear hNext
      replace t6 := t6.set u0.heap.size (bl (hbit c.vh c.vl))
      replace t7 := t7.set u0.heap.size (bl (hbit c.vh c.vl))
      try simp only [Act.put]
      refine wpAnyH_ready (rs := [9]) (by kernel_rfl) (by simp) ?_
      refine AllReadyH.cons (o := ⟨none, _, _, _, _, _⟩) rfl (fun K hK => ?_) AllReadyH.nil
      rw [if_pos (by rfl)]
      refine wp_store_mid 92 _ _ rfl u17.heap.size 0 (bl (hbit c.ch c.cl)).toArray rfl rfl (by rw [bl_size]; exact t7.1) (size25 _) (bl_all _) ?_
      (try dsimp only)
      refine hK.out _ _ (shold4 (Below.setCells (b := u17.heap.size) _ _ _ (Below.refl _ _) (Nat.le_refl _)) hHeld (by have := t7.2; omega) (by have := t7.2; dsimp only; omega) (by have := t7.2; dsimp only; omega) (by have := t7.2; dsimp only; omega) (by have := t7.2; dsimp only; omega)) (fun hNext => ?_)
      clear hK K hHeld
      have hHeld := hNext
      clear hNext
      replace t6 := t6.set u17.heap.size (bl (hbit c.ch c.cl))
      replace t7 := t7.set u17.heap.size (bl (hbit c.ch c.cl))
      try simp only [Act.put]
      refine wpAnyH_done (by kernel_rfl) ?_ _
      go_wp2_with fail
      go_meet
      exact ⟨u0.heap.size, u17.heap.size, rfl, rfl, hHeld.1, (rows2 _ _ s6 s7 n7_6).1, (rows2 _ _ s6 s7 n7_6).2⟩
    refine AllReadyH.cons (o := ⟨some 5, _, _, _, _, _⟩) rfl (fun K hK => ?_) AllReadyH.nil
    go_simp
    have hb := below1 u0 (.cells (bl (fun _ => false)).toArray 92)
    refine hK.out _ _ (hold4 hb hHeld) (fun hNext => ?_)
    have t7 : Th (w.heap.size + 1) (u0.alloc (.cells (bl (fun _ => false)).toArray 92)) u0.heap.size := Th.top u0 _ rfl (World.block_lt_of_cell? u0 _ hHeld.2.1)
    clear hK K hHeld hb
    have hHeld := hNext
    clear hNext
    generalize (u0.alloc (.cells (bl (fun _ => false)).toArray 92)) = u26 at hHeld t7 ⊢
    try simp only [Act.put, List.setIfInBounds_toArray, List.set_cons_zero, List.set_cons_succ]
    refine wpAnyH_ready (rs := [2, 6]) (by kernel_rfl) (by simp) ?_
    refine AllReadyH.cons (o := ⟨some 11, _, _, _, _, _⟩) rfl (fun K hK => ?_) ?_
    · go_simp
      (with_reducible refine (bits_c _ _ _).mono ?_)
      rintro e u27 ⟨rfl, hb⟩
      (try dsimp only)
      refine hK.out _ _ (hold4 hb hHeld) (fun hNext => ?_)
      clear hK K hHeld
      have hHeld := hNext
      clear hNext
      replace t7 := t7.on hb
      clear hb
      try simp only [Act.put, List.setIfInBounds_toArray, List.set_cons_zero, List.set_cons_succ]
      refine wpAnyH_ready (rs := [5, 6]) (by kernel_rfl) (by simp) ?_
      refine AllReadyH.cons (o := ⟨some 14, _, _, _, _, _⟩) rfl (fun K hK => ?_) ?_
      · go_simp
        (with_reducible refine (bits_c _ _ _).mono ?_)
        rintro e u28 ⟨rfl, hb⟩
        (try dsimp only)
        refine hK.out _ _ (hold4 hb hHeld) (fun hNext => ?_)
        clear hK K hHeld
        have hHeld := hNext
        clear hNext
        replace t7 := t7.on hb
        clear hb
        try simp only [Act.put, List.setIfInBounds_toArray, List.set_cons_zero, List.set_cons_succ]
        refine wpAnyH_ready (rs := [6]) (by kernel_rfl) (by simp) ?_
        refine AllReadyH.cons (o := ⟨some 4, _, _, _, _, _⟩) rfl (fun K hK => ?_) AllReadyH.nil
        go_simp
        have hb := below1 u28 (.cells (bl (fun _ => false)).toArray 92)
        refine hK.out _ _ (hold4 hb hHeld) (fun hNext => ?_)
        have t6 : Th (w.heap.size + 1) (u28.alloc (.cells (bl (fun _ => false)).toArray 92)) u28.heap.size := Th.top u28 _ rfl (World.block_lt_of_cell? u28 _ hHeld.2.1)
        have n6_7 : u0.heap.size ≠ u28.heap.size := t7.ne
        replace t7 := t7.on hb
        clear hK K hHeld hb
        have hHeld := hNext
        clear hNext
        generalize (u28.alloc (.cells (bl (fun _ => false)).toArray 92)) = u29 at hHeld t6 t7 ⊢
        try simp only [Act.put, List.setIfInBounds_toArray, List.set_cons_zero, List.set_cons_succ]
        have s6 := t6.1
        have s7 := t7.1
        refine wpAnyH_ready (rs := [8]) (by kernel_rfl) (by simp) ?_
        refine AllReadyH.cons (o := ⟨none, _, _, _, _, _⟩) rfl (fun K hK => ?_) AllReadyH.nil
        rw [if_pos (by rfl)]
        refine wp_store_mid 92 _ _ rfl u28.heap.size 0 (bl (hbit c.vh c.vl)).toArray rfl rfl (by rw [bl_size]; exact t6.1) (size25 _) (bl_all _) ?_
        (try dsimp only)
        refine hK.out _ _ (shold4 (Below.setCells (b := u28.heap.size) _ _ _ (Below.refl _ _) (Nat.le_refl _)) hHeld (by have := t6.2; omega) (by have := t6.2; dsimp only; omega) (by have := t6.2; dsimp only; omega) (by have := t6.2; dsimp only; omega) (by have := t6.2; dsimp only; omega)) (fun hNext => ?_)
        clear hK K hHeld
        have hHeld := hNext
        clear hNext
        replace t6 := t6.set u28.heap.size (bl (hbit c.vh c.vl))
        replace t7 := t7.set u28.heap.size (bl (hbit c.vh c.vl))
        try simp only [Act.put]
        refine wpAnyH_ready (rs := [9]) (by kernel_rfl) (by simp) ?_
        refine AllReadyH.cons (o := ⟨none, _, _, _, _, _⟩) rfl (fun K hK => ?_) AllReadyH.nil
        rw [if_pos (by rfl)]
        refine wp_store_mid 92 _ _ rfl u0.heap.size 0 (bl (hbit c.ch c.cl)).toArray rfl rfl (by rw [bl_size]; exact t7.1) (size25 _) (bl_all _) ?_
        (try dsimp only)
        refine hK.out _ _ (shold4 (Below.setCells (b := u0.heap.size) _ _ _ (Below.refl _ _) (Nat.le_refl _)) hHeld (by have := t7.2; omega) (by have := t7.2; dsimp only; omega) (by have := t7.2; dsimp only; omega) (by have := t7.2; dsimp only; omega) (by have := t7.2; dsimp only; omega)) (fun hNext => ?_)
        clear hK K hHeld
        have hHeld := hNext
        clear hNext
        replace t6 := t6.set u0.heap.size (bl (hbit c.ch c.cl))
        replace t7 := t7.set u0.heap.size (bl (hbit c.ch c.cl))
        try simp only [Act.put]
        refine wpAnyH_done (by kernel_rfl) ?_ _
        go_wp2_with fail
        go_meet
        exact ⟨u28.heap.size, u0.heap.size, rfl, rfl, hHeld.1, (rows2 _ _ s6 s7 n6_7.symm).1, (rows2 _ _ s6 s7 n6_7.symm).2⟩
      refine AllReadyH.cons (o := ⟨some 4, _, _, _, _, _⟩) rfl (fun K hK => ?_) AllReadyH.nil
      go_simp
      have hb := below1 u27 (.cells (bl (fun _ => false)).toArray 92)
      refine hK.out _ _ (hold4 hb hHeld) (fun hNext => ?_)
      have t6 : Th (w.heap.size + 1) (u27.alloc (.cells (bl (fun _ => false)).toArray 92)) u27.heap.size := Th.top u27 _ rfl (World.block_lt_of_cell? u27 _ hHeld.2.1)
      have n6_7 : u0.heap.size ≠ u27.heap.size := t7.ne
      replace t7 := t7.on hb
      clear hK K hHeld hb
      have hHeld := hNext
      clear hNext
      generalize (u27.alloc (.cells (bl (fun _ => false)).toArray 92)) = u30 at hHeld t6 t7 ⊢
      try simp only [Act.put, List.setIfInBounds_toArray, List.set_cons_zero, List.set_cons_succ]
      refine wpAnyH_ready (rs := [5]) (by kernel_rfl) (by simp) ?_
      refine AllReadyH.cons (o := ⟨some 14, _, _, _, _, _⟩) rfl (fun K hK => ?_) AllReadyH.nil
      go_simp
      (with_reducible refine (bits_c _ _ _).mono ?_)
      rintro e u31 ⟨rfl, hb⟩
      (try dsimp only)
      refine hK.out _ _ (hold4 hb hHeld) (fun hNext => ?_)
      clear hK K hHeld
      have hHeld := hNext
      clear hNext
      replace t6 := t6.on hb
      replace t7 := t7.on hb
      clear hb
      try simp only [Act.put, List.setIfInBounds_toArray, List.set_cons_zero, List.set_cons_succ]
      have s6 := t6.1
      have s7 := t7.1
      refine wpAnyH_ready (rs := [8]) (by kernel_rfl) (by simp) ?_
      refine AllReadyH.cons (o := ⟨none, _, _, _, _, _⟩) rfl (fun K hK => ?_) AllReadyH.nil
      rw [if_pos (by rfl)]
      refine wp_store_mid 92 _ _ rfl u27.heap.size 0 (bl (hbit c.vh c.vl)).toArray rfl rfl (by rw [bl_size]; exact t6.1) (size25 _) (bl_all _) ?_
      (try dsimp only)
      refine hK.out _ _ (shold4 (Below.setCells (b := u27.heap.size) _ _ _ (Below.refl _ _) (Nat.le_refl _)) hHeld (by have := t6.2; omega) (by have := t6.2; dsimp only; omega) (by have := t6.2; dsimp only; omega) (by have := t6.2; dsimp only; omega) (by have := t6.2; dsimp only; omega)) (fun hNext => ?_)
      clear hK K hHeld
      have hHeld := hNext
      clear hNext
      replace t6 := t6.set u27.heap.size (bl (hbit c.vh c.vl))
      replace t7 := t7.set u27.heap.size (bl (hbit c.vh c.vl))
      try simp only [Act.put]
      refine wpAnyH_ready (rs := [9]) (by kernel_rfl) (by simp) ?_
      refine AllReadyH.cons (o := ⟨none, _, _, _, _, _⟩) rfl (fun K hK => ?_) AllReadyH.nil
      rw [if_pos (by rfl)]
      refine wp_store_mid 92 _ _ rfl u0.heap.size 0 (bl (hbit c.ch c.cl)).toArray rfl rfl (by rw [bl_size]; exact t7.1) (size25 _) (bl_all _) ?_
      (try dsimp only)
      refine hK.out _ _ (shold4 (Below.setCells (b := u0.heap.size) _ _ _ (Below.refl _ _) (Nat.le_refl _)) hHeld (by have := t7.2; omega) (by have := t7.2; dsimp only; omega) (by have := t7.2; dsimp only; omega) (by have := t7.2; dsimp only; omega) (by have := t7.2; dsimp only; omega)) (fun hNext => ?_)
      clear hK K hHeld
      have hHeld := hNext
      clear hNext
      replace t6 := t6.set u0.heap.size (bl (hbit c.ch c.cl))
      replace t7 := t7.set u0.heap.size (bl (hbit c.ch c.cl))
      try simp only [Act.put]
      refine wpAnyH_done (by kernel_rfl) ?_ _
      go_wp2_with fail
      go_meet
      exact ⟨u27.heap.size, u0.heap.size, rfl, rfl, hHeld.1, (rows2 _ _ s6 s7 n6_7.symm).1, (rows2 _ _ s6 s7 n6_7.symm).2⟩
    refine AllReadyH.cons (o := ⟨some 4, _, _, _, _, _⟩) rfl (fun K hK => ?_) AllReadyH.nil
    go_simp
    have hb := below1 u26 (.cells (bl (fun _ => false)).toArray 92)
    refine hK.out _ _ (hold4 hb hHeld) (fun hNext => ?_)
    have t6 : Th (w.heap.size + 1) (u26.alloc (.cells (bl (fun _ => false)).toArray 92)) u26.heap.size := Th.top u26 _ rfl (World.block_lt_of_cell? u26 _ hHeld.2.1)
    have n6_7 : u0.heap.size ≠ u26.heap.size := t7.ne
    replace t7 := t7.on hb
    clear hK K hHeld hb
    have hHeld := hNext
    clear hNext
    generalize (u26.alloc (.cells (bl (fun _ => false)).toArray 92)) = u32 at hHeld t6 t7 ⊢
    try simp only [Act.put, List.setIfInBounds_toArray, List.set_cons_zero, List.set_cons_succ]
    refine wpAnyH_ready (rs := [2]) (by kernel_rfl) (by simp) ?_
    refine AllReadyH.cons (o := ⟨some 11, _, _, _, _, _⟩) rfl (fun K hK => ?_) AllReadyH.nil
    go_simp
    (with_reducible refine (bits_c _ _ _).mono ?_)
    rintro e u33 ⟨rfl, hb⟩
    (try dsimp only)
    refine hK.out _ _ (hold4 hb hHeld) (fun hNext => ?_)
    clear hK K hHeld
    have hHeld := hNext
    clear hNext
    replace t6 := t6.on hb
    replace t7 := t7.on hb
    clear hb
    try simp only [Act.put, List.setIfInBounds_toArray, List.set_cons_zero, List.set_cons_succ]
    refine wpAnyH_ready (rs := [5]) (by kernel_rfl) (by simp) ?_
    refine AllReadyH.cons (o := ⟨some 14, _, _, _, _, _⟩) rfl (fun K hK => ?_) AllReadyH.nil
    go_simp
    (with_reducible refine (bits_c _ _ _).mono ?_)
    rintro e u34 ⟨rfl, hb⟩
    (try dsimp only)
    refine hK.out _ _ (hold4 hb hHeld) (fun hNext => ?_)
    clear hK K hHeld
    have hHeld := hNext
    clear hNext
    replace t6 := t6.on hb
    replace t7 := t7.on hb
    clear hb
    try simp only [Act.put, List.setIfInBounds_toArray, List.set_cons_zero, List.set_cons_succ]
    have s6 := t6.1
    have s7 := t7.1
    refine wpAnyH_ready (rs := [8]) (by kernel_rfl) (by simp) ?_
    refine AllReadyH.cons (o := ⟨none, _, _, _, _, _⟩) rfl (fun K hK => ?_) AllReadyH.nil
    rw [if_pos (by rfl)]
    refine wp_store_mid 92 _ _ rfl u26.heap.size 0 (bl (hbit c.vh c.vl)).toArray rfl rfl (by rw [bl_size]; exact t6.1) (size25 _) (bl_all _) ?_
    (try dsimp only)
    refine hK.out _ _ (shold4 (Below.setCells (b := u26.heap.size) _ _ _ (Below.refl _ _) (Nat.le_refl _)) hHeld (by have := t6.2; omega) (by have := t6.2; dsimp only; omega) (by have := t6.2; dsimp only; omega) (by have := t6.2; dsimp only; omega) (by have := t6.2; dsimp only; omega)) (fun hNext => ?_)
    clear hK K hHeld
    have hHeld := hNext
    clear hNext
    replace t6 := t6.set u26.heap.size (bl (hbit c.vh c.vl))
    replace t7 := t7.set u26.heap.size (bl (hbit c.vh c.vl))
    try simp only [Act.put]
    refine wpAnyH_ready (rs := [9]) (by kernel_rfl) (by simp) ?_
    refine AllReadyH.cons (o := ⟨none, _, _, _, _, _⟩) rfl (fun K hK => ?_) AllReadyH.nil
    rw [if_pos (by rfl)]
    refine wp_store_mid 92 _ _ rfl u0.heap.size 0 (bl (hbit c.ch c.cl)).toArray rfl rfl (by rw [bl_size]; exact t7.1) (size25 _) (bl_all _) ?_
    (try dsimp only)
    refine hK.out _ _ (shold4 (Below.setCells (b := u0.heap.size) _ _ _ (Below.refl _ _) (Nat.le_refl _)) hHeld (by have := t7.2; omega) (by have := t7.2; dsimp only; omega) (by have := t7.2; dsimp only; omega) (by have := t7.2; dsimp only; omega) (by have := t7.2; dsimp only; omega)) (fun hNext => ?_)
    clear hK K hHeld
    have hHeld := hNext
    clear hNext
    replace t6 := t6.set u0.heap.size (bl (hbit c.ch c.cl))
    replace t7 := t7.set u0.heap.size (bl (hbit c.ch c.cl))
    try simp only [Act.put]
    refine wpAnyH_done (by kernel_rfl) ?_ _
    go_wp2_with fail
    go_meet
    exact ⟨u26.heap.size, u0.heap.size, rfl, rfl, hHeld.1, (rows2 _ _ s6 s7 n6_7.symm).1, (rows2 _ _ s6 s7 n6_7.symm).2⟩
  case rest =>
    obtain ⟨bx, by', rfl, rfl, BC, hx, hy⟩ := hcut
    clear S0 hz
    have hmk : ∀ u : World, (Instr.makeSlice 85 (.int .i64 128) (.int .i64 128)).run Try.prog u = .ok (.slice (some ⟨u.heap.size, 0, none⟩) 128 128) (u.alloc (.cells (by8 (fun _ => 0)).toArray 5)) := make128
    have lx : bx < wc.heap.size := World.block_lt_of_cell? wc ⟨bx, 0, none⟩ (range_cell hx (by omega))
    have ly : by' < wc.heap.size := World.block_lt_of_cell? wc ⟨by', 0, none⟩ (range_cell hy (by omega))
    have HX := Lib.hid hx
    have HY := Lib.hid hy
    clear hx hy
    go_wp2_with fail
    go_loopg [7] 128 (fun g i wr => ∃ k : Nat, k ≤ 128 ∧ g = 128 - k ∧ i = .int .i64 k ∧ (∀ j, j < k → c.V j = true → c.K j = true) ∧ wr = wc.alloc (.cells (by8 (upTxt c k)).toArray 5))
    case atStart => exact ⟨0, by omega, rfl, rfl, fun j hj => by omega, by rw [upTxt_zero]⟩
    case round =>
      obtain ⟨k, hk, rfl, rfl, hok, rfl⟩ := hrel
      have HOK := Lib.hid hok
      have HNS := Lib.hid hs
      clear hok hs
      by_cases hlt : k < 128
      · have hlt' : (k : Int) < 128 := by omega
        have hx : wc.cell? ⟨bx, k, none⟩ = some (.bool (c.V k)) := range_cell HX.out hlt
        have hy : wc.cell? ⟨by', k, none⟩ = some (.bool (c.K k)) := range_cell HY.out hlt
        obtain ⟨m, hm⟩ : ∃ m, m + k = 127 := ⟨127 - k, by omega⟩
        have hi : (127 : Int) - (k : Int) = (m : Int) := by omega
        have hm1 : m < 128 := by omega
        have hm2 : (m : Int) < 128 := by omega
        have hg := by8_get (upTxt c k) m hm1
        have HM := Lib.hid hm
        clear hm
        cases hv : c.V k <;> cases hc : c.K k
        · rw [hv] at hx; rw [hc] at hy
          have HS : ((sgn c k).toNat : Int) = 120 := by unfold sgn; rw [hc]; rfl
          have HSS := Lib.hid HS
          have HVK := Lib.hid (And.intro hv hc)
          clear HS hv hc
          go_wp2
          go_roundg (128 - (k + 1))
          case measure => omega
          case rel => exact ⟨k + 1, by omega, rfl, by go_num, upto_ok HOK.out (by rw [HVK.out.1]; simp), by rw [upTxt_put c k m HM.out _ HSS.out.symm]⟩
        · rw [hv] at hx; rw [hc] at hy
          have HS : ((sgn c k).toNat : Int) = 48 := by unfold sgn; rw [hc, hv]; rfl
          have HSS := Lib.hid HS
          have HVK := Lib.hid (And.intro hv hc)
          clear HS hv hc
          go_wp2
          go_roundg (128 - (k + 1))
          case measure => omega
          case rel => exact ⟨k + 1, by omega, rfl, by go_num, upto_ok HOK.out (by rw [HVK.out.1]; simp), by rw [upTxt_put c k m HM.out _ HSS.out.symm]⟩
        · rw [hv] at hx; rw [hc] at hy
          clear hv hc
          go_wp2
          go_ret2
          exact ⟨rfl, BC.alloc BC.size _⟩
        · rw [hv] at hx; rw [hc] at hy
          have HS : ((sgn c k).toNat : Int) = 49 := by unfold sgn; rw [hc, hv]; rfl
          have HSS := Lib.hid HS
          have HVK := Lib.hid (And.intro hv hc)
          clear HS hv hc
          go_wp2
          go_roundg (128 - (k + 1))
          case measure => omega
          case rel => exact ⟨k + 1, by omega, rfl, by go_num, upto_ok HOK.out (fun _ => HVK.out.2), by rw [upTxt_put c k m HM.out _ HSS.out.symm]⟩
      · exfalso
        have h := (Cb.snd_iff c).2 (fun j hj => HOK.out j (by omega))
        rw [HNS.out] at h; cases h

end Go.Proofs
