/-
  The law CubeFields returns true for all fields, numbers and headers, and changes nothing that was there. No conditions.
-/
import Derived.Test.YtlhbkiobgppciaaFieldsA
import Derived.Test.YtlhbkiobgppciaaFldReg
import Derived.Test.YtlhbkiobgppciaaCParts
import Derived.Test.YtlhbkiobgppciaaRCube
namespace Go.Proofs
open Go.RowKit Go.Proofs.Hd
attribute [local go_sem] uv_nonneg uv_shr eq4_self eq2_self
attribute [local go_sem high] run_eq2 run_eq4
theorem all_u (w : World) : Calls Try.prog 25 #[] w fun e w' => e = .returned (.agg #[.int .u64 0, .int .u64 0, .int .u64 0, .int .u64 0]) ∧ Below w.heap.size w w' := all_c w

theorem sets1 (w : World) (r k : Nat) (a : Value) : Below r w (w.setCell ⟨r, k, none⟩ a) := (Below.refl r w).setCell (p := ⟨r, k, none⟩) (Nat.le_refl r) a

set_option maxRecDepth 100000 in
set_option maxHeartbeats 8000000 in
theorem fields_arg (at' n len : Int) (v ah al bh bm : BitVec 64) (w : World) (h : ¬ (0 ≤ at' ∧ 0 ≤ n ∧ n ≤ 128 - at' ∧ n ≤ 64)) (ha : at' ≤ 9223372036854775807) :
    Calls Try.prog 6 #[.int .i64 at', .int .i64 n, .int .u64 (uv v), .int .i64 len, .agg #[.int .u64 (uv ah), .int .u64 (uv al)], .agg #[.int .u64 (uv bh), .int .u64 (uv bm)]] w fun e w' => e = .returned (.bool true) ∧ Below w.heap.size w w' := by
  have HH := Lib.hid (And.intro h ha)
  clear h ha
  have hz := zero25
  have hi1 : ∀ f : Nat → Bool, (Try.prog.info? 43).map (·.size) = some (bl f).length := fun f => by rw [(zero_of_info info25).2, bl_len]
  have HI1 := Lib.hid hi1
  clear hi1
  have S0 : Below w.heap.size w ((w.alloc (.cells #[.int .u64 (uv ah), .int .u64 (uv al)] 24)).alloc (.cells #[.int .u64 (uv bh), .int .u64 (uv bm)] 24)) ∧ ((w.alloc (.cells #[.int .u64 (uv ah), .int .u64 (uv al)] 24)).alloc (.cells #[.int .u64 (uv bh), .int .u64 (uv bm)] 24)).cell? ⟨w.heap.size + 1, 0, none⟩ = some (.int .u64 (uv bh)) ∧ ((w.alloc (.cells #[.int .u64 (uv ah), .int .u64 (uv al)] 24)).alloc (.cells #[.int .u64 (uv bh), .int .u64 (uv bm)] 24)).cell? ⟨w.heap.size + 1, 1, none⟩ = some (.int .u64 (uv bm)) ∧ ((w.alloc (.cells #[.int .u64 (uv ah), .int .u64 (uv al)] 24)).alloc (.cells #[.int .u64 (uv bh), .int .u64 (uv bm)] 24)).cell? ⟨w.heap.size, 0, none⟩ = some (.int .u64 (uv ah)) ∧ ((w.alloc (.cells #[.int .u64 (uv ah), .int .u64 (uv al)] 24)).alloc (.cells #[.int .u64 (uv bh), .int .u64 (uv bm)] 24)).cell? ⟨w.heap.size, 1, none⟩ = some (.int .u64 (uv al)) := ⟨below2 w (.cells #[.int .u64 (uv ah), .int .u64 (uv al)] 24) (.cells #[.int .u64 (uv bh), .int .u64 (uv bm)] 24), by go_simp, by go_simp, by go_simp, by go_simp⟩
  go_enter Try.func6, Try.ntmps6
  go_upto_region 1 with (fail)
  refine fld_region _ _ _ _ ah al bh bm w _ _ ?_ ?_ S0
  · intro c a t v w h; exact h
  · intro bx by' u SC RX RY gx gy nxy
    clear S0 hz
    go_wp2_with fail
    go_loopg [15] 128 (fun g i wr => ∃ k : Nat, k ≤ 128 ∧ g = 128 - k ∧ i = .int .i64 k ∧ (Below w.heap.size w wr ∧ wr.cell? ⟨w.heap.size + 1, 0, none⟩ = some (.int .u64 (uv bh)) ∧ wr.cell? ⟨w.heap.size + 1, 1, none⟩ = some (.int .u64 (uv bm)) ∧ wr.cell? ⟨w.heap.size, 0, none⟩ = some (.int .u64 (uv ah)) ∧ wr.cell? ⟨w.heap.size, 1, none⟩ = some (.int .u64 (uv al))) ∧ Row wr bx (mix (hbit ah al) (fun j => hbit ah al j && hbit bh bm j) k) ∧ Row wr by' (hbit bh bm))
    case atStart => exact ⟨0, by omega, rfl, rfl, SC, by rw [mix_zero]; exact RX, RY⟩
    case round =>
     clear SC RX RY
     obtain ⟨k, hk, rfl, rfl, SC, RX, RY⟩ := hrel
     by_cases hlt : k < 128
     · have hlt' : (k : Int) < 128 := by omega
       have cx := RX.cell hlt
       have fx := RX.froz hlt
       have cy := RY.cell hlt
       have em : mix (hbit ah al) (fun j => hbit ah al j && hbit bh bm j) k k = hbit ah al k := by unfold mix; rw [if_neg (by omega)]
       rw [em] at cx
       clear em
       have SK := fun x => shold4 (sets1 wr bx k x) SC (by omega) (by dsimp only; omega) (by dsimp only; omega) (by dsimp only; omega) (by dsimp only; omega)
       have HSK := Lib.hid SK
       clear SK SC
       cases hA : hbit ah al k <;> cases hB : hbit bh bm k
       all_goals (
         rw [hA] at cx; rw [hB] at cy
         have HAB := Lib.hid (And.intro hA hB)
         clear hA hB
         go_wp2
         go_roundg (128 - (k + 1)))
       all_goals first
         | omega
         | exact ⟨k + 1, by omega, rfl, by go_num, HSK.out _, RX.set hlt (mix_set _ _ k _ (by rw [HAB.out.1, HAB.out.2]; rfl)), RY.far nxy⟩
     · obtain rfl : k = 128 := by omega
       have hi1 := HI1.out
       have RR := (RX.congr (mix_all _ _)).1
       clear RX RY
       go_wp2_with fail
       refine wp_region_held_drew (S := fun w' => (Below w.heap.size w w' ∧ w'.cell? ⟨w.heap.size + 1, 0, none⟩ = some (.int .u64 (uv bh)) ∧ w'.cell? ⟨w.heap.size + 1, 1, none⟩ = some (.int .u64 (uv bm)) ∧ w'.cell? ⟨w.heap.size, 0, none⟩ = some (.int .u64 (uv ah)) ∧ w'.cell? ⟨w.heap.size, 1, none⟩ = some (.int .u64 (uv al))) ∧ w'.rangeAt bx 0 (bl (fun j => hbit ah al j && hbit bh bm j))) (by kernel_rfl) ⟨⟨SC.1.drew, SC.2⟩, RR⟩ (fun hHeld => ?_)
       clear SC RR
       refine wpAnyH_take (i := 0) (oi := ⟨some 39, _, _, _, _, _⟩) (v := ?vs0) rfl (by kernel_rfl) (by kernel_rfl) (by kernel_rfl) (fun _ _ _ h => h) (Or.inl ⟨by rfl, ?ys0⟩) hHeld ?rs0
       case ys0 => (intro w' hSw; (try dsimp only at hSw); go_simp; try (with_reducible rfl))
       simp only [Act.put, List.setIfInBounds_toArray, List.set_cons_zero, List.set_cons_succ]
       refine wpAnyH_take (i := 1) (oi := ⟨some 40, _, _, _, _, _⟩) (v := ?vs1) rfl (by kernel_rfl) (by kernel_rfl) (by kernel_rfl) (fun _ _ _ h => h) (Or.inl ⟨by rfl, ?ys1⟩) hHeld ?rs1
       case ys1 => (intro w' hSw; (try dsimp only at hSw); go_simp; try (with_reducible rfl))
       simp only [Act.put, List.setIfInBounds_toArray, List.set_cons_zero, List.set_cons_succ]
       refine wpAnyH_take (i := 3) (oi := ⟨some 42, _, _, _, _, _⟩) (v := .agg (bl (fun j => hbit ah al j && hbit bh bm j)).toArray) rfl (by kernel_rfl) (by kernel_rfl) (by kernel_rfl) (fun _ _ _ h => h) (yieldsIf_load_mid (by rfl) 43 _ rfl bx 0 rfl (bl (fun j => hbit ah al j && hbit bh bm j)) _ (fun _ hw => hw.2) Try.underlying43 rfl (hi1 _)) hHeld ?_
       simp only [Act.put, List.setIfInBounds_toArray, List.set_cons_zero, List.set_cons_succ]
       refine wpAnyH_take (i := 5) (oi := ⟨some 44, _, _, _, _, _⟩) (v := ?vs5) rfl (by kernel_rfl) (by kernel_rfl) (by kernel_rfl) (fun _ _ _ h => h) (Or.inl ⟨by rfl, ?ys5⟩) hHeld ?rs5
       case ys5 => (intro w' hSw; (try dsimp only at hSw); go_simp; try (with_reducible rfl))
       simp only [Act.put, List.setIfInBounds_toArray, List.set_cons_zero, List.set_cons_succ]
       refine wpAnyH_ready (rs := [2]) (by kernel_rfl) (by simp) ?_
       refine AllReadyH.cons (o := ⟨some 41, _, _, _, _, _⟩) rfl (fun K hK => ?_) AllReadyH.nil
       go_simp
       (with_reducible refine (make_c _ _ _ _ _).mono ?_)
       rintro e wq2 ⟨rfl, hb⟩
       (try dsimp only)
       refine hK.out _ _ (⟨hold4 hb hHeld.1, range_on hb hHeld.2⟩) (fun hNext => ?_)
       clear hK K hHeld hb
       have hHeld := hNext
       clear hNext
       try simp only [Act.put, List.setIfInBounds_toArray, List.set_cons_zero, List.set_cons_succ]
       refine wpAnyH_ready (rs := [4]) (by kernel_rfl) (by simp) ?_
       refine AllReadyH.cons (o := ⟨some 43, _, _, _, _, _⟩) rfl (fun K hK => ?_) AllReadyH.nil
       go_simp
       (with_reducible refine (rhead_is (fun j => hbit ah al j && hbit bh bm j) (ah &&& bh) (al &&& bm) _ (and_num ah al bh bm)).mono ?_)
       rintro e wq4 ⟨rfl, hb⟩
       (try dsimp only)
       refine hK.out _ _ (⟨hold4 hb hHeld.1, range_on hb hHeld.2⟩) (fun hNext => ?_)
       clear hK K hHeld hb
       have hHeld := hNext
       clear hNext
       try simp only [Act.put, List.setIfInBounds_toArray, List.set_cons_zero, List.set_cons_succ]
       refine wpAnyH_take (i := 6) (oi := ⟨some 45, _, _, _, _, _⟩) (v := ?vs6) rfl (by kernel_rfl) (by kernel_rfl) (by kernel_rfl) (fun _ _ _ h => h) (Or.inl ⟨by rfl, ?ys6⟩) hHeld ?rs6
       case ys6 => (intro w' hSw; (try dsimp only at hSw); go_simp; try (with_reducible rfl))
       simp only [Act.put, List.setIfInBounds_toArray, List.set_cons_zero, List.set_cons_succ]
       refine wpAnyH_take (i := 7) (oi := ⟨some 46, _, _, _, _, _⟩) (v := ?vs7) rfl (by kernel_rfl) (by kernel_rfl) (by kernel_rfl) (fun _ _ _ h => h) (Or.inl ⟨by rfl, ?ys7⟩) hHeld ?rs7
       case ys7 => (intro w' hSw; (try dsimp only at hSw); go_simp; try (with_reducible rfl))
       simp only [Act.put, List.setIfInBounds_toArray, List.set_cons_zero, List.set_cons_succ]
       refine wpAnyH_take (i := 8) (oi := ⟨some 47, _, _, _, _, _⟩) (v := ?vs8) rfl (by kernel_rfl) (by kernel_rfl) (by kernel_rfl) (fun _ _ _ h => h) (Or.inl ⟨by rfl, ?ys8⟩) hHeld ?rs8
       case ys8 => (intro w' hSw; (try dsimp only at hSw); go_simp; try (with_reducible rfl))
       simp only [Act.put, List.setIfInBounds_toArray, List.set_cons_zero, List.set_cons_succ]
       refine wpAnyH_take (i := 10) (oi := ⟨some 49, _, _, _, _, _⟩) (v := ?vs10) rfl (by kernel_rfl) (by kernel_rfl) (by kernel_rfl) (fun _ _ _ h => h) (Or.inl ⟨by rfl, ?ys10⟩) hHeld ?rs10
       case ys10 => (intro w' hSw; (try dsimp only at hSw); go_simp; try (with_reducible rfl))
       simp only [Act.put, List.setIfInBounds_toArray, List.set_cons_zero, List.set_cons_succ]
       refine wpAnyH_ready (rs := [9]) (by kernel_rfl) (by simp) ?_
       refine AllReadyH.cons (o := ⟨some 48, _, _, _, _, _⟩) rfl (fun K hK => ?_) AllReadyH.nil
       go_simp
       (with_reducible refine (all_u _).mono ?_)
       rintro e wq9 ⟨rfl, hb⟩
       (try dsimp only)
       refine hK.out _ _ (⟨hold4 hb hHeld.1, range_on hb hHeld.2⟩) (fun hNext => ?_)
       clear hK K hHeld hb
       have hHeld := hNext
       clear hNext
       try simp only [Act.put, List.setIfInBounds_toArray, List.set_cons_zero, List.set_cons_succ]
       refine wpAnyH_take (i := 11) (oi := ⟨some 50, _, _, _, _, _⟩) (v := ?vs11) rfl (by kernel_rfl) (by kernel_rfl) (by kernel_rfl) (fun _ _ _ h => h) (Or.inl ⟨by rfl, ?ys11⟩) hHeld ?rs11
       case ys11 => (intro w' hSw; (try dsimp only at hSw); go_simp; try (with_reducible rfl))
       simp only [Act.put, List.setIfInBounds_toArray, List.set_cons_zero, List.set_cons_succ]
       refine wpAnyH_take (i := 12) (oi := ⟨some 51, _, _, _, _, _⟩) (v := ?vs12) rfl (by kernel_rfl) (by kernel_rfl) (by kernel_rfl) (fun _ _ _ h => h) (Or.inl ⟨by rfl, ?ys12⟩) hHeld ?rs12
       case ys12 => (intro w' hSw; (try dsimp only at hSw); go_simp; try (with_reducible rfl))
       simp only [Act.put, List.setIfInBounds_toArray, List.set_cons_zero, List.set_cons_succ]
       refine wpAnyH_done (by kernel_rfl) ?_ _
       have L := hHeld.1.1
       clear hHeld hi1
       go_wp2_with fail
       (with_reducible refine (fld_arg at' n len v _ HH.out.1 HH.out.2).mono ?_)
       rintro e x1 ⟨rfl, hb⟩
       replace L := L.trans (hb.mono L.size)
       clear hb
       go_upto_region 9 with (fail)
       have hb := below1 x1 (.cells #[.int .u64 0, .int .u64 0, .int .u64 0, .int .u64 0] 26)
       replace L := L.trans (hb.mono L.size)
       have C : Blk (x1.alloc (.cells #[.int .u64 0, .int .u64 0, .int .u64 0, .int .u64 0] 26)) x1.heap.size 26 #[.int .u64 0, .int .u64 0, .int .u64 0, .int .u64 0] := Blk.new x1 _ _
       clear hb
       generalize (x1.alloc (.cells #[.int .u64 0, .int .u64 0, .int .u64 0, .int .u64 0] 26)) = x2 at L C ⊢
       have eC := C.four
       go_wp2_with fail
       (with_reducible refine (rf_no at' n _ HH.out.1).mono ?_)
       rintro e x3 ⟨rfl, hb⟩
       replace L := L.trans (hb.mono L.size)
       replace C := C.on hb
       clear hb eC
       have eC := C.four
       go_wp2_with fail
       (with_reducible refine (awake2_c _).mono ?_)
       rintro e x4 ⟨rfl, hb⟩
       replace L := L.trans (hb.mono L.size)
       replace C := C.on hb
       clear hb eC
       have eC := C.four
       go_wp2
       go_ret
       exact ⟨rfl, L⟩

set_option maxRecDepth 100000 in
set_option maxHeartbeats 8000000 in
theorem fields_over (a n : Nat) (len : Int) (v ah al bh bm : BitVec 64) (w : World) (hn : a + n ≤ 128) (h64 : n ≤ 64) (hv : uv (low n) < uv v) :
    Calls Try.prog 6 #[.int .i64 a, .int .i64 n, .int .u64 (uv v), .int .i64 len, .agg #[.int .u64 (uv ah), .int .u64 (uv al)], .agg #[.int .u64 (uv bh), .int .u64 (uv bm)]] w fun e w' => e = .returned (.bool true) ∧ Below w.heap.size w w' := by
  have HV := Lib.hid hv
  clear hv
  have hz := zero25
  have hi1 : ∀ f : Nat → Bool, (Try.prog.info? 43).map (·.size) = some (bl f).length := fun f => by rw [(zero_of_info info25).2, bl_len]
  have HI1 := Lib.hid hi1
  clear hi1
  have S0 : Below w.heap.size w ((w.alloc (.cells #[.int .u64 (uv ah), .int .u64 (uv al)] 24)).alloc (.cells #[.int .u64 (uv bh), .int .u64 (uv bm)] 24)) ∧ ((w.alloc (.cells #[.int .u64 (uv ah), .int .u64 (uv al)] 24)).alloc (.cells #[.int .u64 (uv bh), .int .u64 (uv bm)] 24)).cell? ⟨w.heap.size + 1, 0, none⟩ = some (.int .u64 (uv bh)) ∧ ((w.alloc (.cells #[.int .u64 (uv ah), .int .u64 (uv al)] 24)).alloc (.cells #[.int .u64 (uv bh), .int .u64 (uv bm)] 24)).cell? ⟨w.heap.size + 1, 1, none⟩ = some (.int .u64 (uv bm)) ∧ ((w.alloc (.cells #[.int .u64 (uv ah), .int .u64 (uv al)] 24)).alloc (.cells #[.int .u64 (uv bh), .int .u64 (uv bm)] 24)).cell? ⟨w.heap.size, 0, none⟩ = some (.int .u64 (uv ah)) ∧ ((w.alloc (.cells #[.int .u64 (uv ah), .int .u64 (uv al)] 24)).alloc (.cells #[.int .u64 (uv bh), .int .u64 (uv bm)] 24)).cell? ⟨w.heap.size, 1, none⟩ = some (.int .u64 (uv al)) := ⟨below2 w (.cells #[.int .u64 (uv ah), .int .u64 (uv al)] 24) (.cells #[.int .u64 (uv bh), .int .u64 (uv bm)] 24), by go_simp, by go_simp, by go_simp, by go_simp⟩
  go_enter Try.func6, Try.ntmps6
  go_upto_region 1 with (fail)
  refine fld_region _ _ _ _ ah al bh bm w _ _ ?_ ?_ S0
  · intro c a t v w h; exact h
  · intro bx by' u SC RX RY gx gy nxy
    clear S0 hz
    go_wp2_with fail
    go_loopg [15] 128 (fun g i wr => ∃ k : Nat, k ≤ 128 ∧ g = 128 - k ∧ i = .int .i64 k ∧ (Below w.heap.size w wr ∧ wr.cell? ⟨w.heap.size + 1, 0, none⟩ = some (.int .u64 (uv bh)) ∧ wr.cell? ⟨w.heap.size + 1, 1, none⟩ = some (.int .u64 (uv bm)) ∧ wr.cell? ⟨w.heap.size, 0, none⟩ = some (.int .u64 (uv ah)) ∧ wr.cell? ⟨w.heap.size, 1, none⟩ = some (.int .u64 (uv al))) ∧ Row wr bx (mix (hbit ah al) (fun j => hbit ah al j && hbit bh bm j) k) ∧ Row wr by' (hbit bh bm))
    case atStart => exact ⟨0, by omega, rfl, rfl, SC, by rw [mix_zero]; exact RX, RY⟩
    case round =>
     clear SC RX RY
     obtain ⟨k, hk, rfl, rfl, SC, RX, RY⟩ := hrel
     by_cases hlt : k < 128
     · have hlt' : (k : Int) < 128 := by omega
       have cx := RX.cell hlt
       have fx := RX.froz hlt
       have cy := RY.cell hlt
       have em : mix (hbit ah al) (fun j => hbit ah al j && hbit bh bm j) k k = hbit ah al k := by unfold mix; rw [if_neg (by omega)]
       rw [em] at cx
       clear em
       have SK := fun x => shold4 (sets1 wr bx k x) SC (by omega) (by dsimp only; omega) (by dsimp only; omega) (by dsimp only; omega) (by dsimp only; omega)
       have HSK := Lib.hid SK
       clear SK SC
       cases hA : hbit ah al k <;> cases hB : hbit bh bm k
       all_goals (
         rw [hA] at cx; rw [hB] at cy
         have HAB := Lib.hid (And.intro hA hB)
         clear hA hB
         go_wp2
         go_roundg (128 - (k + 1)))
       all_goals first
         | omega
         | exact ⟨k + 1, by omega, rfl, by go_num, HSK.out _, RX.set hlt (mix_set _ _ k _ (by rw [HAB.out.1, HAB.out.2]; rfl)), RY.far nxy⟩
     · obtain rfl : k = 128 := by omega
       have hi1 := HI1.out
       have RR := (RX.congr (mix_all _ _)).1
       clear RX RY
       go_wp2_with fail
       refine wp_region_held_drew (S := fun w' => (Below w.heap.size w w' ∧ w'.cell? ⟨w.heap.size + 1, 0, none⟩ = some (.int .u64 (uv bh)) ∧ w'.cell? ⟨w.heap.size + 1, 1, none⟩ = some (.int .u64 (uv bm)) ∧ w'.cell? ⟨w.heap.size, 0, none⟩ = some (.int .u64 (uv ah)) ∧ w'.cell? ⟨w.heap.size, 1, none⟩ = some (.int .u64 (uv al))) ∧ w'.rangeAt bx 0 (bl (fun j => hbit ah al j && hbit bh bm j))) (by kernel_rfl) ⟨⟨SC.1.drew, SC.2⟩, RR⟩ (fun hHeld => ?_)
       clear SC RR
       refine wpAnyH_take (i := 0) (oi := ⟨some 39, _, _, _, _, _⟩) (v := ?vs0) rfl (by kernel_rfl) (by kernel_rfl) (by kernel_rfl) (fun _ _ _ h => h) (Or.inl ⟨by rfl, ?ys0⟩) hHeld ?rs0
       case ys0 => (intro w' hSw; (try dsimp only at hSw); go_simp; try (with_reducible rfl))
       simp only [Act.put, List.setIfInBounds_toArray, List.set_cons_zero, List.set_cons_succ]
       refine wpAnyH_take (i := 1) (oi := ⟨some 40, _, _, _, _, _⟩) (v := ?vs1) rfl (by kernel_rfl) (by kernel_rfl) (by kernel_rfl) (fun _ _ _ h => h) (Or.inl ⟨by rfl, ?ys1⟩) hHeld ?rs1
       case ys1 => (intro w' hSw; (try dsimp only at hSw); go_simp; try (with_reducible rfl))
       simp only [Act.put, List.setIfInBounds_toArray, List.set_cons_zero, List.set_cons_succ]
       refine wpAnyH_take (i := 3) (oi := ⟨some 42, _, _, _, _, _⟩) (v := .agg (bl (fun j => hbit ah al j && hbit bh bm j)).toArray) rfl (by kernel_rfl) (by kernel_rfl) (by kernel_rfl) (fun _ _ _ h => h) (yieldsIf_load_mid (by rfl) 43 _ rfl bx 0 rfl (bl (fun j => hbit ah al j && hbit bh bm j)) _ (fun _ hw => hw.2) Try.underlying43 rfl (hi1 _)) hHeld ?_
       simp only [Act.put, List.setIfInBounds_toArray, List.set_cons_zero, List.set_cons_succ]
       refine wpAnyH_take (i := 5) (oi := ⟨some 44, _, _, _, _, _⟩) (v := ?vs5) rfl (by kernel_rfl) (by kernel_rfl) (by kernel_rfl) (fun _ _ _ h => h) (Or.inl ⟨by rfl, ?ys5⟩) hHeld ?rs5
       case ys5 => (intro w' hSw; (try dsimp only at hSw); go_simp; try (with_reducible rfl))
       simp only [Act.put, List.setIfInBounds_toArray, List.set_cons_zero, List.set_cons_succ]
       refine wpAnyH_ready (rs := [2]) (by kernel_rfl) (by simp) ?_
       refine AllReadyH.cons (o := ⟨some 41, _, _, _, _, _⟩) rfl (fun K hK => ?_) AllReadyH.nil
       go_simp
       (with_reducible refine (make_c _ _ _ _ _).mono ?_)
       rintro e wq2 ⟨rfl, hb⟩
       (try dsimp only)
       refine hK.out _ _ (⟨hold4 hb hHeld.1, range_on hb hHeld.2⟩) (fun hNext => ?_)
       clear hK K hHeld hb
       have hHeld := hNext
       clear hNext
       try simp only [Act.put, List.setIfInBounds_toArray, List.set_cons_zero, List.set_cons_succ]
       refine wpAnyH_ready (rs := [4]) (by kernel_rfl) (by simp) ?_
       refine AllReadyH.cons (o := ⟨some 43, _, _, _, _, _⟩) rfl (fun K hK => ?_) AllReadyH.nil
       go_simp
       (with_reducible refine (rhead_is (fun j => hbit ah al j && hbit bh bm j) (ah &&& bh) (al &&& bm) _ (and_num ah al bh bm)).mono ?_)
       rintro e wq4 ⟨rfl, hb⟩
       (try dsimp only)
       refine hK.out _ _ (⟨hold4 hb hHeld.1, range_on hb hHeld.2⟩) (fun hNext => ?_)
       clear hK K hHeld hb
       have hHeld := hNext
       clear hNext
       try simp only [Act.put, List.setIfInBounds_toArray, List.set_cons_zero, List.set_cons_succ]
       refine wpAnyH_take (i := 6) (oi := ⟨some 45, _, _, _, _, _⟩) (v := ?vs6) rfl (by kernel_rfl) (by kernel_rfl) (by kernel_rfl) (fun _ _ _ h => h) (Or.inl ⟨by rfl, ?ys6⟩) hHeld ?rs6
       case ys6 => (intro w' hSw; (try dsimp only at hSw); go_simp; try (with_reducible rfl))
       simp only [Act.put, List.setIfInBounds_toArray, List.set_cons_zero, List.set_cons_succ]
       refine wpAnyH_take (i := 7) (oi := ⟨some 46, _, _, _, _, _⟩) (v := ?vs7) rfl (by kernel_rfl) (by kernel_rfl) (by kernel_rfl) (fun _ _ _ h => h) (Or.inl ⟨by rfl, ?ys7⟩) hHeld ?rs7
       case ys7 => (intro w' hSw; (try dsimp only at hSw); go_simp; try (with_reducible rfl))
       simp only [Act.put, List.setIfInBounds_toArray, List.set_cons_zero, List.set_cons_succ]
       refine wpAnyH_take (i := 8) (oi := ⟨some 47, _, _, _, _, _⟩) (v := ?vs8) rfl (by kernel_rfl) (by kernel_rfl) (by kernel_rfl) (fun _ _ _ h => h) (Or.inl ⟨by rfl, ?ys8⟩) hHeld ?rs8
       case ys8 => (intro w' hSw; (try dsimp only at hSw); go_simp; try (with_reducible rfl))
       simp only [Act.put, List.setIfInBounds_toArray, List.set_cons_zero, List.set_cons_succ]
       refine wpAnyH_take (i := 10) (oi := ⟨some 49, _, _, _, _, _⟩) (v := ?vs10) rfl (by kernel_rfl) (by kernel_rfl) (by kernel_rfl) (fun _ _ _ h => h) (Or.inl ⟨by rfl, ?ys10⟩) hHeld ?rs10
       case ys10 => (intro w' hSw; (try dsimp only at hSw); go_simp; try (with_reducible rfl))
       simp only [Act.put, List.setIfInBounds_toArray, List.set_cons_zero, List.set_cons_succ]
       refine wpAnyH_ready (rs := [9]) (by kernel_rfl) (by simp) ?_
       refine AllReadyH.cons (o := ⟨some 48, _, _, _, _, _⟩) rfl (fun K hK => ?_) AllReadyH.nil
       go_simp
       (with_reducible refine (all_u _).mono ?_)
       rintro e wq9 ⟨rfl, hb⟩
       (try dsimp only)
       refine hK.out _ _ (⟨hold4 hb hHeld.1, range_on hb hHeld.2⟩) (fun hNext => ?_)
       clear hK K hHeld hb
       have hHeld := hNext
       clear hNext
       try simp only [Act.put, List.setIfInBounds_toArray, List.set_cons_zero, List.set_cons_succ]
       refine wpAnyH_take (i := 11) (oi := ⟨some 50, _, _, _, _, _⟩) (v := ?vs11) rfl (by kernel_rfl) (by kernel_rfl) (by kernel_rfl) (fun _ _ _ h => h) (Or.inl ⟨by rfl, ?ys11⟩) hHeld ?rs11
       case ys11 => (intro w' hSw; (try dsimp only at hSw); go_simp; try (with_reducible rfl))
       simp only [Act.put, List.setIfInBounds_toArray, List.set_cons_zero, List.set_cons_succ]
       refine wpAnyH_take (i := 12) (oi := ⟨some 51, _, _, _, _, _⟩) (v := ?vs12) rfl (by kernel_rfl) (by kernel_rfl) (by kernel_rfl) (fun _ _ _ h => h) (Or.inl ⟨by rfl, ?ys12⟩) hHeld ?rs12
       case ys12 => (intro w' hSw; (try dsimp only at hSw); go_simp; try (with_reducible rfl))
       simp only [Act.put, List.setIfInBounds_toArray, List.set_cons_zero, List.set_cons_succ]
       refine wpAnyH_done (by kernel_rfl) ?_ _
       have L := hHeld.1.1
       clear hHeld hi1
       go_wp2_with fail
       (with_reducible refine (fld_over a n len v _ hn h64 HV.out).mono ?_)
       rintro e x1 ⟨rfl, hb⟩
       replace L := L.trans (hb.mono L.size)
       clear hb
       go_upto_region 9 with (fail)
       have hb := below1 x1 (.cells #[.int .u64 0, .int .u64 0, .int .u64 0, .int .u64 0] 26)
       replace L := L.trans (hb.mono L.size)
       have C : Blk (x1.alloc (.cells #[.int .u64 0, .int .u64 0, .int .u64 0, .int .u64 0] 26)) x1.heap.size 26 #[.int .u64 0, .int .u64 0, .int .u64 0, .int .u64 0] := Blk.new x1 _ _
       clear hb
       generalize (x1.alloc (.cells #[.int .u64 0, .int .u64 0, .int .u64 0, .int .u64 0] 26)) = x2 at L C ⊢
       have eC := C.four
       go_wp2_with fail
       (with_reducible refine (rf_yes a n _ hn h64).mono ?_)
       rintro e x3 ⟨rfl, hb⟩
       replace L := L.trans (hb.mono L.size)
       replace C := C.on hb
       clear hb eC
       have eC := C.four
       have os := over_small v n h64 HV.out
       have o1 : (n : Int) < 64 := by have := os.1; omega
       have o2 := os.2
       clear os
       go_wp2_with fail
       (with_reducible refine (awake2_c _).mono ?_)
       rintro e x4 ⟨rfl, hb⟩
       replace L := L.trans (hb.mono L.size)
       replace C := C.on hb
       clear hb eC
       have eC := C.four
       go_wp2
       go_ret
       exact ⟨rfl, L⟩

set_option maxRecDepth 100000 in
set_option maxHeartbeats 8000000 in
theorem fields_lenas (a n : Nat) (len : Int) (v ah al bh bm : BitVec 64) (w : World) (hn : a + n ≤ 128) (h64 : n ≤ 64) (hv : ¬ uv (low n) < uv v) (hl : len < 0) (h3 : n < 64) :
    Calls Try.prog 6 #[.int .i64 a, .int .i64 n, .int .u64 (uv v), .int .i64 len, .agg #[.int .u64 (uv ah), .int .u64 (uv al)], .agg #[.int .u64 (uv bh), .int .u64 (uv bm)]] w fun e w' => e = .returned (.bool true) ∧ Below w.heap.size w w' := by
  have HV := Lib.hid hv
  have HL := Lib.hid hl
  have H3 := Lib.hid h3
  clear hv hl h3
  have hz := zero25
  have hi1 : ∀ f : Nat → Bool, (Try.prog.info? 43).map (·.size) = some (bl f).length := fun f => by rw [(zero_of_info info25).2, bl_len]
  have HI1 := Lib.hid hi1
  clear hi1
  have S0 : Below w.heap.size w ((w.alloc (.cells #[.int .u64 (uv ah), .int .u64 (uv al)] 24)).alloc (.cells #[.int .u64 (uv bh), .int .u64 (uv bm)] 24)) ∧ ((w.alloc (.cells #[.int .u64 (uv ah), .int .u64 (uv al)] 24)).alloc (.cells #[.int .u64 (uv bh), .int .u64 (uv bm)] 24)).cell? ⟨w.heap.size + 1, 0, none⟩ = some (.int .u64 (uv bh)) ∧ ((w.alloc (.cells #[.int .u64 (uv ah), .int .u64 (uv al)] 24)).alloc (.cells #[.int .u64 (uv bh), .int .u64 (uv bm)] 24)).cell? ⟨w.heap.size + 1, 1, none⟩ = some (.int .u64 (uv bm)) ∧ ((w.alloc (.cells #[.int .u64 (uv ah), .int .u64 (uv al)] 24)).alloc (.cells #[.int .u64 (uv bh), .int .u64 (uv bm)] 24)).cell? ⟨w.heap.size, 0, none⟩ = some (.int .u64 (uv ah)) ∧ ((w.alloc (.cells #[.int .u64 (uv ah), .int .u64 (uv al)] 24)).alloc (.cells #[.int .u64 (uv bh), .int .u64 (uv bm)] 24)).cell? ⟨w.heap.size, 1, none⟩ = some (.int .u64 (uv al)) := ⟨below2 w (.cells #[.int .u64 (uv ah), .int .u64 (uv al)] 24) (.cells #[.int .u64 (uv bh), .int .u64 (uv bm)] 24), by go_simp, by go_simp, by go_simp, by go_simp⟩
  go_enter Try.func6, Try.ntmps6
  go_upto_region 1 with (fail)
  refine fld_region _ _ _ _ ah al bh bm w _ _ ?_ ?_ S0
  · intro c a t v w h; exact h
  · intro bx by' u SC RX RY gx gy nxy
    clear S0 hz
    go_wp2_with fail
    go_loopg [15] 128 (fun g i wr => ∃ k : Nat, k ≤ 128 ∧ g = 128 - k ∧ i = .int .i64 k ∧ (Below w.heap.size w wr ∧ wr.cell? ⟨w.heap.size + 1, 0, none⟩ = some (.int .u64 (uv bh)) ∧ wr.cell? ⟨w.heap.size + 1, 1, none⟩ = some (.int .u64 (uv bm)) ∧ wr.cell? ⟨w.heap.size, 0, none⟩ = some (.int .u64 (uv ah)) ∧ wr.cell? ⟨w.heap.size, 1, none⟩ = some (.int .u64 (uv al))) ∧ Row wr bx (mix (hbit ah al) (fun j => hbit ah al j && hbit bh bm j) k) ∧ Row wr by' (hbit bh bm))
    case atStart => exact ⟨0, by omega, rfl, rfl, SC, by rw [mix_zero]; exact RX, RY⟩
    case round =>
     clear SC RX RY
     obtain ⟨k, hk, rfl, rfl, SC, RX, RY⟩ := hrel
     by_cases hlt : k < 128
     · have hlt' : (k : Int) < 128 := by omega
       have cx := RX.cell hlt
       have fx := RX.froz hlt
       have cy := RY.cell hlt
       have em : mix (hbit ah al) (fun j => hbit ah al j && hbit bh bm j) k k = hbit ah al k := by unfold mix; rw [if_neg (by omega)]
       rw [em] at cx
       clear em
       have SK := fun x => shold4 (sets1 wr bx k x) SC (by omega) (by dsimp only; omega) (by dsimp only; omega) (by dsimp only; omega) (by dsimp only; omega)
       have HSK := Lib.hid SK
       clear SK SC
       cases hA : hbit ah al k <;> cases hB : hbit bh bm k
       all_goals (
         rw [hA] at cx; rw [hB] at cy
         have HAB := Lib.hid (And.intro hA hB)
         clear hA hB
         go_wp2
         go_roundg (128 - (k + 1)))
       all_goals first
         | omega
         | exact ⟨k + 1, by omega, rfl, by go_num, HSK.out _, RX.set hlt (mix_set _ _ k _ (by rw [HAB.out.1, HAB.out.2]; rfl)), RY.far nxy⟩
     · obtain rfl : k = 128 := by omega
       have hi1 := HI1.out
       have RR := (RX.congr (mix_all _ _)).1
       clear RX RY
       go_wp2_with fail
       refine wp_region_held_drew (S := fun w' => (Below w.heap.size w w' ∧ w'.cell? ⟨w.heap.size + 1, 0, none⟩ = some (.int .u64 (uv bh)) ∧ w'.cell? ⟨w.heap.size + 1, 1, none⟩ = some (.int .u64 (uv bm)) ∧ w'.cell? ⟨w.heap.size, 0, none⟩ = some (.int .u64 (uv ah)) ∧ w'.cell? ⟨w.heap.size, 1, none⟩ = some (.int .u64 (uv al))) ∧ w'.rangeAt bx 0 (bl (fun j => hbit ah al j && hbit bh bm j))) (by kernel_rfl) ⟨⟨SC.1.drew, SC.2⟩, RR⟩ (fun hHeld => ?_)
       clear SC RR
       refine wpAnyH_take (i := 0) (oi := ⟨some 39, _, _, _, _, _⟩) (v := ?vs0) rfl (by kernel_rfl) (by kernel_rfl) (by kernel_rfl) (fun _ _ _ h => h) (Or.inl ⟨by rfl, ?ys0⟩) hHeld ?rs0
       case ys0 => (intro w' hSw; (try dsimp only at hSw); go_simp; try (with_reducible rfl))
       simp only [Act.put, List.setIfInBounds_toArray, List.set_cons_zero, List.set_cons_succ]
       refine wpAnyH_take (i := 1) (oi := ⟨some 40, _, _, _, _, _⟩) (v := ?vs1) rfl (by kernel_rfl) (by kernel_rfl) (by kernel_rfl) (fun _ _ _ h => h) (Or.inl ⟨by rfl, ?ys1⟩) hHeld ?rs1
       case ys1 => (intro w' hSw; (try dsimp only at hSw); go_simp; try (with_reducible rfl))
       simp only [Act.put, List.setIfInBounds_toArray, List.set_cons_zero, List.set_cons_succ]
       refine wpAnyH_take (i := 3) (oi := ⟨some 42, _, _, _, _, _⟩) (v := .agg (bl (fun j => hbit ah al j && hbit bh bm j)).toArray) rfl (by kernel_rfl) (by kernel_rfl) (by kernel_rfl) (fun _ _ _ h => h) (yieldsIf_load_mid (by rfl) 43 _ rfl bx 0 rfl (bl (fun j => hbit ah al j && hbit bh bm j)) _ (fun _ hw => hw.2) Try.underlying43 rfl (hi1 _)) hHeld ?_
       simp only [Act.put, List.setIfInBounds_toArray, List.set_cons_zero, List.set_cons_succ]
       refine wpAnyH_take (i := 5) (oi := ⟨some 44, _, _, _, _, _⟩) (v := ?vs5) rfl (by kernel_rfl) (by kernel_rfl) (by kernel_rfl) (fun _ _ _ h => h) (Or.inl ⟨by rfl, ?ys5⟩) hHeld ?rs5
       case ys5 => (intro w' hSw; (try dsimp only at hSw); go_simp; try (with_reducible rfl))
       simp only [Act.put, List.setIfInBounds_toArray, List.set_cons_zero, List.set_cons_succ]
       refine wpAnyH_ready (rs := [2]) (by kernel_rfl) (by simp) ?_
       refine AllReadyH.cons (o := ⟨some 41, _, _, _, _, _⟩) rfl (fun K hK => ?_) AllReadyH.nil
       go_simp
       (with_reducible refine (make_c _ _ _ _ _).mono ?_)
       rintro e wq2 ⟨rfl, hb⟩
       (try dsimp only)
       refine hK.out _ _ (⟨hold4 hb hHeld.1, range_on hb hHeld.2⟩) (fun hNext => ?_)
       clear hK K hHeld hb
       have hHeld := hNext
       clear hNext
       try simp only [Act.put, List.setIfInBounds_toArray, List.set_cons_zero, List.set_cons_succ]
       refine wpAnyH_ready (rs := [4]) (by kernel_rfl) (by simp) ?_
       refine AllReadyH.cons (o := ⟨some 43, _, _, _, _, _⟩) rfl (fun K hK => ?_) AllReadyH.nil
       go_simp
       (with_reducible refine (rhead_is (fun j => hbit ah al j && hbit bh bm j) (ah &&& bh) (al &&& bm) _ (and_num ah al bh bm)).mono ?_)
       rintro e wq4 ⟨rfl, hb⟩
       (try dsimp only)
       refine hK.out _ _ (⟨hold4 hb hHeld.1, range_on hb hHeld.2⟩) (fun hNext => ?_)
       clear hK K hHeld hb
       have hHeld := hNext
       clear hNext
       try simp only [Act.put, List.setIfInBounds_toArray, List.set_cons_zero, List.set_cons_succ]
       refine wpAnyH_take (i := 6) (oi := ⟨some 45, _, _, _, _, _⟩) (v := ?vs6) rfl (by kernel_rfl) (by kernel_rfl) (by kernel_rfl) (fun _ _ _ h => h) (Or.inl ⟨by rfl, ?ys6⟩) hHeld ?rs6
       case ys6 => (intro w' hSw; (try dsimp only at hSw); go_simp; try (with_reducible rfl))
       simp only [Act.put, List.setIfInBounds_toArray, List.set_cons_zero, List.set_cons_succ]
       refine wpAnyH_take (i := 7) (oi := ⟨some 46, _, _, _, _, _⟩) (v := ?vs7) rfl (by kernel_rfl) (by kernel_rfl) (by kernel_rfl) (fun _ _ _ h => h) (Or.inl ⟨by rfl, ?ys7⟩) hHeld ?rs7
       case ys7 => (intro w' hSw; (try dsimp only at hSw); go_simp; try (with_reducible rfl))
       simp only [Act.put, List.setIfInBounds_toArray, List.set_cons_zero, List.set_cons_succ]
       refine wpAnyH_take (i := 8) (oi := ⟨some 47, _, _, _, _, _⟩) (v := ?vs8) rfl (by kernel_rfl) (by kernel_rfl) (by kernel_rfl) (fun _ _ _ h => h) (Or.inl ⟨by rfl, ?ys8⟩) hHeld ?rs8
       case ys8 => (intro w' hSw; (try dsimp only at hSw); go_simp; try (with_reducible rfl))
       simp only [Act.put, List.setIfInBounds_toArray, List.set_cons_zero, List.set_cons_succ]
       refine wpAnyH_take (i := 10) (oi := ⟨some 49, _, _, _, _, _⟩) (v := ?vs10) rfl (by kernel_rfl) (by kernel_rfl) (by kernel_rfl) (fun _ _ _ h => h) (Or.inl ⟨by rfl, ?ys10⟩) hHeld ?rs10
       case ys10 => (intro w' hSw; (try dsimp only at hSw); go_simp; try (with_reducible rfl))
       simp only [Act.put, List.setIfInBounds_toArray, List.set_cons_zero, List.set_cons_succ]
       refine wpAnyH_ready (rs := [9]) (by kernel_rfl) (by simp) ?_
       refine AllReadyH.cons (o := ⟨some 48, _, _, _, _, _⟩) rfl (fun K hK => ?_) AllReadyH.nil
       go_simp
       (with_reducible refine (all_u _).mono ?_)
       rintro e wq9 ⟨rfl, hb⟩
       (try dsimp only)
       refine hK.out _ _ (⟨hold4 hb hHeld.1, range_on hb hHeld.2⟩) (fun hNext => ?_)
       clear hK K hHeld hb
       have hHeld := hNext
       clear hNext
       try simp only [Act.put, List.setIfInBounds_toArray, List.set_cons_zero, List.set_cons_succ]
       refine wpAnyH_take (i := 11) (oi := ⟨some 50, _, _, _, _, _⟩) (v := ?vs11) rfl (by kernel_rfl) (by kernel_rfl) (by kernel_rfl) (fun _ _ _ h => h) (Or.inl ⟨by rfl, ?ys11⟩) hHeld ?rs11
       case ys11 => (intro w' hSw; (try dsimp only at hSw); go_simp; try (with_reducible rfl))
       simp only [Act.put, List.setIfInBounds_toArray, List.set_cons_zero, List.set_cons_succ]
       refine wpAnyH_take (i := 12) (oi := ⟨some 51, _, _, _, _, _⟩) (v := ?vs12) rfl (by kernel_rfl) (by kernel_rfl) (by kernel_rfl) (fun _ _ _ h => h) (Or.inl ⟨by rfl, ?ys12⟩) hHeld ?rs12
       case ys12 => (intro w' hSw; (try dsimp only at hSw); go_simp; try (with_reducible rfl))
       simp only [Act.put, List.setIfInBounds_toArray, List.set_cons_zero, List.set_cons_succ]
       refine wpAnyH_done (by kernel_rfl) ?_ _
       have L := hHeld.1.1
       clear hHeld hi1
       go_wp2_with fail
       (with_reducible refine (cfield_len a n len v _ hn h64 (by have := HV.out; omega) (Or.inl HL.out)).mono ?_)
       rintro e x1 ⟨rfl, hb⟩
       replace L := L.trans (hb.mono L.size)
       clear hb
       go_upto_region 9 with (fail)
       have hb := below1 x1 (.cells #[.int .u64 0, .int .u64 0, .int .u64 0, .int .u64 0] 26)
       replace L := L.trans (hb.mono L.size)
       have C : Blk (x1.alloc (.cells #[.int .u64 0, .int .u64 0, .int .u64 0, .int .u64 0] 26)) x1.heap.size 26 #[.int .u64 0, .int .u64 0, .int .u64 0, .int .u64 0] := Blk.new x1 _ _
       clear hb
       generalize (x1.alloc (.cells #[.int .u64 0, .int .u64 0, .int .u64 0, .int .u64 0] 26)) = x2 at L C ⊢
       have eC := C.four
       go_wp2_with fail
       (with_reducible refine (rf_yes a n _ hn h64).mono ?_)
       rintro e x3 ⟨rfl, hb⟩
       replace L := L.trans (hb.mono L.size)
       replace C := C.on hb
       clear hb eC
       have eC := C.four
       have hl := HL.out
       have o1 : (n : Int) < 64 := by have := H3.out; omega
       have o2 := fit_small v n h64 (by have := HV.out; omega)
       go_wp2_with fail
       (with_reducible refine (awake2_c _).mono ?_)
       rintro e x4 ⟨rfl, hb⟩
       replace L := L.trans (hb.mono L.size)
       replace C := C.on hb
       clear hb eC
       have eC := C.four
       go_wp2
       go_ret
       exact ⟨rfl, L⟩

set_option maxRecDepth 100000 in
set_option maxHeartbeats 8000000 in
theorem fields_lenag (a n : Nat) (len : Int) (v ah al bh bm : BitVec 64) (w : World) (hn : a + n ≤ 128) (h64 : n ≤ 64) (hv : ¬ uv (low n) < uv v) (hl : len < 0) (h3 : n = 64) :
    Calls Try.prog 6 #[.int .i64 a, .int .i64 n, .int .u64 (uv v), .int .i64 len, .agg #[.int .u64 (uv ah), .int .u64 (uv al)], .agg #[.int .u64 (uv bh), .int .u64 (uv bm)]] w fun e w' => e = .returned (.bool true) ∧ Below w.heap.size w w' := by
  have HV := Lib.hid hv
  have HL := Lib.hid hl
  have H3 := Lib.hid h3
  clear hv hl h3
  have hz := zero25
  have hi1 : ∀ f : Nat → Bool, (Try.prog.info? 43).map (·.size) = some (bl f).length := fun f => by rw [(zero_of_info info25).2, bl_len]
  have HI1 := Lib.hid hi1
  clear hi1
  have S0 : Below w.heap.size w ((w.alloc (.cells #[.int .u64 (uv ah), .int .u64 (uv al)] 24)).alloc (.cells #[.int .u64 (uv bh), .int .u64 (uv bm)] 24)) ∧ ((w.alloc (.cells #[.int .u64 (uv ah), .int .u64 (uv al)] 24)).alloc (.cells #[.int .u64 (uv bh), .int .u64 (uv bm)] 24)).cell? ⟨w.heap.size + 1, 0, none⟩ = some (.int .u64 (uv bh)) ∧ ((w.alloc (.cells #[.int .u64 (uv ah), .int .u64 (uv al)] 24)).alloc (.cells #[.int .u64 (uv bh), .int .u64 (uv bm)] 24)).cell? ⟨w.heap.size + 1, 1, none⟩ = some (.int .u64 (uv bm)) ∧ ((w.alloc (.cells #[.int .u64 (uv ah), .int .u64 (uv al)] 24)).alloc (.cells #[.int .u64 (uv bh), .int .u64 (uv bm)] 24)).cell? ⟨w.heap.size, 0, none⟩ = some (.int .u64 (uv ah)) ∧ ((w.alloc (.cells #[.int .u64 (uv ah), .int .u64 (uv al)] 24)).alloc (.cells #[.int .u64 (uv bh), .int .u64 (uv bm)] 24)).cell? ⟨w.heap.size, 1, none⟩ = some (.int .u64 (uv al)) := ⟨below2 w (.cells #[.int .u64 (uv ah), .int .u64 (uv al)] 24) (.cells #[.int .u64 (uv bh), .int .u64 (uv bm)] 24), by go_simp, by go_simp, by go_simp, by go_simp⟩
  go_enter Try.func6, Try.ntmps6
  go_upto_region 1 with (fail)
  refine fld_region _ _ _ _ ah al bh bm w _ _ ?_ ?_ S0
  · intro c a t v w h; exact h
  · intro bx by' u SC RX RY gx gy nxy
    clear S0 hz
    go_wp2_with fail
    go_loopg [15] 128 (fun g i wr => ∃ k : Nat, k ≤ 128 ∧ g = 128 - k ∧ i = .int .i64 k ∧ (Below w.heap.size w wr ∧ wr.cell? ⟨w.heap.size + 1, 0, none⟩ = some (.int .u64 (uv bh)) ∧ wr.cell? ⟨w.heap.size + 1, 1, none⟩ = some (.int .u64 (uv bm)) ∧ wr.cell? ⟨w.heap.size, 0, none⟩ = some (.int .u64 (uv ah)) ∧ wr.cell? ⟨w.heap.size, 1, none⟩ = some (.int .u64 (uv al))) ∧ Row wr bx (mix (hbit ah al) (fun j => hbit ah al j && hbit bh bm j) k) ∧ Row wr by' (hbit bh bm))
    case atStart => exact ⟨0, by omega, rfl, rfl, SC, by rw [mix_zero]; exact RX, RY⟩
    case round =>
     clear SC RX RY
     obtain ⟨k, hk, rfl, rfl, SC, RX, RY⟩ := hrel
     by_cases hlt : k < 128
     · have hlt' : (k : Int) < 128 := by omega
       have cx := RX.cell hlt
       have fx := RX.froz hlt
       have cy := RY.cell hlt
       have em : mix (hbit ah al) (fun j => hbit ah al j && hbit bh bm j) k k = hbit ah al k := by unfold mix; rw [if_neg (by omega)]
       rw [em] at cx
       clear em
       have SK := fun x => shold4 (sets1 wr bx k x) SC (by omega) (by dsimp only; omega) (by dsimp only; omega) (by dsimp only; omega) (by dsimp only; omega)
       have HSK := Lib.hid SK
       clear SK SC
       cases hA : hbit ah al k <;> cases hB : hbit bh bm k
       all_goals (
         rw [hA] at cx; rw [hB] at cy
         have HAB := Lib.hid (And.intro hA hB)
         clear hA hB
         go_wp2
         go_roundg (128 - (k + 1)))
       all_goals first
         | omega
         | exact ⟨k + 1, by omega, rfl, by go_num, HSK.out _, RX.set hlt (mix_set _ _ k _ (by rw [HAB.out.1, HAB.out.2]; rfl)), RY.far nxy⟩
     · obtain rfl : k = 128 := by omega
       have hi1 := HI1.out
       have RR := (RX.congr (mix_all _ _)).1
       clear RX RY
       go_wp2_with fail
       refine wp_region_held_drew (S := fun w' => (Below w.heap.size w w' ∧ w'.cell? ⟨w.heap.size + 1, 0, none⟩ = some (.int .u64 (uv bh)) ∧ w'.cell? ⟨w.heap.size + 1, 1, none⟩ = some (.int .u64 (uv bm)) ∧ w'.cell? ⟨w.heap.size, 0, none⟩ = some (.int .u64 (uv ah)) ∧ w'.cell? ⟨w.heap.size, 1, none⟩ = some (.int .u64 (uv al))) ∧ w'.rangeAt bx 0 (bl (fun j => hbit ah al j && hbit bh bm j))) (by kernel_rfl) ⟨⟨SC.1.drew, SC.2⟩, RR⟩ (fun hHeld => ?_)
       clear SC RR
       refine wpAnyH_take (i := 0) (oi := ⟨some 39, _, _, _, _, _⟩) (v := ?vs0) rfl (by kernel_rfl) (by kernel_rfl) (by kernel_rfl) (fun _ _ _ h => h) (Or.inl ⟨by rfl, ?ys0⟩) hHeld ?rs0
       case ys0 => (intro w' hSw; (try dsimp only at hSw); go_simp; try (with_reducible rfl))
       simp only [Act.put, List.setIfInBounds_toArray, List.set_cons_zero, List.set_cons_succ]
       refine wpAnyH_take (i := 1) (oi := ⟨some 40, _, _, _, _, _⟩) (v := ?vs1) rfl (by kernel_rfl) (by kernel_rfl) (by kernel_rfl) (fun _ _ _ h => h) (Or.inl ⟨by rfl, ?ys1⟩) hHeld ?rs1
       case ys1 => (intro w' hSw; (try dsimp only at hSw); go_simp; try (with_reducible rfl))
       simp only [Act.put, List.setIfInBounds_toArray, List.set_cons_zero, List.set_cons_succ]
       refine wpAnyH_take (i := 3) (oi := ⟨some 42, _, _, _, _, _⟩) (v := .agg (bl (fun j => hbit ah al j && hbit bh bm j)).toArray) rfl (by kernel_rfl) (by kernel_rfl) (by kernel_rfl) (fun _ _ _ h => h) (yieldsIf_load_mid (by rfl) 43 _ rfl bx 0 rfl (bl (fun j => hbit ah al j && hbit bh bm j)) _ (fun _ hw => hw.2) Try.underlying43 rfl (hi1 _)) hHeld ?_
       simp only [Act.put, List.setIfInBounds_toArray, List.set_cons_zero, List.set_cons_succ]
       refine wpAnyH_take (i := 5) (oi := ⟨some 44, _, _, _, _, _⟩) (v := ?vs5) rfl (by kernel_rfl) (by kernel_rfl) (by kernel_rfl) (fun _ _ _ h => h) (Or.inl ⟨by rfl, ?ys5⟩) hHeld ?rs5
       case ys5 => (intro w' hSw; (try dsimp only at hSw); go_simp; try (with_reducible rfl))
       simp only [Act.put, List.setIfInBounds_toArray, List.set_cons_zero, List.set_cons_succ]
       refine wpAnyH_ready (rs := [2]) (by kernel_rfl) (by simp) ?_
       refine AllReadyH.cons (o := ⟨some 41, _, _, _, _, _⟩) rfl (fun K hK => ?_) AllReadyH.nil
       go_simp
       (with_reducible refine (make_c _ _ _ _ _).mono ?_)
       rintro e wq2 ⟨rfl, hb⟩
       (try dsimp only)
       refine hK.out _ _ (⟨hold4 hb hHeld.1, range_on hb hHeld.2⟩) (fun hNext => ?_)
       clear hK K hHeld hb
       have hHeld := hNext
       clear hNext
       try simp only [Act.put, List.setIfInBounds_toArray, List.set_cons_zero, List.set_cons_succ]
       refine wpAnyH_ready (rs := [4]) (by kernel_rfl) (by simp) ?_
       refine AllReadyH.cons (o := ⟨some 43, _, _, _, _, _⟩) rfl (fun K hK => ?_) AllReadyH.nil
       go_simp
       (with_reducible refine (rhead_is (fun j => hbit ah al j && hbit bh bm j) (ah &&& bh) (al &&& bm) _ (and_num ah al bh bm)).mono ?_)
       rintro e wq4 ⟨rfl, hb⟩
       (try dsimp only)
       refine hK.out _ _ (⟨hold4 hb hHeld.1, range_on hb hHeld.2⟩) (fun hNext => ?_)
       clear hK K hHeld hb
       have hHeld := hNext
       clear hNext
       try simp only [Act.put, List.setIfInBounds_toArray, List.set_cons_zero, List.set_cons_succ]
       refine wpAnyH_take (i := 6) (oi := ⟨some 45, _, _, _, _, _⟩) (v := ?vs6) rfl (by kernel_rfl) (by kernel_rfl) (by kernel_rfl) (fun _ _ _ h => h) (Or.inl ⟨by rfl, ?ys6⟩) hHeld ?rs6
       case ys6 => (intro w' hSw; (try dsimp only at hSw); go_simp; try (with_reducible rfl))
       simp only [Act.put, List.setIfInBounds_toArray, List.set_cons_zero, List.set_cons_succ]
       refine wpAnyH_take (i := 7) (oi := ⟨some 46, _, _, _, _, _⟩) (v := ?vs7) rfl (by kernel_rfl) (by kernel_rfl) (by kernel_rfl) (fun _ _ _ h => h) (Or.inl ⟨by rfl, ?ys7⟩) hHeld ?rs7
       case ys7 => (intro w' hSw; (try dsimp only at hSw); go_simp; try (with_reducible rfl))
       simp only [Act.put, List.setIfInBounds_toArray, List.set_cons_zero, List.set_cons_succ]
       refine wpAnyH_take (i := 8) (oi := ⟨some 47, _, _, _, _, _⟩) (v := ?vs8) rfl (by kernel_rfl) (by kernel_rfl) (by kernel_rfl) (fun _ _ _ h => h) (Or.inl ⟨by rfl, ?ys8⟩) hHeld ?rs8
       case ys8 => (intro w' hSw; (try dsimp only at hSw); go_simp; try (with_reducible rfl))
       simp only [Act.put, List.setIfInBounds_toArray, List.set_cons_zero, List.set_cons_succ]
       refine wpAnyH_take (i := 10) (oi := ⟨some 49, _, _, _, _, _⟩) (v := ?vs10) rfl (by kernel_rfl) (by kernel_rfl) (by kernel_rfl) (fun _ _ _ h => h) (Or.inl ⟨by rfl, ?ys10⟩) hHeld ?rs10
       case ys10 => (intro w' hSw; (try dsimp only at hSw); go_simp; try (with_reducible rfl))
       simp only [Act.put, List.setIfInBounds_toArray, List.set_cons_zero, List.set_cons_succ]
       refine wpAnyH_ready (rs := [9]) (by kernel_rfl) (by simp) ?_
       refine AllReadyH.cons (o := ⟨some 48, _, _, _, _, _⟩) rfl (fun K hK => ?_) AllReadyH.nil
       go_simp
       (with_reducible refine (all_u _).mono ?_)
       rintro e wq9 ⟨rfl, hb⟩
       (try dsimp only)
       refine hK.out _ _ (⟨hold4 hb hHeld.1, range_on hb hHeld.2⟩) (fun hNext => ?_)
       clear hK K hHeld hb
       have hHeld := hNext
       clear hNext
       try simp only [Act.put, List.setIfInBounds_toArray, List.set_cons_zero, List.set_cons_succ]
       refine wpAnyH_take (i := 11) (oi := ⟨some 50, _, _, _, _, _⟩) (v := ?vs11) rfl (by kernel_rfl) (by kernel_rfl) (by kernel_rfl) (fun _ _ _ h => h) (Or.inl ⟨by rfl, ?ys11⟩) hHeld ?rs11
       case ys11 => (intro w' hSw; (try dsimp only at hSw); go_simp; try (with_reducible rfl))
       simp only [Act.put, List.setIfInBounds_toArray, List.set_cons_zero, List.set_cons_succ]
       refine wpAnyH_take (i := 12) (oi := ⟨some 51, _, _, _, _, _⟩) (v := ?vs12) rfl (by kernel_rfl) (by kernel_rfl) (by kernel_rfl) (fun _ _ _ h => h) (Or.inl ⟨by rfl, ?ys12⟩) hHeld ?rs12
       case ys12 => (intro w' hSw; (try dsimp only at hSw); go_simp; try (with_reducible rfl))
       simp only [Act.put, List.setIfInBounds_toArray, List.set_cons_zero, List.set_cons_succ]
       refine wpAnyH_done (by kernel_rfl) ?_ _
       have L := hHeld.1.1
       clear hHeld hi1
       go_wp2_with fail
       (with_reducible refine (cfield_len a n len v _ hn h64 (by have := HV.out; omega) (Or.inl HL.out)).mono ?_)
       rintro e x1 ⟨rfl, hb⟩
       replace L := L.trans (hb.mono L.size)
       clear hb
       go_upto_region 9 with (fail)
       have hb := below1 x1 (.cells #[.int .u64 0, .int .u64 0, .int .u64 0, .int .u64 0] 26)
       replace L := L.trans (hb.mono L.size)
       have C : Blk (x1.alloc (.cells #[.int .u64 0, .int .u64 0, .int .u64 0, .int .u64 0] 26)) x1.heap.size 26 #[.int .u64 0, .int .u64 0, .int .u64 0, .int .u64 0] := Blk.new x1 _ _
       clear hb
       generalize (x1.alloc (.cells #[.int .u64 0, .int .u64 0, .int .u64 0, .int .u64 0] 26)) = x2 at L C ⊢
       have eC := C.four
       go_wp2_with fail
       (with_reducible refine (rf_yes a n _ hn h64).mono ?_)
       rintro e x3 ⟨rfl, hb⟩
       replace L := L.trans (hb.mono L.size)
       replace C := C.on hb
       clear hb eC
       have eC := C.four
       have hl := HL.out
       have o1 : ¬ (n : Int) < 64 := by have := H3.out; omega
       go_wp2_with fail
       (with_reducible refine (awake2_c _).mono ?_)
       rintro e x4 ⟨rfl, hb⟩
       replace L := L.trans (hb.mono L.size)
       replace C := C.on hb
       clear hb eC
       have eC := C.four
       go_wp2
       go_ret
       exact ⟨rfl, L⟩

set_option maxRecDepth 100000 in
set_option maxHeartbeats 8000000 in
theorem fields_lenbs (a n : Nat) (len : Int) (v ah al bh bm : BitVec 64) (w : World) (hn : a + n ≤ 128) (h64 : n ≤ 64) (hv : ¬ uv (low n) < uv v) (hl : (n : Int) < len) (h3 : n < 64) :
    Calls Try.prog 6 #[.int .i64 a, .int .i64 n, .int .u64 (uv v), .int .i64 len, .agg #[.int .u64 (uv ah), .int .u64 (uv al)], .agg #[.int .u64 (uv bh), .int .u64 (uv bm)]] w fun e w' => e = .returned (.bool true) ∧ Below w.heap.size w w' := by
  have HV := Lib.hid hv
  have HL := Lib.hid hl
  have H3 := Lib.hid h3
  clear hv hl h3
  have hz := zero25
  have hi1 : ∀ f : Nat → Bool, (Try.prog.info? 43).map (·.size) = some (bl f).length := fun f => by rw [(zero_of_info info25).2, bl_len]
  have HI1 := Lib.hid hi1
  clear hi1
  have S0 : Below w.heap.size w ((w.alloc (.cells #[.int .u64 (uv ah), .int .u64 (uv al)] 24)).alloc (.cells #[.int .u64 (uv bh), .int .u64 (uv bm)] 24)) ∧ ((w.alloc (.cells #[.int .u64 (uv ah), .int .u64 (uv al)] 24)).alloc (.cells #[.int .u64 (uv bh), .int .u64 (uv bm)] 24)).cell? ⟨w.heap.size + 1, 0, none⟩ = some (.int .u64 (uv bh)) ∧ ((w.alloc (.cells #[.int .u64 (uv ah), .int .u64 (uv al)] 24)).alloc (.cells #[.int .u64 (uv bh), .int .u64 (uv bm)] 24)).cell? ⟨w.heap.size + 1, 1, none⟩ = some (.int .u64 (uv bm)) ∧ ((w.alloc (.cells #[.int .u64 (uv ah), .int .u64 (uv al)] 24)).alloc (.cells #[.int .u64 (uv bh), .int .u64 (uv bm)] 24)).cell? ⟨w.heap.size, 0, none⟩ = some (.int .u64 (uv ah)) ∧ ((w.alloc (.cells #[.int .u64 (uv ah), .int .u64 (uv al)] 24)).alloc (.cells #[.int .u64 (uv bh), .int .u64 (uv bm)] 24)).cell? ⟨w.heap.size, 1, none⟩ = some (.int .u64 (uv al)) := ⟨below2 w (.cells #[.int .u64 (uv ah), .int .u64 (uv al)] 24) (.cells #[.int .u64 (uv bh), .int .u64 (uv bm)] 24), by go_simp, by go_simp, by go_simp, by go_simp⟩
  go_enter Try.func6, Try.ntmps6
  go_upto_region 1 with (fail)
  refine fld_region _ _ _ _ ah al bh bm w _ _ ?_ ?_ S0
  · intro c a t v w h; exact h
  · intro bx by' u SC RX RY gx gy nxy
    clear S0 hz
    go_wp2_with fail
    go_loopg [15] 128 (fun g i wr => ∃ k : Nat, k ≤ 128 ∧ g = 128 - k ∧ i = .int .i64 k ∧ (Below w.heap.size w wr ∧ wr.cell? ⟨w.heap.size + 1, 0, none⟩ = some (.int .u64 (uv bh)) ∧ wr.cell? ⟨w.heap.size + 1, 1, none⟩ = some (.int .u64 (uv bm)) ∧ wr.cell? ⟨w.heap.size, 0, none⟩ = some (.int .u64 (uv ah)) ∧ wr.cell? ⟨w.heap.size, 1, none⟩ = some (.int .u64 (uv al))) ∧ Row wr bx (mix (hbit ah al) (fun j => hbit ah al j && hbit bh bm j) k) ∧ Row wr by' (hbit bh bm))
    case atStart => exact ⟨0, by omega, rfl, rfl, SC, by rw [mix_zero]; exact RX, RY⟩
    case round =>
     clear SC RX RY
     obtain ⟨k, hk, rfl, rfl, SC, RX, RY⟩ := hrel
     by_cases hlt : k < 128
     · have hlt' : (k : Int) < 128 := by omega
       have cx := RX.cell hlt
       have fx := RX.froz hlt
       have cy := RY.cell hlt
       have em : mix (hbit ah al) (fun j => hbit ah al j && hbit bh bm j) k k = hbit ah al k := by unfold mix; rw [if_neg (by omega)]
       rw [em] at cx
       clear em
       have SK := fun x => shold4 (sets1 wr bx k x) SC (by omega) (by dsimp only; omega) (by dsimp only; omega) (by dsimp only; omega) (by dsimp only; omega)
       have HSK := Lib.hid SK
       clear SK SC
       cases hA : hbit ah al k <;> cases hB : hbit bh bm k
       all_goals (
         rw [hA] at cx; rw [hB] at cy
         have HAB := Lib.hid (And.intro hA hB)
         clear hA hB
         go_wp2
         go_roundg (128 - (k + 1)))
       all_goals first
         | omega
         | exact ⟨k + 1, by omega, rfl, by go_num, HSK.out _, RX.set hlt (mix_set _ _ k _ (by rw [HAB.out.1, HAB.out.2]; rfl)), RY.far nxy⟩
     · obtain rfl : k = 128 := by omega
       have hi1 := HI1.out
       have RR := (RX.congr (mix_all _ _)).1
       clear RX RY
       go_wp2_with fail
       refine wp_region_held_drew (S := fun w' => (Below w.heap.size w w' ∧ w'.cell? ⟨w.heap.size + 1, 0, none⟩ = some (.int .u64 (uv bh)) ∧ w'.cell? ⟨w.heap.size + 1, 1, none⟩ = some (.int .u64 (uv bm)) ∧ w'.cell? ⟨w.heap.size, 0, none⟩ = some (.int .u64 (uv ah)) ∧ w'.cell? ⟨w.heap.size, 1, none⟩ = some (.int .u64 (uv al))) ∧ w'.rangeAt bx 0 (bl (fun j => hbit ah al j && hbit bh bm j))) (by kernel_rfl) ⟨⟨SC.1.drew, SC.2⟩, RR⟩ (fun hHeld => ?_)
       clear SC RR
       refine wpAnyH_take (i := 0) (oi := ⟨some 39, _, _, _, _, _⟩) (v := ?vs0) rfl (by kernel_rfl) (by kernel_rfl) (by kernel_rfl) (fun _ _ _ h => h) (Or.inl ⟨by rfl, ?ys0⟩) hHeld ?rs0
       case ys0 => (intro w' hSw; (try dsimp only at hSw); go_simp; try (with_reducible rfl))
       simp only [Act.put, List.setIfInBounds_toArray, List.set_cons_zero, List.set_cons_succ]
       refine wpAnyH_take (i := 1) (oi := ⟨some 40, _, _, _, _, _⟩) (v := ?vs1) rfl (by kernel_rfl) (by kernel_rfl) (by kernel_rfl) (fun _ _ _ h => h) (Or.inl ⟨by rfl, ?ys1⟩) hHeld ?rs1
       case ys1 => (intro w' hSw; (try dsimp only at hSw); go_simp; try (with_reducible rfl))
       simp only [Act.put, List.setIfInBounds_toArray, List.set_cons_zero, List.set_cons_succ]
       refine wpAnyH_take (i := 3) (oi := ⟨some 42, _, _, _, _, _⟩) (v := .agg (bl (fun j => hbit ah al j && hbit bh bm j)).toArray) rfl (by kernel_rfl) (by kernel_rfl) (by kernel_rfl) (fun _ _ _ h => h) (yieldsIf_load_mid (by rfl) 43 _ rfl bx 0 rfl (bl (fun j => hbit ah al j && hbit bh bm j)) _ (fun _ hw => hw.2) Try.underlying43 rfl (hi1 _)) hHeld ?_
       simp only [Act.put, List.setIfInBounds_toArray, List.set_cons_zero, List.set_cons_succ]
       refine wpAnyH_take (i := 5) (oi := ⟨some 44, _, _, _, _, _⟩) (v := ?vs5) rfl (by kernel_rfl) (by kernel_rfl) (by kernel_rfl) (fun _ _ _ h => h) (Or.inl ⟨by rfl, ?ys5⟩) hHeld ?rs5
       case ys5 => (intro w' hSw; (try dsimp only at hSw); go_simp; try (with_reducible rfl))
       simp only [Act.put, List.setIfInBounds_toArray, List.set_cons_zero, List.set_cons_succ]
       refine wpAnyH_ready (rs := [2]) (by kernel_rfl) (by simp) ?_
       refine AllReadyH.cons (o := ⟨some 41, _, _, _, _, _⟩) rfl (fun K hK => ?_) AllReadyH.nil
       go_simp
       (with_reducible refine (make_c _ _ _ _ _).mono ?_)
       rintro e wq2 ⟨rfl, hb⟩
       (try dsimp only)
       refine hK.out _ _ (⟨hold4 hb hHeld.1, range_on hb hHeld.2⟩) (fun hNext => ?_)
       clear hK K hHeld hb
       have hHeld := hNext
       clear hNext
       try simp only [Act.put, List.setIfInBounds_toArray, List.set_cons_zero, List.set_cons_succ]
       refine wpAnyH_ready (rs := [4]) (by kernel_rfl) (by simp) ?_
       refine AllReadyH.cons (o := ⟨some 43, _, _, _, _, _⟩) rfl (fun K hK => ?_) AllReadyH.nil
       go_simp
       (with_reducible refine (rhead_is (fun j => hbit ah al j && hbit bh bm j) (ah &&& bh) (al &&& bm) _ (and_num ah al bh bm)).mono ?_)
       rintro e wq4 ⟨rfl, hb⟩
       (try dsimp only)
       refine hK.out _ _ (⟨hold4 hb hHeld.1, range_on hb hHeld.2⟩) (fun hNext => ?_)
       clear hK K hHeld hb
       have hHeld := hNext
       clear hNext
       try simp only [Act.put, List.setIfInBounds_toArray, List.set_cons_zero, List.set_cons_succ]
       refine wpAnyH_take (i := 6) (oi := ⟨some 45, _, _, _, _, _⟩) (v := ?vs6) rfl (by kernel_rfl) (by kernel_rfl) (by kernel_rfl) (fun _ _ _ h => h) (Or.inl ⟨by rfl, ?ys6⟩) hHeld ?rs6
       case ys6 => (intro w' hSw; (try dsimp only at hSw); go_simp; try (with_reducible rfl))
       simp only [Act.put, List.setIfInBounds_toArray, List.set_cons_zero, List.set_cons_succ]
       refine wpAnyH_take (i := 7) (oi := ⟨some 46, _, _, _, _, _⟩) (v := ?vs7) rfl (by kernel_rfl) (by kernel_rfl) (by kernel_rfl) (fun _ _ _ h => h) (Or.inl ⟨by rfl, ?ys7⟩) hHeld ?rs7
       case ys7 => (intro w' hSw; (try dsimp only at hSw); go_simp; try (with_reducible rfl))
       simp only [Act.put, List.setIfInBounds_toArray, List.set_cons_zero, List.set_cons_succ]
       refine wpAnyH_take (i := 8) (oi := ⟨some 47, _, _, _, _, _⟩) (v := ?vs8) rfl (by kernel_rfl) (by kernel_rfl) (by kernel_rfl) (fun _ _ _ h => h) (Or.inl ⟨by rfl, ?ys8⟩) hHeld ?rs8
       case ys8 => (intro w' hSw; (try dsimp only at hSw); go_simp; try (with_reducible rfl))
       simp only [Act.put, List.setIfInBounds_toArray, List.set_cons_zero, List.set_cons_succ]
       refine wpAnyH_take (i := 10) (oi := ⟨some 49, _, _, _, _, _⟩) (v := ?vs10) rfl (by kernel_rfl) (by kernel_rfl) (by kernel_rfl) (fun _ _ _ h => h) (Or.inl ⟨by rfl, ?ys10⟩) hHeld ?rs10
       case ys10 => (intro w' hSw; (try dsimp only at hSw); go_simp; try (with_reducible rfl))
       simp only [Act.put, List.setIfInBounds_toArray, List.set_cons_zero, List.set_cons_succ]
       refine wpAnyH_ready (rs := [9]) (by kernel_rfl) (by simp) ?_
       refine AllReadyH.cons (o := ⟨some 48, _, _, _, _, _⟩) rfl (fun K hK => ?_) AllReadyH.nil
       go_simp
       (with_reducible refine (all_u _).mono ?_)
       rintro e wq9 ⟨rfl, hb⟩
       (try dsimp only)
       refine hK.out _ _ (⟨hold4 hb hHeld.1, range_on hb hHeld.2⟩) (fun hNext => ?_)
       clear hK K hHeld hb
       have hHeld := hNext
       clear hNext
       try simp only [Act.put, List.setIfInBounds_toArray, List.set_cons_zero, List.set_cons_succ]
       refine wpAnyH_take (i := 11) (oi := ⟨some 50, _, _, _, _, _⟩) (v := ?vs11) rfl (by kernel_rfl) (by kernel_rfl) (by kernel_rfl) (fun _ _ _ h => h) (Or.inl ⟨by rfl, ?ys11⟩) hHeld ?rs11
       case ys11 => (intro w' hSw; (try dsimp only at hSw); go_simp; try (with_reducible rfl))
       simp only [Act.put, List.setIfInBounds_toArray, List.set_cons_zero, List.set_cons_succ]
       refine wpAnyH_take (i := 12) (oi := ⟨some 51, _, _, _, _, _⟩) (v := ?vs12) rfl (by kernel_rfl) (by kernel_rfl) (by kernel_rfl) (fun _ _ _ h => h) (Or.inl ⟨by rfl, ?ys12⟩) hHeld ?rs12
       case ys12 => (intro w' hSw; (try dsimp only at hSw); go_simp; try (with_reducible rfl))
       simp only [Act.put, List.setIfInBounds_toArray, List.set_cons_zero, List.set_cons_succ]
       refine wpAnyH_done (by kernel_rfl) ?_ _
       have L := hHeld.1.1
       clear hHeld hi1
       go_wp2_with fail
       (with_reducible refine (cfield_len a n len v _ hn h64 (by have := HV.out; omega) (Or.inr HL.out)).mono ?_)
       rintro e x1 ⟨rfl, hb⟩
       replace L := L.trans (hb.mono L.size)
       clear hb
       go_upto_region 9 with (fail)
       have hb := below1 x1 (.cells #[.int .u64 0, .int .u64 0, .int .u64 0, .int .u64 0] 26)
       replace L := L.trans (hb.mono L.size)
       have C : Blk (x1.alloc (.cells #[.int .u64 0, .int .u64 0, .int .u64 0, .int .u64 0] 26)) x1.heap.size 26 #[.int .u64 0, .int .u64 0, .int .u64 0, .int .u64 0] := Blk.new x1 _ _
       clear hb
       generalize (x1.alloc (.cells #[.int .u64 0, .int .u64 0, .int .u64 0, .int .u64 0] 26)) = x2 at L C ⊢
       have eC := C.four
       go_wp2_with fail
       (with_reducible refine (rf_yes a n _ hn h64).mono ?_)
       rintro e x3 ⟨rfl, hb⟩
       replace L := L.trans (hb.mono L.size)
       replace C := C.on hb
       clear hb eC
       have eC := C.four
       have hl := HL.out
       have hl0 : ¬ len < 0 := by omega
       have o1 : (n : Int) < 64 := by have := H3.out; omega
       have o2 := fit_small v n h64 (by have := HV.out; omega)
       go_wp2_with fail
       (with_reducible refine (awake2_c _).mono ?_)
       rintro e x4 ⟨rfl, hb⟩
       replace L := L.trans (hb.mono L.size)
       replace C := C.on hb
       clear hb eC
       have eC := C.four
       go_wp2
       go_ret
       exact ⟨rfl, L⟩

set_option maxRecDepth 100000 in
set_option maxHeartbeats 8000000 in
theorem fields_lenbg (a n : Nat) (len : Int) (v ah al bh bm : BitVec 64) (w : World) (hn : a + n ≤ 128) (h64 : n ≤ 64) (hv : ¬ uv (low n) < uv v) (hl : (n : Int) < len) (h3 : n = 64) :
    Calls Try.prog 6 #[.int .i64 a, .int .i64 n, .int .u64 (uv v), .int .i64 len, .agg #[.int .u64 (uv ah), .int .u64 (uv al)], .agg #[.int .u64 (uv bh), .int .u64 (uv bm)]] w fun e w' => e = .returned (.bool true) ∧ Below w.heap.size w w' := by
  have HV := Lib.hid hv
  have HL := Lib.hid hl
  have H3 := Lib.hid h3
  clear hv hl h3
  have hz := zero25
  have hi1 : ∀ f : Nat → Bool, (Try.prog.info? 43).map (·.size) = some (bl f).length := fun f => by rw [(zero_of_info info25).2, bl_len]
  have HI1 := Lib.hid hi1
  clear hi1
  have S0 : Below w.heap.size w ((w.alloc (.cells #[.int .u64 (uv ah), .int .u64 (uv al)] 24)).alloc (.cells #[.int .u64 (uv bh), .int .u64 (uv bm)] 24)) ∧ ((w.alloc (.cells #[.int .u64 (uv ah), .int .u64 (uv al)] 24)).alloc (.cells #[.int .u64 (uv bh), .int .u64 (uv bm)] 24)).cell? ⟨w.heap.size + 1, 0, none⟩ = some (.int .u64 (uv bh)) ∧ ((w.alloc (.cells #[.int .u64 (uv ah), .int .u64 (uv al)] 24)).alloc (.cells #[.int .u64 (uv bh), .int .u64 (uv bm)] 24)).cell? ⟨w.heap.size + 1, 1, none⟩ = some (.int .u64 (uv bm)) ∧ ((w.alloc (.cells #[.int .u64 (uv ah), .int .u64 (uv al)] 24)).alloc (.cells #[.int .u64 (uv bh), .int .u64 (uv bm)] 24)).cell? ⟨w.heap.size, 0, none⟩ = some (.int .u64 (uv ah)) ∧ ((w.alloc (.cells #[.int .u64 (uv ah), .int .u64 (uv al)] 24)).alloc (.cells #[.int .u64 (uv bh), .int .u64 (uv bm)] 24)).cell? ⟨w.heap.size, 1, none⟩ = some (.int .u64 (uv al)) := ⟨below2 w (.cells #[.int .u64 (uv ah), .int .u64 (uv al)] 24) (.cells #[.int .u64 (uv bh), .int .u64 (uv bm)] 24), by go_simp, by go_simp, by go_simp, by go_simp⟩
  go_enter Try.func6, Try.ntmps6
  go_upto_region 1 with (fail)
  refine fld_region _ _ _ _ ah al bh bm w _ _ ?_ ?_ S0
  · intro c a t v w h; exact h
  · intro bx by' u SC RX RY gx gy nxy
    clear S0 hz
    go_wp2_with fail
    go_loopg [15] 128 (fun g i wr => ∃ k : Nat, k ≤ 128 ∧ g = 128 - k ∧ i = .int .i64 k ∧ (Below w.heap.size w wr ∧ wr.cell? ⟨w.heap.size + 1, 0, none⟩ = some (.int .u64 (uv bh)) ∧ wr.cell? ⟨w.heap.size + 1, 1, none⟩ = some (.int .u64 (uv bm)) ∧ wr.cell? ⟨w.heap.size, 0, none⟩ = some (.int .u64 (uv ah)) ∧ wr.cell? ⟨w.heap.size, 1, none⟩ = some (.int .u64 (uv al))) ∧ Row wr bx (mix (hbit ah al) (fun j => hbit ah al j && hbit bh bm j) k) ∧ Row wr by' (hbit bh bm))
    case atStart => exact ⟨0, by omega, rfl, rfl, SC, by rw [mix_zero]; exact RX, RY⟩
    case round =>
     clear SC RX RY
     obtain ⟨k, hk, rfl, rfl, SC, RX, RY⟩ := hrel
     by_cases hlt : k < 128
     · have hlt' : (k : Int) < 128 := by omega
       have cx := RX.cell hlt
       have fx := RX.froz hlt
       have cy := RY.cell hlt
       have em : mix (hbit ah al) (fun j => hbit ah al j && hbit bh bm j) k k = hbit ah al k := by unfold mix; rw [if_neg (by omega)]
       rw [em] at cx
       clear em
       have SK := fun x => shold4 (sets1 wr bx k x) SC (by omega) (by dsimp only; omega) (by dsimp only; omega) (by dsimp only; omega) (by dsimp only; omega)
       have HSK := Lib.hid SK
       clear SK SC
       cases hA : hbit ah al k <;> cases hB : hbit bh bm k
       all_goals (
         rw [hA] at cx; rw [hB] at cy
         have HAB := Lib.hid (And.intro hA hB)
         clear hA hB
         go_wp2
         go_roundg (128 - (k + 1)))
       all_goals first
         | omega
         | exact ⟨k + 1, by omega, rfl, by go_num, HSK.out _, RX.set hlt (mix_set _ _ k _ (by rw [HAB.out.1, HAB.out.2]; rfl)), RY.far nxy⟩
     · obtain rfl : k = 128 := by omega
       have hi1 := HI1.out
       have RR := (RX.congr (mix_all _ _)).1
       clear RX RY
       go_wp2_with fail
       refine wp_region_held_drew (S := fun w' => (Below w.heap.size w w' ∧ w'.cell? ⟨w.heap.size + 1, 0, none⟩ = some (.int .u64 (uv bh)) ∧ w'.cell? ⟨w.heap.size + 1, 1, none⟩ = some (.int .u64 (uv bm)) ∧ w'.cell? ⟨w.heap.size, 0, none⟩ = some (.int .u64 (uv ah)) ∧ w'.cell? ⟨w.heap.size, 1, none⟩ = some (.int .u64 (uv al))) ∧ w'.rangeAt bx 0 (bl (fun j => hbit ah al j && hbit bh bm j))) (by kernel_rfl) ⟨⟨SC.1.drew, SC.2⟩, RR⟩ (fun hHeld => ?_)
       clear SC RR
       refine wpAnyH_take (i := 0) (oi := ⟨some 39, _, _, _, _, _⟩) (v := ?vs0) rfl (by kernel_rfl) (by kernel_rfl) (by kernel_rfl) (fun _ _ _ h => h) (Or.inl ⟨by rfl, ?ys0⟩) hHeld ?rs0
       case ys0 => (intro w' hSw; (try dsimp only at hSw); go_simp; try (with_reducible rfl))
       simp only [Act.put, List.setIfInBounds_toArray, List.set_cons_zero, List.set_cons_succ]
       refine wpAnyH_take (i := 1) (oi := ⟨some 40, _, _, _, _, _⟩) (v := ?vs1) rfl (by kernel_rfl) (by kernel_rfl) (by kernel_rfl) (fun _ _ _ h => h) (Or.inl ⟨by rfl, ?ys1⟩) hHeld ?rs1
       case ys1 => (intro w' hSw; (try dsimp only at hSw); go_simp; try (with_reducible rfl))
       simp only [Act.put, List.setIfInBounds_toArray, List.set_cons_zero, List.set_cons_succ]
       refine wpAnyH_take (i := 3) (oi := ⟨some 42, _, _, _, _, _⟩) (v := .agg (bl (fun j => hbit ah al j && hbit bh bm j)).toArray) rfl (by kernel_rfl) (by kernel_rfl) (by kernel_rfl) (fun _ _ _ h => h) (yieldsIf_load_mid (by rfl) 43 _ rfl bx 0 rfl (bl (fun j => hbit ah al j && hbit bh bm j)) _ (fun _ hw => hw.2) Try.underlying43 rfl (hi1 _)) hHeld ?_
       simp only [Act.put, List.setIfInBounds_toArray, List.set_cons_zero, List.set_cons_succ]
       refine wpAnyH_take (i := 5) (oi := ⟨some 44, _, _, _, _, _⟩) (v := ?vs5) rfl (by kernel_rfl) (by kernel_rfl) (by kernel_rfl) (fun _ _ _ h => h) (Or.inl ⟨by rfl, ?ys5⟩) hHeld ?rs5
       case ys5 => (intro w' hSw; (try dsimp only at hSw); go_simp; try (with_reducible rfl))
       simp only [Act.put, List.setIfInBounds_toArray, List.set_cons_zero, List.set_cons_succ]
       refine wpAnyH_ready (rs := [2]) (by kernel_rfl) (by simp) ?_
       refine AllReadyH.cons (o := ⟨some 41, _, _, _, _, _⟩) rfl (fun K hK => ?_) AllReadyH.nil
       go_simp
       (with_reducible refine (make_c _ _ _ _ _).mono ?_)
       rintro e wq2 ⟨rfl, hb⟩
       (try dsimp only)
       refine hK.out _ _ (⟨hold4 hb hHeld.1, range_on hb hHeld.2⟩) (fun hNext => ?_)
       clear hK K hHeld hb
       have hHeld := hNext
       clear hNext
       try simp only [Act.put, List.setIfInBounds_toArray, List.set_cons_zero, List.set_cons_succ]
       refine wpAnyH_ready (rs := [4]) (by kernel_rfl) (by simp) ?_
       refine AllReadyH.cons (o := ⟨some 43, _, _, _, _, _⟩) rfl (fun K hK => ?_) AllReadyH.nil
       go_simp
       (with_reducible refine (rhead_is (fun j => hbit ah al j && hbit bh bm j) (ah &&& bh) (al &&& bm) _ (and_num ah al bh bm)).mono ?_)
       rintro e wq4 ⟨rfl, hb⟩
       (try dsimp only)
       refine hK.out _ _ (⟨hold4 hb hHeld.1, range_on hb hHeld.2⟩) (fun hNext => ?_)
       clear hK K hHeld hb
       have hHeld := hNext
       clear hNext
       try simp only [Act.put, List.setIfInBounds_toArray, List.set_cons_zero, List.set_cons_succ]
       refine wpAnyH_take (i := 6) (oi := ⟨some 45, _, _, _, _, _⟩) (v := ?vs6) rfl (by kernel_rfl) (by kernel_rfl) (by kernel_rfl) (fun _ _ _ h => h) (Or.inl ⟨by rfl, ?ys6⟩) hHeld ?rs6
       case ys6 => (intro w' hSw; (try dsimp only at hSw); go_simp; try (with_reducible rfl))
       simp only [Act.put, List.setIfInBounds_toArray, List.set_cons_zero, List.set_cons_succ]
       refine wpAnyH_take (i := 7) (oi := ⟨some 46, _, _, _, _, _⟩) (v := ?vs7) rfl (by kernel_rfl) (by kernel_rfl) (by kernel_rfl) (fun _ _ _ h => h) (Or.inl ⟨by rfl, ?ys7⟩) hHeld ?rs7
       case ys7 => (intro w' hSw; (try dsimp only at hSw); go_simp; try (with_reducible rfl))
       simp only [Act.put, List.setIfInBounds_toArray, List.set_cons_zero, List.set_cons_succ]
       refine wpAnyH_take (i := 8) (oi := ⟨some 47, _, _, _, _, _⟩) (v := ?vs8) rfl (by kernel_rfl) (by kernel_rfl) (by kernel_rfl) (fun _ _ _ h => h) (Or.inl ⟨by rfl, ?ys8⟩) hHeld ?rs8
       case ys8 => (intro w' hSw; (try dsimp only at hSw); go_simp; try (with_reducible rfl))
       simp only [Act.put, List.setIfInBounds_toArray, List.set_cons_zero, List.set_cons_succ]
       refine wpAnyH_take (i := 10) (oi := ⟨some 49, _, _, _, _, _⟩) (v := ?vs10) rfl (by kernel_rfl) (by kernel_rfl) (by kernel_rfl) (fun _ _ _ h => h) (Or.inl ⟨by rfl, ?ys10⟩) hHeld ?rs10
       case ys10 => (intro w' hSw; (try dsimp only at hSw); go_simp; try (with_reducible rfl))
       simp only [Act.put, List.setIfInBounds_toArray, List.set_cons_zero, List.set_cons_succ]
       refine wpAnyH_ready (rs := [9]) (by kernel_rfl) (by simp) ?_
       refine AllReadyH.cons (o := ⟨some 48, _, _, _, _, _⟩) rfl (fun K hK => ?_) AllReadyH.nil
       go_simp
       (with_reducible refine (all_u _).mono ?_)
       rintro e wq9 ⟨rfl, hb⟩
       (try dsimp only)
       refine hK.out _ _ (⟨hold4 hb hHeld.1, range_on hb hHeld.2⟩) (fun hNext => ?_)
       clear hK K hHeld hb
       have hHeld := hNext
       clear hNext
       try simp only [Act.put, List.setIfInBounds_toArray, List.set_cons_zero, List.set_cons_succ]
       refine wpAnyH_take (i := 11) (oi := ⟨some 50, _, _, _, _, _⟩) (v := ?vs11) rfl (by kernel_rfl) (by kernel_rfl) (by kernel_rfl) (fun _ _ _ h => h) (Or.inl ⟨by rfl, ?ys11⟩) hHeld ?rs11
       case ys11 => (intro w' hSw; (try dsimp only at hSw); go_simp; try (with_reducible rfl))
       simp only [Act.put, List.setIfInBounds_toArray, List.set_cons_zero, List.set_cons_succ]
       refine wpAnyH_take (i := 12) (oi := ⟨some 51, _, _, _, _, _⟩) (v := ?vs12) rfl (by kernel_rfl) (by kernel_rfl) (by kernel_rfl) (fun _ _ _ h => h) (Or.inl ⟨by rfl, ?ys12⟩) hHeld ?rs12
       case ys12 => (intro w' hSw; (try dsimp only at hSw); go_simp; try (with_reducible rfl))
       simp only [Act.put, List.setIfInBounds_toArray, List.set_cons_zero, List.set_cons_succ]
       refine wpAnyH_done (by kernel_rfl) ?_ _
       have L := hHeld.1.1
       clear hHeld hi1
       go_wp2_with fail
       (with_reducible refine (cfield_len a n len v _ hn h64 (by have := HV.out; omega) (Or.inr HL.out)).mono ?_)
       rintro e x1 ⟨rfl, hb⟩
       replace L := L.trans (hb.mono L.size)
       clear hb
       go_upto_region 9 with (fail)
       have hb := below1 x1 (.cells #[.int .u64 0, .int .u64 0, .int .u64 0, .int .u64 0] 26)
       replace L := L.trans (hb.mono L.size)
       have C : Blk (x1.alloc (.cells #[.int .u64 0, .int .u64 0, .int .u64 0, .int .u64 0] 26)) x1.heap.size 26 #[.int .u64 0, .int .u64 0, .int .u64 0, .int .u64 0] := Blk.new x1 _ _
       clear hb
       generalize (x1.alloc (.cells #[.int .u64 0, .int .u64 0, .int .u64 0, .int .u64 0] 26)) = x2 at L C ⊢
       have eC := C.four
       go_wp2_with fail
       (with_reducible refine (rf_yes a n _ hn h64).mono ?_)
       rintro e x3 ⟨rfl, hb⟩
       replace L := L.trans (hb.mono L.size)
       replace C := C.on hb
       clear hb eC
       have eC := C.four
       have hl := HL.out
       have hl0 : ¬ len < 0 := by omega
       have o1 : ¬ (n : Int) < 64 := by have := H3.out; omega
       go_wp2_with fail
       (with_reducible refine (awake2_c _).mono ?_)
       rintro e x4 ⟨rfl, hb⟩
       replace L := L.trans (hb.mono L.size)
       replace C := C.on hb
       clear hb eC
       have eC := C.four
       go_wp2
       go_ret
       exact ⟨rfl, L⟩

set_option maxRecDepth 100000 in
set_option maxHeartbeats 8000000 in
theorem fields_oks (a n len : Nat) (v ah al bh bm : BitVec 64) (w : World) (hn : a + n ≤ 128) (h64 : n ≤ 64) (hv : ¬ uv (low n) < uv v) (hl : len ≤ n) (h3 : n < 64) :
    Calls Try.prog 6 #[.int .i64 a, .int .i64 n, .int .u64 (uv v), .int .i64 len, .agg #[.int .u64 (uv ah), .int .u64 (uv al)], .agg #[.int .u64 (uv bh), .int .u64 (uv bm)]] w fun e w' => e = .returned (.bool true) ∧ Below w.heap.size w w' := by
  have HV := Lib.hid hv
  have H3 := Lib.hid h3
  clear hv h3
  have hz := zero25
  have hi1 : ∀ f : Nat → Bool, (Try.prog.info? 43).map (·.size) = some (bl f).length := fun f => by rw [(zero_of_info info25).2, bl_len]
  have HI1 := Lib.hid hi1
  clear hi1
  have S0 : Below w.heap.size w ((w.alloc (.cells #[.int .u64 (uv ah), .int .u64 (uv al)] 24)).alloc (.cells #[.int .u64 (uv bh), .int .u64 (uv bm)] 24)) ∧ ((w.alloc (.cells #[.int .u64 (uv ah), .int .u64 (uv al)] 24)).alloc (.cells #[.int .u64 (uv bh), .int .u64 (uv bm)] 24)).cell? ⟨w.heap.size + 1, 0, none⟩ = some (.int .u64 (uv bh)) ∧ ((w.alloc (.cells #[.int .u64 (uv ah), .int .u64 (uv al)] 24)).alloc (.cells #[.int .u64 (uv bh), .int .u64 (uv bm)] 24)).cell? ⟨w.heap.size + 1, 1, none⟩ = some (.int .u64 (uv bm)) ∧ ((w.alloc (.cells #[.int .u64 (uv ah), .int .u64 (uv al)] 24)).alloc (.cells #[.int .u64 (uv bh), .int .u64 (uv bm)] 24)).cell? ⟨w.heap.size, 0, none⟩ = some (.int .u64 (uv ah)) ∧ ((w.alloc (.cells #[.int .u64 (uv ah), .int .u64 (uv al)] 24)).alloc (.cells #[.int .u64 (uv bh), .int .u64 (uv bm)] 24)).cell? ⟨w.heap.size, 1, none⟩ = some (.int .u64 (uv al)) := ⟨below2 w (.cells #[.int .u64 (uv ah), .int .u64 (uv al)] 24) (.cells #[.int .u64 (uv bh), .int .u64 (uv bm)] 24), by go_simp, by go_simp, by go_simp, by go_simp⟩
  go_enter Try.func6, Try.ntmps6
  go_upto_region 1 with (fail)
  refine fld_region _ _ _ _ ah al bh bm w _ _ ?_ ?_ S0
  · intro c a t v w h; exact h
  · intro bx by' u SC RX RY gx gy nxy
    clear S0 hz
    go_wp2_with fail
    go_loopg [15] 128 (fun g i wr => ∃ k : Nat, k ≤ 128 ∧ g = 128 - k ∧ i = .int .i64 k ∧ (Below w.heap.size w wr ∧ wr.cell? ⟨w.heap.size + 1, 0, none⟩ = some (.int .u64 (uv bh)) ∧ wr.cell? ⟨w.heap.size + 1, 1, none⟩ = some (.int .u64 (uv bm)) ∧ wr.cell? ⟨w.heap.size, 0, none⟩ = some (.int .u64 (uv ah)) ∧ wr.cell? ⟨w.heap.size, 1, none⟩ = some (.int .u64 (uv al))) ∧ Row wr bx (mix (hbit ah al) (fun j => hbit ah al j && hbit bh bm j) k) ∧ Row wr by' (hbit bh bm))
    case atStart => exact ⟨0, by omega, rfl, rfl, SC, by rw [mix_zero]; exact RX, RY⟩
    case round =>
     clear SC RX RY
     obtain ⟨k, hk, rfl, rfl, SC, RX, RY⟩ := hrel
     by_cases hlt : k < 128
     · have hlt' : (k : Int) < 128 := by omega
       have cx := RX.cell hlt
       have fx := RX.froz hlt
       have cy := RY.cell hlt
       have em : mix (hbit ah al) (fun j => hbit ah al j && hbit bh bm j) k k = hbit ah al k := by unfold mix; rw [if_neg (by omega)]
       rw [em] at cx
       clear em
       have SK := fun x => shold4 (sets1 wr bx k x) SC (by omega) (by dsimp only; omega) (by dsimp only; omega) (by dsimp only; omega) (by dsimp only; omega)
       have HSK := Lib.hid SK
       clear SK SC
       cases hA : hbit ah al k <;> cases hB : hbit bh bm k
       all_goals (
         rw [hA] at cx; rw [hB] at cy
         have HAB := Lib.hid (And.intro hA hB)
         clear hA hB
         go_wp2
         go_roundg (128 - (k + 1)))
       all_goals first
         | omega
         | exact ⟨k + 1, by omega, rfl, by go_num, HSK.out _, RX.set hlt (mix_set _ _ k _ (by rw [HAB.out.1, HAB.out.2]; rfl)), RY.far nxy⟩
     · obtain rfl : k = 128 := by omega
       have hi1 := HI1.out
       have RR := (RX.congr (mix_all _ _)).1
       clear RX RY
       go_wp2_with fail
       refine wp_region_held_drew (S := fun w' => (Below w.heap.size w w' ∧ w'.cell? ⟨w.heap.size + 1, 0, none⟩ = some (.int .u64 (uv bh)) ∧ w'.cell? ⟨w.heap.size + 1, 1, none⟩ = some (.int .u64 (uv bm)) ∧ w'.cell? ⟨w.heap.size, 0, none⟩ = some (.int .u64 (uv ah)) ∧ w'.cell? ⟨w.heap.size, 1, none⟩ = some (.int .u64 (uv al))) ∧ w'.rangeAt bx 0 (bl (fun j => hbit ah al j && hbit bh bm j))) (by kernel_rfl) ⟨⟨SC.1.drew, SC.2⟩, RR⟩ (fun hHeld => ?_)
       clear SC RR
       refine wpAnyH_take (i := 0) (oi := ⟨some 39, _, _, _, _, _⟩) (v := ?vs0) rfl (by kernel_rfl) (by kernel_rfl) (by kernel_rfl) (fun _ _ _ h => h) (Or.inl ⟨by rfl, ?ys0⟩) hHeld ?rs0
       case ys0 => (intro w' hSw; (try dsimp only at hSw); go_simp; try (with_reducible rfl))
       simp only [Act.put, List.setIfInBounds_toArray, List.set_cons_zero, List.set_cons_succ]
       refine wpAnyH_take (i := 1) (oi := ⟨some 40, _, _, _, _, _⟩) (v := ?vs1) rfl (by kernel_rfl) (by kernel_rfl) (by kernel_rfl) (fun _ _ _ h => h) (Or.inl ⟨by rfl, ?ys1⟩) hHeld ?rs1
       case ys1 => (intro w' hSw; (try dsimp only at hSw); go_simp; try (with_reducible rfl))
       simp only [Act.put, List.setIfInBounds_toArray, List.set_cons_zero, List.set_cons_succ]
       refine wpAnyH_take (i := 3) (oi := ⟨some 42, _, _, _, _, _⟩) (v := .agg (bl (fun j => hbit ah al j && hbit bh bm j)).toArray) rfl (by kernel_rfl) (by kernel_rfl) (by kernel_rfl) (fun _ _ _ h => h) (yieldsIf_load_mid (by rfl) 43 _ rfl bx 0 rfl (bl (fun j => hbit ah al j && hbit bh bm j)) _ (fun _ hw => hw.2) Try.underlying43 rfl (hi1 _)) hHeld ?_
       simp only [Act.put, List.setIfInBounds_toArray, List.set_cons_zero, List.set_cons_succ]
       refine wpAnyH_take (i := 5) (oi := ⟨some 44, _, _, _, _, _⟩) (v := ?vs5) rfl (by kernel_rfl) (by kernel_rfl) (by kernel_rfl) (fun _ _ _ h => h) (Or.inl ⟨by rfl, ?ys5⟩) hHeld ?rs5
       case ys5 => (intro w' hSw; (try dsimp only at hSw); go_simp; try (with_reducible rfl))
       simp only [Act.put, List.setIfInBounds_toArray, List.set_cons_zero, List.set_cons_succ]
       refine wpAnyH_ready (rs := [2]) (by kernel_rfl) (by simp) ?_
       refine AllReadyH.cons (o := ⟨some 41, _, _, _, _, _⟩) rfl (fun K hK => ?_) AllReadyH.nil
       go_simp
       (with_reducible refine (make_c _ _ _ _ _).mono ?_)
       rintro e wq2 ⟨rfl, hb⟩
       (try dsimp only)
       refine hK.out _ _ (⟨hold4 hb hHeld.1, range_on hb hHeld.2⟩) (fun hNext => ?_)
       clear hK K hHeld hb
       have hHeld := hNext
       clear hNext
       try simp only [Act.put, List.setIfInBounds_toArray, List.set_cons_zero, List.set_cons_succ]
       refine wpAnyH_ready (rs := [4]) (by kernel_rfl) (by simp) ?_
       refine AllReadyH.cons (o := ⟨some 43, _, _, _, _, _⟩) rfl (fun K hK => ?_) AllReadyH.nil
       go_simp
       (with_reducible refine (rhead_is (fun j => hbit ah al j && hbit bh bm j) (ah &&& bh) (al &&& bm) _ (and_num ah al bh bm)).mono ?_)
       rintro e wq4 ⟨rfl, hb⟩
       (try dsimp only)
       refine hK.out _ _ (⟨hold4 hb hHeld.1, range_on hb hHeld.2⟩) (fun hNext => ?_)
       clear hK K hHeld hb
       have hHeld := hNext
       clear hNext
       try simp only [Act.put, List.setIfInBounds_toArray, List.set_cons_zero, List.set_cons_succ]
       refine wpAnyH_take (i := 6) (oi := ⟨some 45, _, _, _, _, _⟩) (v := ?vs6) rfl (by kernel_rfl) (by kernel_rfl) (by kernel_rfl) (fun _ _ _ h => h) (Or.inl ⟨by rfl, ?ys6⟩) hHeld ?rs6
       case ys6 => (intro w' hSw; (try dsimp only at hSw); go_simp; try (with_reducible rfl))
       simp only [Act.put, List.setIfInBounds_toArray, List.set_cons_zero, List.set_cons_succ]
       refine wpAnyH_take (i := 7) (oi := ⟨some 46, _, _, _, _, _⟩) (v := ?vs7) rfl (by kernel_rfl) (by kernel_rfl) (by kernel_rfl) (fun _ _ _ h => h) (Or.inl ⟨by rfl, ?ys7⟩) hHeld ?rs7
       case ys7 => (intro w' hSw; (try dsimp only at hSw); go_simp; try (with_reducible rfl))
       simp only [Act.put, List.setIfInBounds_toArray, List.set_cons_zero, List.set_cons_succ]
       refine wpAnyH_take (i := 8) (oi := ⟨some 47, _, _, _, _, _⟩) (v := ?vs8) rfl (by kernel_rfl) (by kernel_rfl) (by kernel_rfl) (fun _ _ _ h => h) (Or.inl ⟨by rfl, ?ys8⟩) hHeld ?rs8
       case ys8 => (intro w' hSw; (try dsimp only at hSw); go_simp; try (with_reducible rfl))
       simp only [Act.put, List.setIfInBounds_toArray, List.set_cons_zero, List.set_cons_succ]
       refine wpAnyH_take (i := 10) (oi := ⟨some 49, _, _, _, _, _⟩) (v := ?vs10) rfl (by kernel_rfl) (by kernel_rfl) (by kernel_rfl) (fun _ _ _ h => h) (Or.inl ⟨by rfl, ?ys10⟩) hHeld ?rs10
       case ys10 => (intro w' hSw; (try dsimp only at hSw); go_simp; try (with_reducible rfl))
       simp only [Act.put, List.setIfInBounds_toArray, List.set_cons_zero, List.set_cons_succ]
       refine wpAnyH_ready (rs := [9]) (by kernel_rfl) (by simp) ?_
       refine AllReadyH.cons (o := ⟨some 48, _, _, _, _, _⟩) rfl (fun K hK => ?_) AllReadyH.nil
       go_simp
       (with_reducible refine (all_u _).mono ?_)
       rintro e wq9 ⟨rfl, hb⟩
       (try dsimp only)
       refine hK.out _ _ (⟨hold4 hb hHeld.1, range_on hb hHeld.2⟩) (fun hNext => ?_)
       clear hK K hHeld hb
       have hHeld := hNext
       clear hNext
       try simp only [Act.put, List.setIfInBounds_toArray, List.set_cons_zero, List.set_cons_succ]
       refine wpAnyH_take (i := 11) (oi := ⟨some 50, _, _, _, _, _⟩) (v := ?vs11) rfl (by kernel_rfl) (by kernel_rfl) (by kernel_rfl) (fun _ _ _ h => h) (Or.inl ⟨by rfl, ?ys11⟩) hHeld ?rs11
       case ys11 => (intro w' hSw; (try dsimp only at hSw); go_simp; try (with_reducible rfl))
       simp only [Act.put, List.setIfInBounds_toArray, List.set_cons_zero, List.set_cons_succ]
       refine wpAnyH_take (i := 12) (oi := ⟨some 51, _, _, _, _, _⟩) (v := ?vs12) rfl (by kernel_rfl) (by kernel_rfl) (by kernel_rfl) (fun _ _ _ h => h) (Or.inl ⟨by rfl, ?ys12⟩) hHeld ?rs12
       case ys12 => (intro w' hSw; (try dsimp only at hSw); go_simp; try (with_reducible rfl))
       simp only [Act.put, List.setIfInBounds_toArray, List.set_cons_zero, List.set_cons_succ]
       refine wpAnyH_done (by kernel_rfl) ?_ _
       have L := hHeld.1.1
       clear hHeld hi1
       go_wp2_with fail
       (with_reducible refine (cfield_yes a n len v _ hn h64 (by have := HV.out; omega) hl).mono ?_)
       rintro e x1 ⟨rfl, hb⟩
       replace L := L.trans (hb.mono L.size)
       clear hb
       go_upto_region 9 with (fail)
       have hb := below1 x1 (.cells #[.int .u64 (uv (putH 0#64 a n v &&& maskH (a + n - len) len)), .int .u64 (uv (putL 0#64 a n v &&& maskL (a + n - len) len)), .int .u64 (uv (maskH (a + n - len) len)), .int .u64 (uv (maskL (a + n - len) len))] 26)
       replace L := L.trans (hb.mono L.size)
       have C : Blk (x1.alloc (.cells #[.int .u64 (uv (putH 0#64 a n v &&& maskH (a + n - len) len)), .int .u64 (uv (putL 0#64 a n v &&& maskL (a + n - len) len)), .int .u64 (uv (maskH (a + n - len) len)), .int .u64 (uv (maskL (a + n - len) len))] 26)) x1.heap.size 26 #[.int .u64 (uv (putH 0#64 a n v &&& maskH (a + n - len) len)), .int .u64 (uv (putL 0#64 a n v &&& maskL (a + n - len) len)), .int .u64 (uv (maskH (a + n - len) len)), .int .u64 (uv (maskL (a + n - len) len))] := Blk.new x1 _ _
       clear hb
       generalize (x1.alloc (.cells #[.int .u64 (uv (putH 0#64 a n v &&& maskH (a + n - len) len)), .int .u64 (uv (putL 0#64 a n v &&& maskL (a + n - len) len)), .int .u64 (uv (maskH (a + n - len) len)), .int .u64 (uv (maskL (a + n - len) len))] 26)) = x2 at L C ⊢
       have eC := C.four
       go_wp2_with fail
       (with_reducible refine (rf_yes a n _ hn h64).mono ?_)
       rintro e x3 ⟨rfl, hb⟩
       replace L := L.trans (hb.mono L.size)
       replace C := C.on hb
       clear hb eC
       have eC := C.four
       have o1 : (n : Int) < 64 := by have := H3.out; omega
       have o2 := fit_small v n h64 (by have := HV.out; omega)
       have hl1 : ¬ (len : Int) < 0 := by omega
       have hl2 : ¬ (n : Int) < (len : Int) := by omega
       have NV := Lib.hid (varr_num v a n len hl hn h64)
       have NC := Lib.hid (carr_num a n len hl hn)
       have hz := zero25
       have hbd := build25
       go_upto_region 13 with (fail)
       clear o1 hl1 hl2
       have T3 : ((x3.alloc (.cells (bl (fun _ => false)).toArray 43)).alloc (.cells (bl (fun _ => false)).toArray 43)).there x3.heap.size 0 128 := World.there_alloc (there_of_alloc x3 (fun _ => false) 43) (.cells (bl (fun _ => false)).toArray 43)
       have T4 : ((x3.alloc (.cells (bl (fun _ => false)).toArray 43)).alloc (.cells (bl (fun _ => false)).toArray 43)).there (x3.heap.size + 1) 0 128 := by
         have h := there_of_alloc (x3.alloc (.cells (bl (fun _ => false)).toArray 43)) (fun _ => false) 43
         simpa only [World.size_alloc] using h
       have T4' : (((x3.alloc (.cells (bl (fun _ => false)).toArray 43)).alloc (.cells (bl (fun _ => false)).toArray 43)).setCells x3.heap.size 0 (bl (fun _ => false))).there (x3.heap.size + 1) 0 128 := World.there_setCells T4 _ 0 _
       have BB := below2 x3 (.cells (bl (fun _ => false)).toArray 43) (.cells (bl (fun _ => false)).toArray 43)
       have lc : x1.heap.size < x3.heap.size := C.lt
       go_wp2_with (first
         | refine wpList_store_mid rfl 43 (.tmp 18) (.tmp 104) rfl x3.heap.size 0 (bl (fun _ => false)).toArray rfl rfl (by rw [bl_size]; exact T3) (size25 _) (bl_all _) ?_
         | refine wpList_store_mid rfl 43 (.tmp 19) (.tmp 105) rfl (x3.heap.size + 1) 0 (bl (fun _ => false)).toArray rfl rfl (by rw [bl_size]; exact T4') (size25 _) (bl_all _) ?_)
       have RR := two_Rows (fun _ => false) (fun _ => false) T3 T4 (by omega)
       have BBB : Below x3.heap.size x3 ((((x3.alloc (.cells (bl (fun _ => false)).toArray 43)).alloc (.cells (bl (fun _ => false)).toArray 43)).setCells x3.heap.size 0 (bl (fun _ => false))).setCells (x3.heap.size + 1) 0 (bl (fun _ => false))) := Below.setCells _ _ _ (Below.setCells _ _ _ BB (Nat.le_refl _)) (by omega)
       have HI := Lib.hid (And.intro RR (And.intro (C.on BBB) (L.trans (BBB.mono L.size))))
       have lw := L.size
       clear RR BBB T3 T4 T4' BB C eC L hz hbd
       have hs0 : (n : Int) - (len : Int) = ((n - len : Nat) : Int) := by omega
       go_loopg [20] len (fun g i wr => ∃ q : Nat, n - len ≤ q ∧ q ≤ n ∧ g = n - q ∧ i = .int .i64 q ∧ Below w.heap.size w wr ∧ Blk wr x1.heap.size 26 #[.int .u64 (uv (putH 0#64 a n v &&& maskH (a + n - len) len)), .int .u64 (uv (putL 0#64 a n v &&& maskL (a + n - len) len)), .int .u64 (uv (maskH (a + n - len) len)), .int .u64 (uv (maskL (a + n - len) len))] ∧ Row wr x3.heap.size (carr a (a + (n - len)) q) ∧ Row wr (x3.heap.size + 1) (varr v a (a + (n - len)) q))
       case atStart => exact ⟨n - len, Nat.le_refl _, by omega, by omega, by rw [← hs0], HI.out.2.2, HI.out.2.1, HI.out.1.1.congr (carr_zero _ _), HI.out.1.2.congr (varr_zero _ _ _)⟩
       case round =>
        clear HI hs0
        obtain ⟨q, hq1, hq2, rfl, rfl, L, C, RC, RV⟩ := hrel
        by_cases hlt : q < n
        · have hlt' : (q : Int) < (n : Int) := by omega
          have hi1 : (a : Int) + (q : Int) < 128 := by omega
          have hi2 : (0 : Int) ≤ (a : Int) + (q : Int) := by omega
          have hp : a + q < 128 := by omega
          have c1 := RC.cell hp
          have f1 := RC.froz hp
          have c2 := RV.cell hp
          have f2 := RV.froz hp
          go_wp2
          go_roundg (n - (q + 1))
          case measure => omega
          case rel => exact ⟨q + 1, by omega, by omega, rfl, by go_num, (L.setCell (by dsimp only; omega) _).setCell (by dsimp only; omega) _, (C.far (by dsimp only; omega) _).far (by dsimp only; omega) _, (RC.set hp (carr_put a (a + (n - len)) q (by omega))).far (by dsimp only; omega), (RV.far (by dsimp only; omega)).set hp (varr_put v a (a + (n - len)) q (by omega) _ (v_bit v q))⟩
        · obtain rfl : q = n := by omega
          have hi1 := HI1.out
          have hnn : ¬ (q : Int) < (q : Int) := by omega
          go_wp2_with fail
          refine wp_region_held_drew (S := fun w' => (Below w.heap.size w w' ∧ w'.cell? ⟨x1.heap.size, 0, none⟩ = some (.int .u64 (uv (putH 0#64 a q v &&& maskH (a + q - len) len))) ∧ w'.cell? ⟨x1.heap.size, 1, none⟩ = some (.int .u64 (uv (putL 0#64 a q v &&& maskL (a + q - len) len))) ∧ w'.cell? ⟨x1.heap.size, 2, none⟩ = some (.int .u64 (uv (maskH (a + q - len) len))) ∧ w'.cell? ⟨x1.heap.size, 3, none⟩ = some (.int .u64 (uv (maskL (a + q - len) len)))) ∧ w'.rangeAt x3.heap.size 0 (bl (carr a (a + (q - len)) q)) ∧ w'.rangeAt (x3.heap.size + 1) 0 (bl (varr v a (a + (q - len)) q))) (by kernel_rfl) ⟨⟨L.drew, C.cell 0, C.cell 1, C.cell 2, C.cell 3⟩, RC.1, RV.1⟩ (fun hHeld => ?_)
          clear C RC RV L hnn
          refine wpAnyH_ready (rs := [0]) (by kernel_rfl) (by simp) ?_
          refine AllReadyH.cons (o := ⟨some 128, _, _, _, _, _⟩) rfl (fun K hK => ?_) AllReadyH.nil
          go_simp
          (with_reducible refine (awake2_c _).mono ?_)
          rintro e wq0 ⟨rfl, hb⟩
          (try dsimp only)
          refine hK.out _ _ (⟨hold4 hb hHeld.1, range_on hb hHeld.2.1, range_on hb hHeld.2.2⟩) (fun hNext => ?_)
          clear hK K hHeld hb
          have hHeld := hNext
          clear hNext
          try simp only [Act.put, List.setIfInBounds_toArray, List.set_cons_zero, List.set_cons_succ]
          refine wpAnyH_take (i := 1) (oi := ⟨some 129, _, _, _, _, _⟩) (v := ?vz1) rfl (by kernel_rfl) (by kernel_rfl) (by kernel_rfl) (fun _ _ _ h => h) (Or.inl ⟨by rfl, ?yz1⟩) hHeld ?rz1
          case yz1 => (intro w' hSw; (try dsimp only at hSw); go_simp; try (with_reducible rfl))
          simp only [Act.put, List.setIfInBounds_toArray, List.set_cons_zero, List.set_cons_succ]
          refine wpAnyH_take (i := 2) (oi := ⟨some 130, _, _, _, _, _⟩) (v := ?vz2) rfl (by kernel_rfl) (by kernel_rfl) (by kernel_rfl) (fun _ _ _ h => h) (Or.inl ⟨by rfl, ?yz2⟩) hHeld ?rz2
          case yz2 => (intro w' hSw; (try dsimp only at hSw); go_simp; try (with_reducible rfl))
          simp only [Act.put, List.setIfInBounds_toArray, List.set_cons_zero, List.set_cons_succ]
          refine wpAnyH_take (i := 3) (oi := ⟨some 131, _, _, _, _, _⟩) (v := ?vz3) rfl (by kernel_rfl) (by kernel_rfl) (by kernel_rfl) (fun _ _ _ h => h) (Or.inl ⟨by rfl, ?yz3⟩) hHeld ?rz3
          case yz3 => (intro w' hSw; (try dsimp only at hSw); go_simp; try (with_reducible rfl))
          simp only [Act.put, List.setIfInBounds_toArray, List.set_cons_zero, List.set_cons_succ]
          refine wpAnyH_take (i := 4) (oi := ⟨some 132, _, _, _, _, _⟩) (v := ?vz4) rfl (by kernel_rfl) (by kernel_rfl) (by kernel_rfl) (fun _ _ _ h => h) (Or.inl ⟨by rfl, ?yz4⟩) hHeld ?rz4
          case yz4 => (intro w' hSw; (try dsimp only at hSw); go_simp; try (with_reducible rfl))
          simp only [Act.put, List.setIfInBounds_toArray, List.set_cons_zero, List.set_cons_succ]
          refine wpAnyH_take (i := 5) (oi := ⟨some 133, _, _, _, _, _⟩) (v := ?vz5) rfl (by kernel_rfl) (by kernel_rfl) (by kernel_rfl) (fun _ _ _ h => h) (Or.inl ⟨by rfl, ?yz5⟩) hHeld ?rz5
          case yz5 => (intro w' hSw; (try dsimp only at hSw); go_simp; try (with_reducible rfl))
          simp only [Act.put, List.setIfInBounds_toArray, List.set_cons_zero, List.set_cons_succ]
          refine wpAnyH_take (i := 6) (oi := ⟨some 134, _, _, _, _, _⟩) (v := ?vz6) rfl (by kernel_rfl) (by kernel_rfl) (by kernel_rfl) (fun _ _ _ h => h) (Or.inl ⟨by rfl, ?yz6⟩) hHeld ?rz6
          case yz6 => (intro w' hSw; (try dsimp only at hSw); go_simp; try (with_reducible rfl))
          simp only [Act.put, List.setIfInBounds_toArray, List.set_cons_zero, List.set_cons_succ]
          refine wpAnyH_take (i := 7) (oi := ⟨some 135, _, _, _, _, _⟩) (v := .agg (bl (varr v a (a + (q - len)) q)).toArray) rfl (by kernel_rfl) (by kernel_rfl) (by kernel_rfl) (fun _ _ _ h => h) (yieldsIf_load_mid (by rfl) 43 _ rfl (x3.heap.size + 1) 0 rfl (bl (varr v a (a + (q - len)) q)) _ (fun _ hw => hw.2.2) Try.underlying43 rfl (hi1 _)) hHeld ?_
          simp only [Act.put, List.setIfInBounds_toArray, List.set_cons_zero, List.set_cons_succ]
          refine wpAnyH_take (i := 9) (oi := ⟨some 137, _, _, _, _, _⟩) (v := .agg (bl (carr a (a + (q - len)) q)).toArray) rfl (by kernel_rfl) (by kernel_rfl) (by kernel_rfl) (fun _ _ _ h => h) (yieldsIf_load_mid (by rfl) 43 _ rfl x3.heap.size 0 rfl (bl (carr a (a + (q - len)) q)) _ (fun _ hw => hw.2.1) Try.underlying43 rfl (hi1 _)) hHeld ?_
          simp only [Act.put, List.setIfInBounds_toArray, List.set_cons_zero, List.set_cons_succ]
          refine wpAnyH_ready (rs := [8]) (by kernel_rfl) (by simp) ?_
          refine AllReadyH.cons (o := ⟨some 136, _, _, _, _, _⟩) rfl (fun K hK => ?_) AllReadyH.nil
          go_simp
          (with_reducible refine (rhead_is (varr v a (a + (q - len)) q) _ _ _ NV.out).mono ?_)
          rintro e wq8 ⟨rfl, hb⟩
          (try dsimp only)
          refine hK.out _ _ (⟨hold4 hb hHeld.1, range_on hb hHeld.2.1, range_on hb hHeld.2.2⟩) (fun hNext => ?_)
          clear hK K hHeld hb
          have hHeld := hNext
          clear hNext
          try simp only [Act.put, List.setIfInBounds_toArray, List.set_cons_zero, List.set_cons_succ]
          refine wpAnyH_ready (rs := [10]) (by kernel_rfl) (by simp) ?_
          refine AllReadyH.cons (o := ⟨some 138, _, _, _, _, _⟩) rfl (fun K hK => ?_) AllReadyH.nil
          go_simp
          (with_reducible refine (rhead_is (carr a (a + (q - len)) q) _ _ _ NC.out).mono ?_)
          rintro e wq10 ⟨rfl, hb⟩
          (try dsimp only)
          refine hK.out _ _ (⟨hold4 hb hHeld.1, range_on hb hHeld.2.1, range_on hb hHeld.2.2⟩) (fun hNext => ?_)
          clear hK K hHeld hb
          have hHeld := hNext
          clear hNext
          try simp only [Act.put, List.setIfInBounds_toArray, List.set_cons_zero, List.set_cons_succ]
          refine wpAnyH_take (i := 11) (oi := ⟨some 139, _, _, _, _, _⟩) (v := ?vz11) rfl (by kernel_rfl) (by kernel_rfl) (by kernel_rfl) (fun _ _ _ h => h) (Or.inl ⟨by rfl, ?yz11⟩) hHeld ?rz11
          case yz11 => (intro w' hSw; (try dsimp only at hSw); go_simp; try (with_reducible rfl))
          simp only [Act.put, List.setIfInBounds_toArray, List.set_cons_zero, List.set_cons_succ]
          refine wpAnyH_take (i := 12) (oi := ⟨some 140, _, _, _, _, _⟩) (v := ?vz12) rfl (by kernel_rfl) (by kernel_rfl) (by kernel_rfl) (fun _ _ _ h => h) (Or.inl ⟨by rfl, ?yz12⟩) hHeld ?rz12
          case yz12 => (intro w' hSw; (try dsimp only at hSw); go_simp; try (with_reducible rfl))
          simp only [Act.put, List.setIfInBounds_toArray, List.set_cons_zero, List.set_cons_succ]
          refine wpAnyH_take (i := 13) (oi := ⟨some 141, _, _, _, _, _⟩) (v := ?vz13) rfl (by kernel_rfl) (by kernel_rfl) (by kernel_rfl) (fun _ _ _ h => h) (Or.inl ⟨by rfl, ?yz13⟩) hHeld ?rz13
          case yz13 => (intro w' hSw; (try dsimp only at hSw); go_simp; try (with_reducible rfl))
          simp only [Act.put, List.setIfInBounds_toArray, List.set_cons_zero, List.set_cons_succ]
          refine wpAnyH_take (i := 14) (oi := ⟨some 12, _, _, _, _, _⟩) (v := ?vz14) rfl (by kernel_rfl) (by kernel_rfl) (by kernel_rfl) (fun _ _ _ h => h) (Or.inl ⟨by rfl, ?yz14⟩) hHeld ?rz14
          case yz14 => (intro w' hSw; (try dsimp only at hSw); go_simp; try (with_reducible rfl))
          simp only [Act.put, List.setIfInBounds_toArray, List.set_cons_zero, List.set_cons_succ]
          refine wpAnyH_done (by kernel_rfl) ?_ _
          have L := hHeld.1.1
          go_wp2
          go_ret
          exact ⟨rfl, L⟩

set_option maxRecDepth 100000 in
set_option maxHeartbeats 8000000 in
theorem fields_okg (a n len : Nat) (v ah al bh bm : BitVec 64) (w : World) (hn : a + n ≤ 128) (h64 : n ≤ 64) (hv : ¬ uv (low n) < uv v) (hl : len ≤ n) (h3 : n = 64) :
    Calls Try.prog 6 #[.int .i64 a, .int .i64 n, .int .u64 (uv v), .int .i64 len, .agg #[.int .u64 (uv ah), .int .u64 (uv al)], .agg #[.int .u64 (uv bh), .int .u64 (uv bm)]] w fun e w' => e = .returned (.bool true) ∧ Below w.heap.size w w' := by
  have HV := Lib.hid hv
  have H3 := Lib.hid h3
  clear hv h3
  have hz := zero25
  have hi1 : ∀ f : Nat → Bool, (Try.prog.info? 43).map (·.size) = some (bl f).length := fun f => by rw [(zero_of_info info25).2, bl_len]
  have HI1 := Lib.hid hi1
  clear hi1
  have S0 : Below w.heap.size w ((w.alloc (.cells #[.int .u64 (uv ah), .int .u64 (uv al)] 24)).alloc (.cells #[.int .u64 (uv bh), .int .u64 (uv bm)] 24)) ∧ ((w.alloc (.cells #[.int .u64 (uv ah), .int .u64 (uv al)] 24)).alloc (.cells #[.int .u64 (uv bh), .int .u64 (uv bm)] 24)).cell? ⟨w.heap.size + 1, 0, none⟩ = some (.int .u64 (uv bh)) ∧ ((w.alloc (.cells #[.int .u64 (uv ah), .int .u64 (uv al)] 24)).alloc (.cells #[.int .u64 (uv bh), .int .u64 (uv bm)] 24)).cell? ⟨w.heap.size + 1, 1, none⟩ = some (.int .u64 (uv bm)) ∧ ((w.alloc (.cells #[.int .u64 (uv ah), .int .u64 (uv al)] 24)).alloc (.cells #[.int .u64 (uv bh), .int .u64 (uv bm)] 24)).cell? ⟨w.heap.size, 0, none⟩ = some (.int .u64 (uv ah)) ∧ ((w.alloc (.cells #[.int .u64 (uv ah), .int .u64 (uv al)] 24)).alloc (.cells #[.int .u64 (uv bh), .int .u64 (uv bm)] 24)).cell? ⟨w.heap.size, 1, none⟩ = some (.int .u64 (uv al)) := ⟨below2 w (.cells #[.int .u64 (uv ah), .int .u64 (uv al)] 24) (.cells #[.int .u64 (uv bh), .int .u64 (uv bm)] 24), by go_simp, by go_simp, by go_simp, by go_simp⟩
  go_enter Try.func6, Try.ntmps6
  go_upto_region 1 with (fail)
  refine fld_region _ _ _ _ ah al bh bm w _ _ ?_ ?_ S0
  · intro c a t v w h; exact h
  · intro bx by' u SC RX RY gx gy nxy
    clear S0 hz
    go_wp2_with fail
    go_loopg [15] 128 (fun g i wr => ∃ k : Nat, k ≤ 128 ∧ g = 128 - k ∧ i = .int .i64 k ∧ (Below w.heap.size w wr ∧ wr.cell? ⟨w.heap.size + 1, 0, none⟩ = some (.int .u64 (uv bh)) ∧ wr.cell? ⟨w.heap.size + 1, 1, none⟩ = some (.int .u64 (uv bm)) ∧ wr.cell? ⟨w.heap.size, 0, none⟩ = some (.int .u64 (uv ah)) ∧ wr.cell? ⟨w.heap.size, 1, none⟩ = some (.int .u64 (uv al))) ∧ Row wr bx (mix (hbit ah al) (fun j => hbit ah al j && hbit bh bm j) k) ∧ Row wr by' (hbit bh bm))
    case atStart => exact ⟨0, by omega, rfl, rfl, SC, by rw [mix_zero]; exact RX, RY⟩
    case round =>
     clear SC RX RY
     obtain ⟨k, hk, rfl, rfl, SC, RX, RY⟩ := hrel
     by_cases hlt : k < 128
     · have hlt' : (k : Int) < 128 := by omega
       have cx := RX.cell hlt
       have fx := RX.froz hlt
       have cy := RY.cell hlt
       have em : mix (hbit ah al) (fun j => hbit ah al j && hbit bh bm j) k k = hbit ah al k := by unfold mix; rw [if_neg (by omega)]
       rw [em] at cx
       clear em
       have SK := fun x => shold4 (sets1 wr bx k x) SC (by omega) (by dsimp only; omega) (by dsimp only; omega) (by dsimp only; omega) (by dsimp only; omega)
       have HSK := Lib.hid SK
       clear SK SC
       cases hA : hbit ah al k <;> cases hB : hbit bh bm k
       all_goals (
         rw [hA] at cx; rw [hB] at cy
         have HAB := Lib.hid (And.intro hA hB)
         clear hA hB
         go_wp2
         go_roundg (128 - (k + 1)))
       all_goals first
         | omega
         | exact ⟨k + 1, by omega, rfl, by go_num, HSK.out _, RX.set hlt (mix_set _ _ k _ (by rw [HAB.out.1, HAB.out.2]; rfl)), RY.far nxy⟩
     · obtain rfl : k = 128 := by omega
       have hi1 := HI1.out
       have RR := (RX.congr (mix_all _ _)).1
       clear RX RY
       go_wp2_with fail
       refine wp_region_held_drew (S := fun w' => (Below w.heap.size w w' ∧ w'.cell? ⟨w.heap.size + 1, 0, none⟩ = some (.int .u64 (uv bh)) ∧ w'.cell? ⟨w.heap.size + 1, 1, none⟩ = some (.int .u64 (uv bm)) ∧ w'.cell? ⟨w.heap.size, 0, none⟩ = some (.int .u64 (uv ah)) ∧ w'.cell? ⟨w.heap.size, 1, none⟩ = some (.int .u64 (uv al))) ∧ w'.rangeAt bx 0 (bl (fun j => hbit ah al j && hbit bh bm j))) (by kernel_rfl) ⟨⟨SC.1.drew, SC.2⟩, RR⟩ (fun hHeld => ?_)
       clear SC RR
       refine wpAnyH_take (i := 0) (oi := ⟨some 39, _, _, _, _, _⟩) (v := ?vs0) rfl (by kernel_rfl) (by kernel_rfl) (by kernel_rfl) (fun _ _ _ h => h) (Or.inl ⟨by rfl, ?ys0⟩) hHeld ?rs0
       case ys0 => (intro w' hSw; (try dsimp only at hSw); go_simp; try (with_reducible rfl))
       simp only [Act.put, List.setIfInBounds_toArray, List.set_cons_zero, List.set_cons_succ]
       refine wpAnyH_take (i := 1) (oi := ⟨some 40, _, _, _, _, _⟩) (v := ?vs1) rfl (by kernel_rfl) (by kernel_rfl) (by kernel_rfl) (fun _ _ _ h => h) (Or.inl ⟨by rfl, ?ys1⟩) hHeld ?rs1
       case ys1 => (intro w' hSw; (try dsimp only at hSw); go_simp; try (with_reducible rfl))
       simp only [Act.put, List.setIfInBounds_toArray, List.set_cons_zero, List.set_cons_succ]
       refine wpAnyH_take (i := 3) (oi := ⟨some 42, _, _, _, _, _⟩) (v := .agg (bl (fun j => hbit ah al j && hbit bh bm j)).toArray) rfl (by kernel_rfl) (by kernel_rfl) (by kernel_rfl) (fun _ _ _ h => h) (yieldsIf_load_mid (by rfl) 43 _ rfl bx 0 rfl (bl (fun j => hbit ah al j && hbit bh bm j)) _ (fun _ hw => hw.2) Try.underlying43 rfl (hi1 _)) hHeld ?_
       simp only [Act.put, List.setIfInBounds_toArray, List.set_cons_zero, List.set_cons_succ]
       refine wpAnyH_take (i := 5) (oi := ⟨some 44, _, _, _, _, _⟩) (v := ?vs5) rfl (by kernel_rfl) (by kernel_rfl) (by kernel_rfl) (fun _ _ _ h => h) (Or.inl ⟨by rfl, ?ys5⟩) hHeld ?rs5
       case ys5 => (intro w' hSw; (try dsimp only at hSw); go_simp; try (with_reducible rfl))
       simp only [Act.put, List.setIfInBounds_toArray, List.set_cons_zero, List.set_cons_succ]
       refine wpAnyH_ready (rs := [2]) (by kernel_rfl) (by simp) ?_
       refine AllReadyH.cons (o := ⟨some 41, _, _, _, _, _⟩) rfl (fun K hK => ?_) AllReadyH.nil
       go_simp
       (with_reducible refine (make_c _ _ _ _ _).mono ?_)
       rintro e wq2 ⟨rfl, hb⟩
       (try dsimp only)
       refine hK.out _ _ (⟨hold4 hb hHeld.1, range_on hb hHeld.2⟩) (fun hNext => ?_)
       clear hK K hHeld hb
       have hHeld := hNext
       clear hNext
       try simp only [Act.put, List.setIfInBounds_toArray, List.set_cons_zero, List.set_cons_succ]
       refine wpAnyH_ready (rs := [4]) (by kernel_rfl) (by simp) ?_
       refine AllReadyH.cons (o := ⟨some 43, _, _, _, _, _⟩) rfl (fun K hK => ?_) AllReadyH.nil
       go_simp
       (with_reducible refine (rhead_is (fun j => hbit ah al j && hbit bh bm j) (ah &&& bh) (al &&& bm) _ (and_num ah al bh bm)).mono ?_)
       rintro e wq4 ⟨rfl, hb⟩
       (try dsimp only)
       refine hK.out _ _ (⟨hold4 hb hHeld.1, range_on hb hHeld.2⟩) (fun hNext => ?_)
       clear hK K hHeld hb
       have hHeld := hNext
       clear hNext
       try simp only [Act.put, List.setIfInBounds_toArray, List.set_cons_zero, List.set_cons_succ]
       refine wpAnyH_take (i := 6) (oi := ⟨some 45, _, _, _, _, _⟩) (v := ?vs6) rfl (by kernel_rfl) (by kernel_rfl) (by kernel_rfl) (fun _ _ _ h => h) (Or.inl ⟨by rfl, ?ys6⟩) hHeld ?rs6
       case ys6 => (intro w' hSw; (try dsimp only at hSw); go_simp; try (with_reducible rfl))
       simp only [Act.put, List.setIfInBounds_toArray, List.set_cons_zero, List.set_cons_succ]
       refine wpAnyH_take (i := 7) (oi := ⟨some 46, _, _, _, _, _⟩) (v := ?vs7) rfl (by kernel_rfl) (by kernel_rfl) (by kernel_rfl) (fun _ _ _ h => h) (Or.inl ⟨by rfl, ?ys7⟩) hHeld ?rs7
       case ys7 => (intro w' hSw; (try dsimp only at hSw); go_simp; try (with_reducible rfl))
       simp only [Act.put, List.setIfInBounds_toArray, List.set_cons_zero, List.set_cons_succ]
       refine wpAnyH_take (i := 8) (oi := ⟨some 47, _, _, _, _, _⟩) (v := ?vs8) rfl (by kernel_rfl) (by kernel_rfl) (by kernel_rfl) (fun _ _ _ h => h) (Or.inl ⟨by rfl, ?ys8⟩) hHeld ?rs8
       case ys8 => (intro w' hSw; (try dsimp only at hSw); go_simp; try (with_reducible rfl))
       simp only [Act.put, List.setIfInBounds_toArray, List.set_cons_zero, List.set_cons_succ]
       refine wpAnyH_take (i := 10) (oi := ⟨some 49, _, _, _, _, _⟩) (v := ?vs10) rfl (by kernel_rfl) (by kernel_rfl) (by kernel_rfl) (fun _ _ _ h => h) (Or.inl ⟨by rfl, ?ys10⟩) hHeld ?rs10
       case ys10 => (intro w' hSw; (try dsimp only at hSw); go_simp; try (with_reducible rfl))
       simp only [Act.put, List.setIfInBounds_toArray, List.set_cons_zero, List.set_cons_succ]
       refine wpAnyH_ready (rs := [9]) (by kernel_rfl) (by simp) ?_
       refine AllReadyH.cons (o := ⟨some 48, _, _, _, _, _⟩) rfl (fun K hK => ?_) AllReadyH.nil
       go_simp
       (with_reducible refine (all_u _).mono ?_)
       rintro e wq9 ⟨rfl, hb⟩
       (try dsimp only)
       refine hK.out _ _ (⟨hold4 hb hHeld.1, range_on hb hHeld.2⟩) (fun hNext => ?_)
       clear hK K hHeld hb
       have hHeld := hNext
       clear hNext
       try simp only [Act.put, List.setIfInBounds_toArray, List.set_cons_zero, List.set_cons_succ]
       refine wpAnyH_take (i := 11) (oi := ⟨some 50, _, _, _, _, _⟩) (v := ?vs11) rfl (by kernel_rfl) (by kernel_rfl) (by kernel_rfl) (fun _ _ _ h => h) (Or.inl ⟨by rfl, ?ys11⟩) hHeld ?rs11
       case ys11 => (intro w' hSw; (try dsimp only at hSw); go_simp; try (with_reducible rfl))
       simp only [Act.put, List.setIfInBounds_toArray, List.set_cons_zero, List.set_cons_succ]
       refine wpAnyH_take (i := 12) (oi := ⟨some 51, _, _, _, _, _⟩) (v := ?vs12) rfl (by kernel_rfl) (by kernel_rfl) (by kernel_rfl) (fun _ _ _ h => h) (Or.inl ⟨by rfl, ?ys12⟩) hHeld ?rs12
       case ys12 => (intro w' hSw; (try dsimp only at hSw); go_simp; try (with_reducible rfl))
       simp only [Act.put, List.setIfInBounds_toArray, List.set_cons_zero, List.set_cons_succ]
       refine wpAnyH_done (by kernel_rfl) ?_ _
       have L := hHeld.1.1
       clear hHeld hi1
       go_wp2_with fail
       (with_reducible refine (cfield_yes a n len v _ hn h64 (by have := HV.out; omega) hl).mono ?_)
       rintro e x1 ⟨rfl, hb⟩
       replace L := L.trans (hb.mono L.size)
       clear hb
       go_upto_region 9 with (fail)
       have hb := below1 x1 (.cells #[.int .u64 (uv (putH 0#64 a n v &&& maskH (a + n - len) len)), .int .u64 (uv (putL 0#64 a n v &&& maskL (a + n - len) len)), .int .u64 (uv (maskH (a + n - len) len)), .int .u64 (uv (maskL (a + n - len) len))] 26)
       replace L := L.trans (hb.mono L.size)
       have C : Blk (x1.alloc (.cells #[.int .u64 (uv (putH 0#64 a n v &&& maskH (a + n - len) len)), .int .u64 (uv (putL 0#64 a n v &&& maskL (a + n - len) len)), .int .u64 (uv (maskH (a + n - len) len)), .int .u64 (uv (maskL (a + n - len) len))] 26)) x1.heap.size 26 #[.int .u64 (uv (putH 0#64 a n v &&& maskH (a + n - len) len)), .int .u64 (uv (putL 0#64 a n v &&& maskL (a + n - len) len)), .int .u64 (uv (maskH (a + n - len) len)), .int .u64 (uv (maskL (a + n - len) len))] := Blk.new x1 _ _
       clear hb
       generalize (x1.alloc (.cells #[.int .u64 (uv (putH 0#64 a n v &&& maskH (a + n - len) len)), .int .u64 (uv (putL 0#64 a n v &&& maskL (a + n - len) len)), .int .u64 (uv (maskH (a + n - len) len)), .int .u64 (uv (maskL (a + n - len) len))] 26)) = x2 at L C ⊢
       have eC := C.four
       go_wp2_with fail
       (with_reducible refine (rf_yes a n _ hn h64).mono ?_)
       rintro e x3 ⟨rfl, hb⟩
       replace L := L.trans (hb.mono L.size)
       replace C := C.on hb
       clear hb eC
       have eC := C.four
       have o1 : ¬ (n : Int) < 64 := by have := H3.out; omega
       have hl1 : ¬ (len : Int) < 0 := by omega
       have hl2 : ¬ (n : Int) < (len : Int) := by omega
       have NV := Lib.hid (varr_num v a n len hl hn h64)
       have NC := Lib.hid (carr_num a n len hl hn)
       have hz := zero25
       have hbd := build25
       go_upto_region 13 with (fail)
       clear o1 hl1 hl2
       have T3 : ((x3.alloc (.cells (bl (fun _ => false)).toArray 43)).alloc (.cells (bl (fun _ => false)).toArray 43)).there x3.heap.size 0 128 := World.there_alloc (there_of_alloc x3 (fun _ => false) 43) (.cells (bl (fun _ => false)).toArray 43)
       have T4 : ((x3.alloc (.cells (bl (fun _ => false)).toArray 43)).alloc (.cells (bl (fun _ => false)).toArray 43)).there (x3.heap.size + 1) 0 128 := by
         have h := there_of_alloc (x3.alloc (.cells (bl (fun _ => false)).toArray 43)) (fun _ => false) 43
         simpa only [World.size_alloc] using h
       have T4' : (((x3.alloc (.cells (bl (fun _ => false)).toArray 43)).alloc (.cells (bl (fun _ => false)).toArray 43)).setCells x3.heap.size 0 (bl (fun _ => false))).there (x3.heap.size + 1) 0 128 := World.there_setCells T4 _ 0 _
       have BB := below2 x3 (.cells (bl (fun _ => false)).toArray 43) (.cells (bl (fun _ => false)).toArray 43)
       have lc : x1.heap.size < x3.heap.size := C.lt
       go_wp2_with (first
         | refine wpList_store_mid rfl 43 (.tmp 18) (.tmp 104) rfl x3.heap.size 0 (bl (fun _ => false)).toArray rfl rfl (by rw [bl_size]; exact T3) (size25 _) (bl_all _) ?_
         | refine wpList_store_mid rfl 43 (.tmp 19) (.tmp 105) rfl (x3.heap.size + 1) 0 (bl (fun _ => false)).toArray rfl rfl (by rw [bl_size]; exact T4') (size25 _) (bl_all _) ?_)
       have RR := two_Rows (fun _ => false) (fun _ => false) T3 T4 (by omega)
       have BBB : Below x3.heap.size x3 ((((x3.alloc (.cells (bl (fun _ => false)).toArray 43)).alloc (.cells (bl (fun _ => false)).toArray 43)).setCells x3.heap.size 0 (bl (fun _ => false))).setCells (x3.heap.size + 1) 0 (bl (fun _ => false))) := Below.setCells _ _ _ (Below.setCells _ _ _ BB (Nat.le_refl _)) (by omega)
       have HI := Lib.hid (And.intro RR (And.intro (C.on BBB) (L.trans (BBB.mono L.size))))
       have lw := L.size
       clear RR BBB T3 T4 T4' BB C eC L hz hbd
       have hs0 : (n : Int) - (len : Int) = ((n - len : Nat) : Int) := by omega
       go_loopg [20] len (fun g i wr => ∃ q : Nat, n - len ≤ q ∧ q ≤ n ∧ g = n - q ∧ i = .int .i64 q ∧ Below w.heap.size w wr ∧ Blk wr x1.heap.size 26 #[.int .u64 (uv (putH 0#64 a n v &&& maskH (a + n - len) len)), .int .u64 (uv (putL 0#64 a n v &&& maskL (a + n - len) len)), .int .u64 (uv (maskH (a + n - len) len)), .int .u64 (uv (maskL (a + n - len) len))] ∧ Row wr x3.heap.size (carr a (a + (n - len)) q) ∧ Row wr (x3.heap.size + 1) (varr v a (a + (n - len)) q))
       case atStart => exact ⟨n - len, Nat.le_refl _, by omega, by omega, by rw [← hs0], HI.out.2.2, HI.out.2.1, HI.out.1.1.congr (carr_zero _ _), HI.out.1.2.congr (varr_zero _ _ _)⟩
       case round =>
        clear HI hs0
        obtain ⟨q, hq1, hq2, rfl, rfl, L, C, RC, RV⟩ := hrel
        by_cases hlt : q < n
        · have hlt' : (q : Int) < (n : Int) := by omega
          have hi1 : (a : Int) + (q : Int) < 128 := by omega
          have hi2 : (0 : Int) ≤ (a : Int) + (q : Int) := by omega
          have hp : a + q < 128 := by omega
          have c1 := RC.cell hp
          have f1 := RC.froz hp
          have c2 := RV.cell hp
          have f2 := RV.froz hp
          go_wp2
          go_roundg (n - (q + 1))
          case measure => omega
          case rel => exact ⟨q + 1, by omega, by omega, rfl, by go_num, (L.setCell (by dsimp only; omega) _).setCell (by dsimp only; omega) _, (C.far (by dsimp only; omega) _).far (by dsimp only; omega) _, (RC.set hp (carr_put a (a + (n - len)) q (by omega))).far (by dsimp only; omega), (RV.far (by dsimp only; omega)).set hp (varr_put v a (a + (n - len)) q (by omega) _ (v_bit v q))⟩
        · obtain rfl : q = n := by omega
          have hi1 := HI1.out
          have hnn : ¬ (q : Int) < (q : Int) := by omega
          go_wp2_with fail
          refine wp_region_held_drew (S := fun w' => (Below w.heap.size w w' ∧ w'.cell? ⟨x1.heap.size, 0, none⟩ = some (.int .u64 (uv (putH 0#64 a q v &&& maskH (a + q - len) len))) ∧ w'.cell? ⟨x1.heap.size, 1, none⟩ = some (.int .u64 (uv (putL 0#64 a q v &&& maskL (a + q - len) len))) ∧ w'.cell? ⟨x1.heap.size, 2, none⟩ = some (.int .u64 (uv (maskH (a + q - len) len))) ∧ w'.cell? ⟨x1.heap.size, 3, none⟩ = some (.int .u64 (uv (maskL (a + q - len) len)))) ∧ w'.rangeAt x3.heap.size 0 (bl (carr a (a + (q - len)) q)) ∧ w'.rangeAt (x3.heap.size + 1) 0 (bl (varr v a (a + (q - len)) q))) (by kernel_rfl) ⟨⟨L.drew, C.cell 0, C.cell 1, C.cell 2, C.cell 3⟩, RC.1, RV.1⟩ (fun hHeld => ?_)
          clear C RC RV L hnn
          refine wpAnyH_ready (rs := [0]) (by kernel_rfl) (by simp) ?_
          refine AllReadyH.cons (o := ⟨some 128, _, _, _, _, _⟩) rfl (fun K hK => ?_) AllReadyH.nil
          go_simp
          (with_reducible refine (awake2_c _).mono ?_)
          rintro e wq0 ⟨rfl, hb⟩
          (try dsimp only)
          refine hK.out _ _ (⟨hold4 hb hHeld.1, range_on hb hHeld.2.1, range_on hb hHeld.2.2⟩) (fun hNext => ?_)
          clear hK K hHeld hb
          have hHeld := hNext
          clear hNext
          try simp only [Act.put, List.setIfInBounds_toArray, List.set_cons_zero, List.set_cons_succ]
          refine wpAnyH_take (i := 1) (oi := ⟨some 129, _, _, _, _, _⟩) (v := ?vz1) rfl (by kernel_rfl) (by kernel_rfl) (by kernel_rfl) (fun _ _ _ h => h) (Or.inl ⟨by rfl, ?yz1⟩) hHeld ?rz1
          case yz1 => (intro w' hSw; (try dsimp only at hSw); go_simp; try (with_reducible rfl))
          simp only [Act.put, List.setIfInBounds_toArray, List.set_cons_zero, List.set_cons_succ]
          refine wpAnyH_take (i := 2) (oi := ⟨some 130, _, _, _, _, _⟩) (v := ?vz2) rfl (by kernel_rfl) (by kernel_rfl) (by kernel_rfl) (fun _ _ _ h => h) (Or.inl ⟨by rfl, ?yz2⟩) hHeld ?rz2
          case yz2 => (intro w' hSw; (try dsimp only at hSw); go_simp; try (with_reducible rfl))
          simp only [Act.put, List.setIfInBounds_toArray, List.set_cons_zero, List.set_cons_succ]
          refine wpAnyH_take (i := 3) (oi := ⟨some 131, _, _, _, _, _⟩) (v := ?vz3) rfl (by kernel_rfl) (by kernel_rfl) (by kernel_rfl) (fun _ _ _ h => h) (Or.inl ⟨by rfl, ?yz3⟩) hHeld ?rz3
          case yz3 => (intro w' hSw; (try dsimp only at hSw); go_simp; try (with_reducible rfl))
          simp only [Act.put, List.setIfInBounds_toArray, List.set_cons_zero, List.set_cons_succ]
          refine wpAnyH_take (i := 4) (oi := ⟨some 132, _, _, _, _, _⟩) (v := ?vz4) rfl (by kernel_rfl) (by kernel_rfl) (by kernel_rfl) (fun _ _ _ h => h) (Or.inl ⟨by rfl, ?yz4⟩) hHeld ?rz4
          case yz4 => (intro w' hSw; (try dsimp only at hSw); go_simp; try (with_reducible rfl))
          simp only [Act.put, List.setIfInBounds_toArray, List.set_cons_zero, List.set_cons_succ]
          refine wpAnyH_take (i := 5) (oi := ⟨some 133, _, _, _, _, _⟩) (v := ?vz5) rfl (by kernel_rfl) (by kernel_rfl) (by kernel_rfl) (fun _ _ _ h => h) (Or.inl ⟨by rfl, ?yz5⟩) hHeld ?rz5
          case yz5 => (intro w' hSw; (try dsimp only at hSw); go_simp; try (with_reducible rfl))
          simp only [Act.put, List.setIfInBounds_toArray, List.set_cons_zero, List.set_cons_succ]
          refine wpAnyH_take (i := 6) (oi := ⟨some 134, _, _, _, _, _⟩) (v := ?vz6) rfl (by kernel_rfl) (by kernel_rfl) (by kernel_rfl) (fun _ _ _ h => h) (Or.inl ⟨by rfl, ?yz6⟩) hHeld ?rz6
          case yz6 => (intro w' hSw; (try dsimp only at hSw); go_simp; try (with_reducible rfl))
          simp only [Act.put, List.setIfInBounds_toArray, List.set_cons_zero, List.set_cons_succ]
          refine wpAnyH_take (i := 7) (oi := ⟨some 135, _, _, _, _, _⟩) (v := .agg (bl (varr v a (a + (q - len)) q)).toArray) rfl (by kernel_rfl) (by kernel_rfl) (by kernel_rfl) (fun _ _ _ h => h) (yieldsIf_load_mid (by rfl) 43 _ rfl (x3.heap.size + 1) 0 rfl (bl (varr v a (a + (q - len)) q)) _ (fun _ hw => hw.2.2) Try.underlying43 rfl (hi1 _)) hHeld ?_
          simp only [Act.put, List.setIfInBounds_toArray, List.set_cons_zero, List.set_cons_succ]
          refine wpAnyH_take (i := 9) (oi := ⟨some 137, _, _, _, _, _⟩) (v := .agg (bl (carr a (a + (q - len)) q)).toArray) rfl (by kernel_rfl) (by kernel_rfl) (by kernel_rfl) (fun _ _ _ h => h) (yieldsIf_load_mid (by rfl) 43 _ rfl x3.heap.size 0 rfl (bl (carr a (a + (q - len)) q)) _ (fun _ hw => hw.2.1) Try.underlying43 rfl (hi1 _)) hHeld ?_
          simp only [Act.put, List.setIfInBounds_toArray, List.set_cons_zero, List.set_cons_succ]
          refine wpAnyH_ready (rs := [8]) (by kernel_rfl) (by simp) ?_
          refine AllReadyH.cons (o := ⟨some 136, _, _, _, _, _⟩) rfl (fun K hK => ?_) AllReadyH.nil
          go_simp
          (with_reducible refine (rhead_is (varr v a (a + (q - len)) q) _ _ _ NV.out).mono ?_)
          rintro e wq8 ⟨rfl, hb⟩
          (try dsimp only)
          refine hK.out _ _ (⟨hold4 hb hHeld.1, range_on hb hHeld.2.1, range_on hb hHeld.2.2⟩) (fun hNext => ?_)
          clear hK K hHeld hb
          have hHeld := hNext
          clear hNext
          try simp only [Act.put, List.setIfInBounds_toArray, List.set_cons_zero, List.set_cons_succ]
          refine wpAnyH_ready (rs := [10]) (by kernel_rfl) (by simp) ?_
          refine AllReadyH.cons (o := ⟨some 138, _, _, _, _, _⟩) rfl (fun K hK => ?_) AllReadyH.nil
          go_simp
          (with_reducible refine (rhead_is (carr a (a + (q - len)) q) _ _ _ NC.out).mono ?_)
          rintro e wq10 ⟨rfl, hb⟩
          (try dsimp only)
          refine hK.out _ _ (⟨hold4 hb hHeld.1, range_on hb hHeld.2.1, range_on hb hHeld.2.2⟩) (fun hNext => ?_)
          clear hK K hHeld hb
          have hHeld := hNext
          clear hNext
          try simp only [Act.put, List.setIfInBounds_toArray, List.set_cons_zero, List.set_cons_succ]
          refine wpAnyH_take (i := 11) (oi := ⟨some 139, _, _, _, _, _⟩) (v := ?vz11) rfl (by kernel_rfl) (by kernel_rfl) (by kernel_rfl) (fun _ _ _ h => h) (Or.inl ⟨by rfl, ?yz11⟩) hHeld ?rz11
          case yz11 => (intro w' hSw; (try dsimp only at hSw); go_simp; try (with_reducible rfl))
          simp only [Act.put, List.setIfInBounds_toArray, List.set_cons_zero, List.set_cons_succ]
          refine wpAnyH_take (i := 12) (oi := ⟨some 140, _, _, _, _, _⟩) (v := ?vz12) rfl (by kernel_rfl) (by kernel_rfl) (by kernel_rfl) (fun _ _ _ h => h) (Or.inl ⟨by rfl, ?yz12⟩) hHeld ?rz12
          case yz12 => (intro w' hSw; (try dsimp only at hSw); go_simp; try (with_reducible rfl))
          simp only [Act.put, List.setIfInBounds_toArray, List.set_cons_zero, List.set_cons_succ]
          refine wpAnyH_take (i := 13) (oi := ⟨some 141, _, _, _, _, _⟩) (v := ?vz13) rfl (by kernel_rfl) (by kernel_rfl) (by kernel_rfl) (fun _ _ _ h => h) (Or.inl ⟨by rfl, ?yz13⟩) hHeld ?rz13
          case yz13 => (intro w' hSw; (try dsimp only at hSw); go_simp; try (with_reducible rfl))
          simp only [Act.put, List.setIfInBounds_toArray, List.set_cons_zero, List.set_cons_succ]
          refine wpAnyH_take (i := 14) (oi := ⟨some 12, _, _, _, _, _⟩) (v := ?vz14) rfl (by kernel_rfl) (by kernel_rfl) (by kernel_rfl) (fun _ _ _ h => h) (Or.inl ⟨by rfl, ?yz14⟩) hHeld ?rz14
          case yz14 => (intro w' hSw; (try dsimp only at hSw); go_simp; try (with_reducible rfl))
          simp only [Act.put, List.setIfInBounds_toArray, List.set_cons_zero, List.set_cons_succ]
          refine wpAnyH_done (by kernel_rfl) ?_ _
          have L := hHeld.1.1
          go_wp2
          go_ret
          exact ⟨rfl, L⟩

theorem fields_c (at' n len : Int) (v ah al bh bm : BitVec 64) (w : World) (h1 : at' ≤ 9223372036854775807) :
    Calls Try.prog 6 #[.int .i64 at', .int .i64 n, .int .u64 (uv v), .int .i64 len, .agg #[.int .u64 (uv ah), .int .u64 (uv al)], .agg #[.int .u64 (uv bh), .int .u64 (uv bm)]] w fun e w' => e = .returned (.bool true) ∧ Below w.heap.size w w' := by
  by_cases h : 0 ≤ at' ∧ 0 ≤ n ∧ n ≤ 128 - at' ∧ n ≤ 64
  · obtain ⟨g1, g2, g3, g4⟩ := h
    obtain ⟨a, rfl⟩ := Int.eq_ofNat_of_zero_le g1
    obtain ⟨m, rfl⟩ := Int.eq_ofNat_of_zero_le g2
    have hn : a + m ≤ 128 := by omega
    have h64 : m ≤ 64 := by omega
    by_cases hv : uv (low m) < uv v
    · exact fields_over a m len v ah al bh bm w hn h64 hv
    · by_cases hl : len < 0
      · by_cases h3 : m < 64
        · exact fields_lenas a m len v ah al bh bm w hn h64 hv hl h3
        · exact fields_lenag a m len v ah al bh bm w hn h64 hv hl (by omega)
      · by_cases hl2 : (m : Int) < len
        · by_cases h3 : m < 64
          · exact fields_lenbs a m len v ah al bh bm w hn h64 hv hl2 h3
          · exact fields_lenbg a m len v ah al bh bm w hn h64 hv hl2 (by omega)
        · obtain ⟨k, rfl⟩ := Int.eq_ofNat_of_zero_le (show 0 ≤ len by omega)
          by_cases h3 : m < 64
          · exact fields_oks a m k v ah al bh bm w hn h64 hv (by omega) h3
          · exact fields_okg a m k v ah al bh bm w hn h64 hv (by omega) (by omega)
  · exact fields_arg at' n len v ah al bh bm w h h1
end Go.Proofs
