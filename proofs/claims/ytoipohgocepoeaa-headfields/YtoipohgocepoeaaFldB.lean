/-
  The law HeadFields returns true where the field holds the value.
-/
import Derived.Test.YtoipohgocepoeaaFldA
namespace Go.Proofs
open Go.RowKit Go.Proofs.Hd
attribute [local go_sem] uv_shr uv_nonneg

theorem range_of_row {w : World} {b : Nat} {f : Nat → Bool} (h : w.heap[b]? = some (.cells (bl f).toArray 25)) : w.rangeAt b 0 (bl f) := by
  intro j x hj
  rw [Nat.zero_add, cell_of_row w b j _ 25 (0, 0) h]
  simpa using hj
theorem row_set {w : World} {b k : Nat} {f g : Nat → Bool} {x : Bool} (h : w.heap[b]? = some (.cells (bl f).toArray 25)) (e : (bl f).set k (.bool x) = bl g) : (w.setCell ⟨b, k, none⟩ (.bool x)).heap[b]? = some (.cells (bl g).toArray 25) := by
  rw [heap_setCell_same w b k _ 25 _ h, List.setIfInBounds_toArray, e]

set_option maxRecDepth 100000 in
set_option maxHeartbeats 2000000 in
theorem fields_fit (h l v : BitVec 64) (a n : Nat) (w : World) (hk : a + n ≤ 128) (hn : n ≤ 64) (hv : ¬ uv (low n) < uv v) :
    Calls Try.prog 4 #[.agg #[.int .u64 (uv h), .int .u64 (uv l)], .int .i64 a, .int .i64 n, .int .u64 (uv v)] w fun e w' => e = .returned (.bool true) ∧ Below w.heap.size w w' := by
  have HV := Lib.hid hv
  clear hv
  go_enter Try.func4, Try.ntmps4
  go_wp2_with fail
  refine (mask_c a n _ hk).mono ?_
  rintro e w1 ⟨rfl, hb1⟩
  have p1 : w1.cell? ⟨w.heap.size, 0, none⟩ = some (.int .u64 (uv h)) := on_some hb1 (by go_simp)
  have p2 : w1.cell? ⟨w.heap.size, 1, none⟩ = some (.int .u64 (uv l)) := on_some hb1 (by go_simp)
  have z1 : w.heap.size < w1.heap.size := by have := hb1.size; simp at this; omega
  have B1 : Below w.heap.size w w1 := ((Below.refl _ w).alloc (Nat.le_refl _) _).trans (hb1.mono (by simp))
  clear hb1
  go_wp2_with fail
  refine (get_c h l a n _ hk hn).mono ?_
  rintro e w2 ⟨rfl, hb2⟩
  have q1 : w2.cell? ⟨w.heap.size, 0, none⟩ = some (.int .u64 (uv h)) := on_some hb2 (by go_simp)
  have q2 : w2.cell? ⟨w.heap.size, 1, none⟩ = some (.int .u64 (uv l)) := on_some hb2 (by go_simp)
  have q3 : w2.cell? ⟨w1.heap.size, 0, none⟩ = some (.int .u64 (uv (maskH a n))) := on_some hb2 (by go_simp)
  have q4 : w2.cell? ⟨w1.heap.size, 1, none⟩ = some (.int .u64 (uv (maskL a n))) := on_some hb2 (by go_simp)
  have z2 : w1.heap.size < w2.heap.size := by have := hb2.size; simp at this; omega
  have B2 : Below w.heap.size w w2 := (B1.alloc (by omega) _).trans (hb2.mono (by simp; omega))
  clear hb2 B1 p1 p2
  go_wp2_with fail
  refine (put_c h l a n v _ hk hn (Int.not_lt.2 HV.out)).mono ?_
  rintro e w3 ⟨rfl, hb3⟩
  have p1 := on_some hb3 q1
  have p2 := on_some hb3 q2
  have p3 := on_some hb3 q3
  have p4 := on_some hb3 q4
  have B3 : Below w.heap.size w w3 := B2.trans (hb3.mono B2.size)
  have z3 : w.heap.size < w3.heap.size := by have := hb3.size; omega
  have z4 : w1.heap.size < w3.heap.size := by have := hb3.size; omega
  clear hb3 B2 q1 q2 q3 q4 z2

  have hz := zero25
  have hbd := build25
  have ha' : (a : Int) ≤ 128 := by omega
  have hn' : (n : Int) ≤ 128 := by omega
  go_wp2_with (first
    | (go_at_call 20; refine (reffield_yes a n _ hk).mono ?_; rintro e w' ⟨rfl, rfl⟩)
    | refine put_new rfl _ _ rfl (fun _ => false) (fun _ => false) _ (by simp) rfl rfl ?_)
  go_loopg [16] n (fun g i wr => ∃ k : Nat, k ≤ n ∧ g = n - k ∧ i = .int .i64 k ∧ wr = (w3.alloc (.cells #[.int .u64 (uv (putH h a n v)), .int .u64 (uv (putL l a n v))] 24)).alloc (.cells (bl (mk a k)).toArray 25))
  case atStart => exact ⟨0, by omega, rfl, rfl, by rw [mk_zero]⟩
  case round =>
    obtain ⟨k, hkn, rfl, rfl, rfl⟩ := hrel
    by_cases hlt : k < n
    · have hlt' : (k : Int) < (n : Int) := by omega
      have hi1 : (a : Int) + (k : Int) < 128 := by omega
      have hi2 : (0 : Int) ≤ (a : Int) + (k : Int) := by omega
      have hg := bl_get (mk a k) (a + k) (by omega)
      go_wp2
      go_roundg (n - (k + 1))
      case measure => omega
      case rel => exact ⟨k + 1, by omega, rfl, by go_num, by rw [mk_succ]⟩
    · obtain rfl : n = k := by omega
      clear hlt hkn
      have hnn : ¬ (n : Int) < (n : Int) := by omega

      go_wp2_with fail
      have hi1 : (Try.prog.info? 25).map (·.size) = some (bl (mk a n)).length := by rw [(zero_of_info info25).2, bl_len]
      have hu1 := Try.underlying25
      have hrg : ((w3.alloc (.cells #[.int .u64 (uv (putH h a n v)), .int .u64 (uv (putL l a n v))] 24)).alloc (.cells (bl (mk a n)).toArray 25)).rangeAt (w3.heap.size + 1) 0 (bl (mk a n)) := by
        have := range_of_alloc (w3.alloc (.cells #[.int .u64 (uv (putH h a n v)), .int .u64 (uv (putL l a n v))] 24)) (mk a n) 25
        rwa [World.size_alloc] at this
      go_region_held3 (fun w' => Below (w3.heap.size + 2) ((w3.alloc (.cells #[.int .u64 (uv (putH h a n v)), .int .u64 (uv (putL l a n v))] 24)).alloc (.cells (bl (mk a n)).toArray 25)) w' ∧ w'.cell? ⟨w1.heap.size, 0, none⟩ = some (.int .u64 (uv (maskH a n))) ∧ w'.cell? ⟨w1.heap.size, 1, none⟩ = some (.int .u64 (uv (maskL a n))) ∧ w'.rangeAt (w3.heap.size + 1) 0 (bl (mk a n)))
        (first
          | exact keepM (by assumption) (by assumption) (by simp) (by omega) (by omega)
          | exact ⟨(Below.refl _ _).drew, by go_simp, by go_simp, hrg⟩)
        (first
          | (go_at_call 11; (with_reducible refine (refmask a n _ hk).mono ?_); rintro e w5 ⟨rfl, hb5⟩))
      clear hu1 hi1 hrg

      have hn64 : ¬ (64 : Int) < (n : Int) := by omega
      have hbw : Below (w3.heap.size + 2) ((w3.alloc (.cells #[.int .u64 (uv (putH h a n v)), .int .u64 (uv (putL l a n v))] 24)).alloc (.cells (bl (mk a n)).toArray 25)) w5 := And.left (by assumption)
      have r1 : w5.cell? ⟨w.heap.size, 0, none⟩ = some (.int .u64 (uv h)) := (hbw.cell (p := ⟨w.heap.size, 0, none⟩) (by simp; omega)).trans (by go_simp)
      have r2 : w5.cell? ⟨w.heap.size, 1, none⟩ = some (.int .u64 (uv l)) := (hbw.cell (p := ⟨w.heap.size, 1, none⟩) (by simp; omega)).trans (by go_simp)
      have r5 : w5.cell? ⟨w3.heap.size, 0, none⟩ = some (.int .u64 (uv (putH h a n v))) := (hbw.cell (p := ⟨w3.heap.size, 0, none⟩) (by simp)).trans (by go_simp)
      have r6 : w5.cell? ⟨w3.heap.size, 1, none⟩ = some (.int .u64 (uv (putL l a n v))) := (hbw.cell (p := ⟨w3.heap.size, 1, none⟩) (by simp)).trans (by go_simp)
      have B5 : Below w.heap.size w w5 := ((B3.alloc (by omega) _).alloc (by simp; omega) _).trans (hbw.mono (by omega))
      clear hbw hb5 p1 p2 p3 p4 hbd B3
      go_wp2_with fail
      refine (bits_c h l _).mono ?_
      rintro e w6 ⟨rfl, hb6⟩
      have s5 := on_some hb6 r5
      have s6 := on_some hb6 r6
      have B6 : Below w.heap.size w w6 := B5.trans (hb6.mono B5.size)
      have z6 : w3.heap.size < w6.heap.size := World.block_lt_of_cell? w6 ⟨w3.heap.size, 0, none⟩ s5
      clear hb6 r5 r6 r1 r2 B5
      go_wp2_with (refine put_new rfl _ _ rfl (fun _ => false) (hbit h l) _ (by simp) rfl rfl ?_)
      refine get_op _ rfl (hbit h l) _ rfl rfl ?_
      go_wp2_with fail
      refine (refget h l a n _ hk hn).mono ?_
      rintro e w7 ⟨rfl, hb7⟩
      have u5 : w7.cell? ⟨w3.heap.size, 0, none⟩ = some (.int .u64 (uv (putH h a n v))) := on_some hb7 (by go_simp)
      have u6 : w7.cell? ⟨w3.heap.size, 1, none⟩ = some (.int .u64 (uv (putL l a n v))) := on_some hb7 (by go_simp)
      have B7 : Below w.heap.size w w7 := (B6.alloc B6.size _).trans (hb7.mono (by have := B6.size; simp; omega))
      have hrow : w7.heap[w6.heap.size]? = some (.cells (bl (hbit h l)).toArray 25) := (hb7.block w6.heap.size (by simp)).trans (heap_alloc_last w6 _)
      have B6size : w.heap.size ≤ w6.heap.size := B6.size
      clear hb7 s5 s6 B6

      have B6s := Lib.hid B6size
      have HROW := Lib.hid hrow
      have HZ := Lib.hid z6
      clear hrow z6
      by_cases c64 : n < 64
      · have hlt1 : (n : Int) < 64 := by omega
        have hne1 := fit_small v n hn (Int.not_lt.2 HV.out)
        go_wp2_with fail
        go_loopg [18] n (fun g i wr => ∃ k : Nat, k ≤ n ∧ g = n - k ∧ i = .int .i64 k ∧ wr.heap[w6.heap.size]? = some (.cells (bl (pt h l v a k)).toArray 25) ∧ Below w.heap.size w wr ∧ wr.cell? ⟨w3.heap.size, 0, none⟩ = some (.int .u64 (uv (putH h a n v))) ∧ wr.cell? ⟨w3.heap.size, 1, none⟩ = some (.int .u64 (uv (putL l a n v))))
        case atStart => exact ⟨0, by omega, rfl, rfl, by rw [pt_zero]; exact HROW.out, B7, u5, u6⟩
        case round =>
          obtain ⟨k, hkn, rfl, rfl, hrow, BR, x5, x6⟩ := hrel
          by_cases hlt : k < n
          · have hlt' : (k : Int) < (n : Int) := by omega
            have hi1 : (a : Int) + (k : Int) < 128 := by omega
            have hi2 : (0 : Int) ≤ (a : Int) + (k : Int) := by omega
            have hc1 : wr.cell? ⟨w6.heap.size, a + k, none⟩ = some (.bool (pt h l v a k (a + k))) := range_cell (range_of_row hrow) (by omega)
            have hc2 : wr.frozen? ⟨w6.heap.size, a + k, none⟩ = false := frozen_of_row wr _ _ _ 25 hrow
            have HR := Lib.hid hrow
            have HX5 := Lib.hid x5
            have HX6 := Lib.hid x6
            have HBR := Lib.hid BR
            clear hrow x5 x6 BR
            go_wp2
            go_roundg (n - (k + 1))
            case measure => omega
            case rel =>
              have hz6 := HZ.out
              refine ⟨k + 1, by omega, rfl, by go_num, row_set HR.out (pt_succ h l v a k _ (v_bit v k)), HBR.out.setCell (by have := B6s.out; simp; omega) _, ?_, ?_⟩
              · exact (World.cell?_setCell_far _ _ _ _ (by simp; omega)).trans HX5.out
              · exact (World.cell?_setCell_far _ _ _ _ (by simp; omega)).trans HX6.out
          · obtain rfl : n = k := by omega
            have hnn : ¬ (n : Int) < (n : Int) := by omega
            have hrg := range_of_row hrow
            have hi1 : (Try.prog.info? 25).map (·.size) = some (bl (pt h l v a n)).length := by rw [(zero_of_info info25).2, bl_len]
            have hu1 := Try.underlying25
            have hb6 : w6.heap.size < wr.heap.size := World.block_lt_of_cell? wr ⟨w6.heap.size, 0, none⟩ (range_cell hrg (by omega))
            have hb3 : w3.heap.size < wr.heap.size := World.block_lt_of_cell? wr ⟨w3.heap.size, 0, none⟩ x5
            clear hrow
            go_wp2_with fail
            go_region_held3 (fun w' => Below wr.heap.size wr w' ∧ w'.cell? ⟨w3.heap.size, 0, none⟩ = some (.int .u64 (uv (putH h a n v))) ∧ w'.cell? ⟨w3.heap.size, 1, none⟩ = some (.int .u64 (uv (putL l a n v))) ∧ w'.rangeAt w6.heap.size 0 (bl (pt h l v a n)))
              (first
                | exact keepM (by assumption) (by assumption) (Nat.le_refl _) (by omega) (by omega)
                | exact ⟨(Below.refl _ _).drew, by go_simp, by go_simp, hrg⟩)
              (first
                | (go_at_call 9; (with_reducible refine (awake_c _).mono ?_); rintro e w8 ⟨rfl, hb8⟩)
                | (go_at_call 11; (with_reducible refine (refput h l v a n _ hn (Int.not_lt.2 HV.out)).mono ?_); rintro e w9 ⟨rfl, hb9⟩))
            go_wp2
            go_ret
            exact ⟨rfl, BR.trans ((And.left (by assumption) : Below wr.heap.size wr _).mono BR.size)⟩
      · have hlt1 : ¬ (n : Int) < 64 := by omega
        go_wp2_with fail
        go_loopg [18] n (fun g i wr => ∃ k : Nat, k ≤ n ∧ g = n - k ∧ i = .int .i64 k ∧ wr.heap[w6.heap.size]? = some (.cells (bl (pt h l v a k)).toArray 25) ∧ Below w.heap.size w wr ∧ wr.cell? ⟨w3.heap.size, 0, none⟩ = some (.int .u64 (uv (putH h a n v))) ∧ wr.cell? ⟨w3.heap.size, 1, none⟩ = some (.int .u64 (uv (putL l a n v))))
        case atStart => exact ⟨0, by omega, rfl, rfl, by rw [pt_zero]; exact HROW.out, B7, u5, u6⟩
        case round =>
          obtain ⟨k, hkn, rfl, rfl, hrow, BR, x5, x6⟩ := hrel
          by_cases hlt : k < n
          · have hlt' : (k : Int) < (n : Int) := by omega
            have hi1 : (a : Int) + (k : Int) < 128 := by omega
            have hi2 : (0 : Int) ≤ (a : Int) + (k : Int) := by omega
            have hc1 : wr.cell? ⟨w6.heap.size, a + k, none⟩ = some (.bool (pt h l v a k (a + k))) := range_cell (range_of_row hrow) (by omega)
            have hc2 : wr.frozen? ⟨w6.heap.size, a + k, none⟩ = false := frozen_of_row wr _ _ _ 25 hrow
            have HR := Lib.hid hrow
            have HX5 := Lib.hid x5
            have HX6 := Lib.hid x6
            have HBR := Lib.hid BR
            clear hrow x5 x6 BR
            go_wp2
            go_roundg (n - (k + 1))
            case measure => omega
            case rel =>
              have hz6 := HZ.out
              refine ⟨k + 1, by omega, rfl, by go_num, row_set HR.out (pt_succ h l v a k _ (v_bit v k)), HBR.out.setCell (by have := B6s.out; simp; omega) _, ?_, ?_⟩
              · exact (World.cell?_setCell_far _ _ _ _ (by simp; omega)).trans HX5.out
              · exact (World.cell?_setCell_far _ _ _ _ (by simp; omega)).trans HX6.out
          · obtain rfl : n = k := by omega
            have hnn : ¬ (n : Int) < (n : Int) := by omega
            have hrg := range_of_row hrow
            have hi1 : (Try.prog.info? 25).map (·.size) = some (bl (pt h l v a n)).length := by rw [(zero_of_info info25).2, bl_len]
            have hu1 := Try.underlying25
            have hb6 : w6.heap.size < wr.heap.size := World.block_lt_of_cell? wr ⟨w6.heap.size, 0, none⟩ (range_cell hrg (by omega))
            have hb3 : w3.heap.size < wr.heap.size := World.block_lt_of_cell? wr ⟨w3.heap.size, 0, none⟩ x5
            clear hrow
            go_wp2_with fail
            go_region_held3 (fun w' => Below wr.heap.size wr w' ∧ w'.cell? ⟨w3.heap.size, 0, none⟩ = some (.int .u64 (uv (putH h a n v))) ∧ w'.cell? ⟨w3.heap.size, 1, none⟩ = some (.int .u64 (uv (putL l a n v))) ∧ w'.rangeAt w6.heap.size 0 (bl (pt h l v a n)))
              (first
                | exact keepM (by assumption) (by assumption) (Nat.le_refl _) (by omega) (by omega)
                | exact ⟨(Below.refl _ _).drew, by go_simp, by go_simp, hrg⟩)
              (first
                | (go_at_call 9; (with_reducible refine (awake_c _).mono ?_); rintro e w8 ⟨rfl, hb8⟩)
                | (go_at_call 11; (with_reducible refine (refput h l v a n _ hn (Int.not_lt.2 HV.out)).mono ?_); rintro e w9 ⟨rfl, hb9⟩))
            go_wp2
            go_ret
            exact ⟨rfl, BR.trans ((And.left (by assumption) : Below wr.heap.size wr _).mono BR.size)⟩
end Go.Proofs
