/-
  The configuration that the law's awake of layer 13 looks at; contract of the law's line, and of awake. No conditions.
  The law's rules (all rules of a configuration, by switch, then by table) and sets (all that is set, each once). Conditions as each theorem lists them.
  A cube ahead of a setting, sign by sign: the law's before, told as bfC. Conditions: both cubes are sound.
-/
import Derived.Test.YtanliiopdhjhjaaJ12
import Derived.OrdersHeld
namespace Go.Proofs.Hd
open Go.RowKit Go.Sort
def T13 : List (List Pt) := [[⟨1, 0, 0, 0, 0⟩, ⟨2, 0, 1, 0, 1⟩], [⟨2, 0, 0, 1, 1⟩, ⟨1, 0, 0, 0, 0⟩]]
def M13 : Cb := ⟨0#64, 1#64, 0#64, 1#64⟩
def R13a : Rl := ⟨1, M13, 3, 1, 0, ⟨0#64, 0#64, 0#64, 0#64⟩⟩
def R13b : Rl := ⟨1, M13, 2, 1, 0, ⟨0#64, 0#64, 0#64, 0#64⟩⟩
def D13 : Rl := ⟨0, ⟨0#64, 0#64, 0#64, 0#64⟩, 1, 0, 0, ⟨0#64, 0#64, 0#64, 0#64⟩⟩
def B13 : List (List (List Rl)) := [[[R13a, D13]], [[R13b, D13]]]
theorem T13_sound : sTp T13 = 0 := by
  refine sTp_ok (by decide) fun n i L p hn hL hp => ?_
  match n, hn with
  | 0, _ =>
    injection hL with hL
    subst hL
    have hi : i < 2 := (List.getElem?_eq_some_iff.1 hp).1
    match i, hi with
    | 0, _ => injection hp with hp; subst hp; decide
    | 1, _ => injection hp with hp; subst hp; decide
  | 1, _ =>
    injection hL with hL
    subst hL
    have hi : i < 2 := (List.getElem?_eq_some_iff.1 hp).1
    match i, hi with
    | 0, _ => injection hp with hp; subst hp; decide
    | 1, _ => injection hp with hp; subst hp; decide
theorem T13_edges : eTo T13 T13.length = [(0, 0), (1, 1)] := by decide
theorem P13_ok : szP T13 1 [] [] := by
  rintro (h | h | h | h | h)
  · omega
  · omega
  · simp at h
  · simp at h
  · refine h fun j x hj hx => ?_
    rw [T13_edges] at hj hx
    have hj2 : j < 2 := hj
    match j, hj2 with
    | 0, _ => injection hx with hx; subst hx; rfl
    | 1, _ => injection hx with hx; subst hx; rfl
theorem P13_form : okPe [] 1 0 ∧ okWy [] 1 T13.length 0 := ⟨fun _ _ hj => absurd hj (Nat.not_lt_zero _), fun _ _ hj => absurd hj (Nat.not_lt_zero _)⟩
theorem C13 : cfgT T13 1 [] [] B13 = 0 := by
  unfold cfgT
  rw [if_pos T13_sound, polT_ok P13_ok P13_form, if_pos rfl]
  have h : B13.length = T13.length := rfl
  rw [if_pos h]
  decide +kernel
theorem B13_len : ∀ X ∈ B13, ∀ R ∈ X, R.length ≤ 1466015503658 := by
  intro X hX R hR
  simp [B13] at hX
  rcases hX with rfl | rfl
  · simp at hR; subst hR; decide
  · simp at hR; subst hR; decide
theorem s13 : stC 0 0 = ⟨16777216#64, 0#64, 18446744073692774400#64, 0#64⟩ := (stC_eq (n := 0) (m := 0) (by
  intro j hj
  revert j
  decide +kernel)).symm
theorem all13 : allS T13 B13 0 = [⟨16777216#64, 0#64, 18446744073692774400#64, 0#64⟩] := by
  have h : edL T13 0 = [⟨16777216#64, 0#64, 18446744073692774400#64, 0#64⟩, ⟨16777216#64, 0#64, 18446744073692774400#64, 0#64⟩] := by
    unfold edL
    rw [T13_edges, ← s13]
    rfl
  unfold allS
  rw [h]
  decide +kernel
theorem mtc13 : mtcL B13 = [M13, Cb.zero] := by decide +kernel
theorem clo13 : cloC bfC (allS T13 B13 0) 500 501 0 (mtcL B13) = [M13, Cb.zero] := by
  rw [all13, mtc13]
  have h0 : askS bfC [⟨16777216#64, 0#64, 18446744073692774400#64, 0#64⟩] M13 [M13, Cb.zero] = [M13, Cb.zero] := by decide +kernel
  have h1 : askS bfC [⟨16777216#64, 0#64, 18446744073692774400#64, 0#64⟩] Cb.zero [M13, Cb.zero] = [M13, Cb.zero] := by decide +kernel
  rw [cloC_step (k := 500) (c := M13) rfl (by decide), h0, cloC_step (k := 499) (c := Cb.zero) rfl (by decide), h1, cloC_end _ _ _ _ _ _ (by decide)]
theorem told13 : toldL keyC 129 [M13, Cb.zero] = [Cb.zero, M13] := by decide +kernel
end Go.Proofs.Hd
namespace Go.Proofs
open Go.RowKit Go.Proofs.Hd Go.Lib
attribute [local go_sem high] run_eq2 run_eq4
set_option maxRecDepth 100000 in
set_option maxHeartbeats 4000000 in
theorem line_c (w : World) : Calls Try.prog 26 #[] w fun e w' => ∃ tv bv, e = .returned (.agg #[tv, .int .i64 1, .slice none 0 0, .slice none 0 0, bv]) ∧ Cfo w.heap.size w' tv (.slice none 0 0) (.slice none 0 0) bv T13 [] [] B13 ∧ Below w.heap.size w w' := by
  have B1 := Lib.hid (below1 w (.cells #[.slice none 0 0, .int .i64 0, .slice none 0 0, .slice none 0 0, .slice none 0 0] 31))
  have R1 : Hid (Blk (w.alloc (.cells #[.slice none 0 0, .int .i64 0, .slice none 0 0, .slice none 0 0, .slice none 0 0] 31)) w.heap.size 31 #[.slice none 0 0, .int .i64 0, .slice none 0 0, .slice none 0 0, .slice none 0 0]) := Blk.new w _ _
  go_enter Try.func26, Try.ntmps26
  go_upto_region 1 with (fail)
  generalize w.alloc (.cells #[.slice none 0 0, .int .i64 0, .slice none 0 0, .slice none 0 0, .slice none 0 0] 31) = w1 at B1 R1 ⊢
  have hsz1 := B1.out.size
  have hb1 : w.heap.size < w1.heap.size := R1.out.lt
  have b2 := below1 w1 (.cells #[.slice none 0 0, .int .i64 1, .slice none 0 0, .slice none 0 0, .slice none 0 0] 31)
  have X2 : Hid (Blk (w1.alloc (.cells #[.slice none 0 0, .int .i64 1, .slice none 0 0, .slice none 0 0, .slice none 0 0] 31)) w1.heap.size 31 #[.slice none 0 0, .int .i64 1, .slice none 0 0, .slice none 0 0, .slice none 0 0]) := Blk.new w1 _ _
  have B2 := Lib.hid (B1.out.trans (b2.mono hsz1))
  have R2 := Lib.hid (R1.out.on b2)
  clear b2 B1 R1
  go_upto_region 2 with (fail)
  generalize w1.alloc (.cells #[.slice none 0 0, .int .i64 1, .slice none 0 0, .slice none 0 0, .slice none 0 0] 31) = w2 at X2 B2 R2 ⊢
  have hx2 : w1.heap.size < w2.heap.size := X2.out.lt
  have b3 := below3 w2 (.cells #[.int .i64 1, .int .i64 0, .int .i64 0, .int .i64 0, .int .i64 0, .int .i64 2, .int .i64 0, .int .i64 1, .int .i64 0, .int .i64 1] 91) (.cells #[.int .i64 2, .int .i64 0, .int .i64 0, .int .i64 1, .int .i64 1, .int .i64 1, .int .i64 0, .int .i64 0, .int .i64 0, .int .i64 0] 91) (.cells #[.slice (some ⟨w2.heap.size, 0, none⟩) 2 2, .slice (some ⟨w2.heap.size + 1, 0, none⟩) 2 2] 89)
  have X3 := X2.out.on b3
  have hf := X3.free 0
  obtain ⟨d0, d1, d2, d3, d4⟩ := X3.five
  have hO : O2P w1.heap.size (((w2.alloc (.cells #[.int .i64 1, .int .i64 0, .int .i64 0, .int .i64 0, .int .i64 0, .int .i64 2, .int .i64 0, .int .i64 1, .int .i64 0, .int .i64 1] 91)).alloc (.cells #[.int .i64 2, .int .i64 0, .int .i64 0, .int .i64 1, .int .i64 1, .int .i64 1, .int .i64 0, .int .i64 0, .int .i64 0, .int .i64 0] 91)).alloc (.cells #[.slice (some ⟨w2.heap.size, 0, none⟩) 2 2, .slice (some ⟨w2.heap.size + 1, 0, none⟩) 2 2] 89)) (.slice (some ⟨w2.heap.size + 1 + 1, 0, none⟩) 2 2) T13 := by
    have h1 : O1P w1.heap.size (w2.alloc (.cells #[.int .i64 1, .int .i64 0, .int .i64 0, .int .i64 0, .int .i64 0, .int .i64 2, .int .i64 0, .int .i64 1, .int .i64 0, .int .i64 1] 91)) (.slice (some ⟨w2.heap.size, 0, none⟩) 2 2) [⟨1, 0, 0, 0, 0⟩, ⟨2, 0, 1, 0, 1⟩] := World.ownsRow_lit w2 #[.int .i64 1, .int .i64 0, .int .i64 0, .int .i64 0, .int .i64 0, .int .i64 2, .int .i64 0, .int .i64 1, .int .i64 0, .int .i64 1] 2 (by omega) (by decide) rfl
    have h2 := World.ownsRow_lit (base := w1.heap.size) (e := 91) (size := 5) (w2.alloc (.cells #[.int .i64 1, .int .i64 0, .int .i64 0, .int .i64 0, .int .i64 0, .int .i64 2, .int .i64 0, .int .i64 1, .int .i64 0, .int .i64 1] 91)) #[.int .i64 2, .int .i64 0, .int .i64 0, .int .i64 1, .int .i64 1, .int .i64 1, .int .i64 0, .int .i64 0, .int .i64 0, .int .i64 0] 2 (by simp; omega) (by decide) rfl
    have e : (w2.alloc (.cells #[.int .i64 1, .int .i64 0, .int .i64 0, .int .i64 0, .int .i64 0, .int .i64 2, .int .i64 0, .int .i64 1, .int .i64 0, .int .i64 1] 91)).heap.size = w2.heap.size + 1 := by simp
    rw [e] at h2
    have h3 := World.ownsRow_lit (base := w1.heap.size) (e := 89) (size := 1) ((w2.alloc (.cells #[.int .i64 1, .int .i64 0, .int .i64 0, .int .i64 0, .int .i64 0, .int .i64 2, .int .i64 0, .int .i64 1, .int .i64 0, .int .i64 1] 91)).alloc (.cells #[.int .i64 2, .int .i64 0, .int .i64 0, .int .i64 1, .int .i64 1, .int .i64 1, .int .i64 0, .int .i64 0, .int .i64 0, .int .i64 0] 91)) #[.slice (some ⟨w2.heap.size, 0, none⟩) 2 2, .slice (some ⟨w2.heap.size + 1, 0, none⟩) 2 2] 2 (by simp; omega) (by decide) rfl
    have e2 : ((w2.alloc (.cells #[.int .i64 1, .int .i64 0, .int .i64 0, .int .i64 0, .int .i64 0, .int .i64 2, .int .i64 0, .int .i64 1, .int .i64 0, .int .i64 1] 91)).alloc (.cells #[.int .i64 2, .int .i64 0, .int .i64 0, .int .i64 1, .int .i64 1, .int .i64 1, .int .i64 0, .int .i64 0, .int .i64 0, .int .i64 0] 91)).heap.size = w2.heap.size + 1 + 1 := by simp
    rw [e2] at h3
    refine ⟨[.slice (some ⟨w2.heap.size, 0, none⟩) 2 2, .slice (some ⟨w2.heap.size + 1, 0, none⟩) 2 2], h3, fun i x hx => ?_⟩
    match i with
    | 0 => injection hx with hx; subst hx; exact ⟨_, rfl, O1P.on _ _ _ _ _ (below2 _ _ _) h1⟩
    | 1 => injection hx with hx; subst hx; exact ⟨_, rfl, O1P.on _ _ _ _ _ (below1 _ _) h2⟩
    | i + 2 => simp [T13] at hx
  have c3 : Cfo w1.heap.size (((w2.alloc (.cells #[.int .i64 1, .int .i64 0, .int .i64 0, .int .i64 0, .int .i64 0, .int .i64 2, .int .i64 0, .int .i64 1, .int .i64 0, .int .i64 1] 91)).alloc (.cells #[.int .i64 2, .int .i64 0, .int .i64 0, .int .i64 1, .int .i64 1, .int .i64 1, .int .i64 0, .int .i64 0, .int .i64 0, .int .i64 0] 91)).alloc (.cells #[.slice (some ⟨w2.heap.size, 0, none⟩) 2 2, .slice (some ⟨w2.heap.size + 1, 0, none⟩) 2 2] 89)) (.slice (some ⟨w2.heap.size + 1 + 1, 0, none⟩) 2 2) (.slice none 0 0) (.slice none 0 0) (.slice none 0 0) T13 [] [] [] := ⟨hO, World.ownsRow_nil _ _ _ _, World.ownsRow_nil _ _ _ _, Cfo.start.tabs⟩
  have C3 := Lib.hid (Cfo.box (i := 0) (u := .slice (some ⟨w2.heap.size + 1 + 1, 0, none⟩) 2 2) ⟨_, _, X3⟩ c3)
  have kX3 := X3.set 0 (.slice (some ⟨w2.heap.size + 1 + 1, 0, none⟩) 2 2)
  simp only [List.setIfInBounds_toArray, List.set_cons_zero] at kX3
  have HX3 := Lib.hid kX3
  have HB3 := Lib.hid ((B2.out.trans (b3.mono B2.out.size)).setCell (p := ⟨w1.heap.size, 0, none⟩) (show w.heap.size ≤ w1.heap.size by omega) (.slice (some ⟨w2.heap.size + 1 + 1, 0, none⟩) 2 2))
  have HR3 := Lib.hid ((R2.out.on b3).far (p := ⟨w1.heap.size, 0, none⟩) (show w.heap.size ≠ w1.heap.size by omega) (.slice (some ⟨w2.heap.size + 1 + 1, 0, none⟩) 2 2))
  clear X3 hO c3 b3 X2 B2 R2 kX3
  go_upto_region 3 with (fail)
  clear hf d0 d1 d2 d3 d4
  generalize (((w2.alloc (.cells #[.int .i64 1, .int .i64 0, .int .i64 0, .int .i64 0, .int .i64 0, .int .i64 2, .int .i64 0, .int .i64 1, .int .i64 0, .int .i64 1] 91)).alloc (.cells #[.int .i64 2, .int .i64 0, .int .i64 0, .int .i64 1, .int .i64 1, .int .i64 1, .int .i64 0, .int .i64 0, .int .i64 0, .int .i64 0] 91)).alloc (.cells #[.slice (some ⟨w2.heap.size, 0, none⟩) 2 2, .slice (some ⟨w2.heap.size + 1, 0, none⟩) 2 2] 89)).setCell ⟨w1.heap.size, 0, none⟩ (.slice (some ⟨w2.heap.size + 1 + 1, 0, none⟩) 2 2) = w3 at C3 HX3 HB3 HR3 ⊢
  obtain ⟨TV, hTV⟩ : ∃ TV : Value, TV = .slice (some ⟨w2.heap.size + 1 + 1, 0, none⟩) 2 2 := ⟨_, rfl⟩
  rw [← hTV] at C3 HX3
  clear hTV
  have bm := below1 w3 (.cells #[.int .u64 0, .int .u64 1, .int .u64 0, .int .u64 1] 43)
  have M4 := Lib.hid (Blk.new w3 43 #[.int .u64 0, .int .u64 1, .int .u64 0, .int .u64 1])
  have C4 := Lib.hid (C3.out.on bm)
  have HX4 := Lib.hid (HX3.out.on bm)
  have HB4 := Lib.hid (HB3.out.trans (bm.mono HB3.out.size))
  have HR4 := Lib.hid (HR3.out.on bm)
  clear bm C3 HX3 HB3 HR3
  go_upto_region 4 with (fail)
  generalize hgen : w3.alloc (.cells #[.int .u64 0, .int .u64 1, .int .u64 0, .int .u64 1] 43) = wm at M4 C4 HX4 HB4 HR4 ⊢
  clear hgen
  generalize hgen : w3.heap.size = bq at M4 ⊢
  clear hgen
  have bm := below1 wm (.cells #[.int .i64 0, .int .u64 0, .int .u64 0, .int .u64 0, .int .u64 0, .int .i64 1, .int .i64 0, .int .i64 0, .int .u64 0, .int .u64 0, .int .u64 0, .int .u64 0] 51)
  have D4 := Lib.hid (Blk.new wm 51 #[.int .i64 0, .int .u64 0, .int .u64 0, .int .u64 0, .int .u64 0, .int .i64 1, .int .i64 0, .int .i64 0, .int .u64 0, .int .u64 0, .int .u64 0, .int .u64 0])
  have kM4 := Lib.hid (M4.out.on bm)
  have kC4 := Lib.hid (C4.out.on bm)
  have kHX4 := Lib.hid (HX4.out.on bm)
  have kHB4 := Lib.hid (HB4.out.trans (bm.mono HB4.out.size))
  have kHR4 := Lib.hid (HR4.out.on bm)
  clear bm M4 C4 HX4 HB4 HR4
  go_upto_region 5 with (fail)
  generalize hgen : wm.alloc (.cells #[.int .i64 0, .int .u64 0, .int .u64 0, .int .u64 0, .int .u64 0, .int .i64 1, .int .i64 0, .int .i64 0, .int .u64 0, .int .u64 0, .int .u64 0, .int .u64 0] 51) = w4 at D4 kM4 kC4 kHX4 kHB4 kHR4 ⊢
  clear hgen
  generalize hgen : wm.heap.size = bd at D4 ⊢
  clear hgen
  have M4 := kM4
  have C4 := kC4
  have HX4 := kHX4
  have HB4 := kHB4
  have HR4 := kHR4
  clear kM4 kC4 kHX4 kHB4 kHR4
  have hx4 : w1.heap.size < w4.heap.size := HX4.out.lt
  obtain ⟨m0, m1, m2, m3⟩ := quad M4.out
  have hk := fun i => D4.out.cell i
  have k0 := (hk 0).trans rfl
  have k1 := (hk 1).trans rfl
  have k2 := (hk 2).trans rfl
  have k3 := (hk 3).trans rfl
  have k4 := (hk 4).trans rfl
  have k5 := (hk 5).trans rfl
  have k6 := (hk 6).trans rfl
  have k7 := (hk 7).trans rfl
  have k8 := (hk 8).trans rfl
  have k9 := (hk 9).trans rfl
  have k10 := (hk 10).trans rfl
  have k11 := (hk 11).trans rfl
  simp only [List.getElem?_toArray, List.getElem?_cons_succ, List.getElem?_cons_zero] at k0 k1 k2 k3 k4 k5 k6 k7 k8 k9 k10 k11
  clear hk
  
  have b5 := below4 w4 (.cells #[.int .i64 1, .int .u64 0, .int .u64 1, .int .u64 0, .int .u64 1, .int .i64 3, .int .i64 1, .int .i64 0, .int .u64 0, .int .u64 0, .int .u64 0, .int .u64 0, .int .i64 0, .int .u64 0, .int .u64 0, .int .u64 0, .int .u64 0, .int .i64 1, .int .i64 0, .int .i64 0, .int .u64 0, .int .u64 0, .int .u64 0, .int .u64 0] 51) (.cells #[.slice (some ⟨w4.heap.size, 0, none⟩) 2 2] 45) (.cells #[.int .i64 1, .int .u64 0, .int .u64 1, .int .u64 0, .int .u64 1, .int .i64 2, .int .i64 1, .int .i64 0, .int .u64 0, .int .u64 0, .int .u64 0, .int .u64 0, .int .i64 0, .int .u64 0, .int .u64 0, .int .u64 0, .int .u64 0, .int .i64 1, .int .i64 0, .int .i64 0, .int .u64 0, .int .u64 0, .int .u64 0, .int .u64 0] 51) (.cells #[.slice (some ⟨w4.heap.size + 1 + 1, 0, none⟩) 2 2] 45)
  have b6 : Below w4.heap.size w4 (((((w4.alloc (.cells #[.int .i64 1, .int .u64 0, .int .u64 1, .int .u64 0, .int .u64 1, .int .i64 3, .int .i64 1, .int .i64 0, .int .u64 0, .int .u64 0, .int .u64 0, .int .u64 0, .int .i64 0, .int .u64 0, .int .u64 0, .int .u64 0, .int .u64 0, .int .i64 1, .int .i64 0, .int .i64 0, .int .u64 0, .int .u64 0, .int .u64 0, .int .u64 0] 51)).alloc (.cells #[.slice (some ⟨w4.heap.size, 0, none⟩) 2 2] 45)).alloc (.cells #[.int .i64 1, .int .u64 0, .int .u64 1, .int .u64 0, .int .u64 1, .int .i64 2, .int .i64 1, .int .i64 0, .int .u64 0, .int .u64 0, .int .u64 0, .int .u64 0, .int .i64 0, .int .u64 0, .int .u64 0, .int .u64 0, .int .u64 0, .int .i64 1, .int .i64 0, .int .i64 0, .int .u64 0, .int .u64 0, .int .u64 0, .int .u64 0] 51)).alloc (.cells #[.slice (some ⟨w4.heap.size + 1 + 1, 0, none⟩) 2 2] 45)).alloc (.cells #[.slice (some ⟨w4.heap.size + 1, 0, none⟩) 1 1, .slice (some ⟨w4.heap.size + 1 + 1 + 1, 0, none⟩) 1 1] 84)) := b5.alloc (by simp; omega) _
  have X5 := HX4.out.on b6
  have hf := X5.free 4
  obtain ⟨d0, d1, d2, d3, d4⟩ := X5.five
  have hO : O3R w1.heap.size (((((w4.alloc (.cells #[.int .i64 1, .int .u64 0, .int .u64 1, .int .u64 0, .int .u64 1, .int .i64 3, .int .i64 1, .int .i64 0, .int .u64 0, .int .u64 0, .int .u64 0, .int .u64 0, .int .i64 0, .int .u64 0, .int .u64 0, .int .u64 0, .int .u64 0, .int .i64 1, .int .i64 0, .int .i64 0, .int .u64 0, .int .u64 0, .int .u64 0, .int .u64 0] 51)).alloc (.cells #[.slice (some ⟨w4.heap.size, 0, none⟩) 2 2] 45)).alloc (.cells #[.int .i64 1, .int .u64 0, .int .u64 1, .int .u64 0, .int .u64 1, .int .i64 2, .int .i64 1, .int .i64 0, .int .u64 0, .int .u64 0, .int .u64 0, .int .u64 0, .int .i64 0, .int .u64 0, .int .u64 0, .int .u64 0, .int .u64 0, .int .i64 1, .int .i64 0, .int .i64 0, .int .u64 0, .int .u64 0, .int .u64 0, .int .u64 0] 51)).alloc (.cells #[.slice (some ⟨w4.heap.size + 1 + 1, 0, none⟩) 2 2] 45)).alloc (.cells #[.slice (some ⟨w4.heap.size + 1, 0, none⟩) 1 1, .slice (some ⟨w4.heap.size + 1 + 1 + 1, 0, none⟩) 1 1] 84)) (.slice (some ⟨w4.heap.size + 1 + 1 + 1 + 1, 0, none⟩) 2 2) B13 := by
    have q1 : O1R w1.heap.size (w4.alloc (.cells #[.int .i64 1, .int .u64 0, .int .u64 1, .int .u64 0, .int .u64 1, .int .i64 3, .int .i64 1, .int .i64 0, .int .u64 0, .int .u64 0, .int .u64 0, .int .u64 0, .int .i64 0, .int .u64 0, .int .u64 0, .int .u64 0, .int .u64 0, .int .i64 1, .int .i64 0, .int .i64 0, .int .u64 0, .int .u64 0, .int .u64 0, .int .u64 0] 51)) (.slice (some ⟨w4.heap.size, 0, none⟩) 2 2) [R13a, D13] := World.ownsRow_lit w4 #[.int .i64 1, .int .u64 0, .int .u64 1, .int .u64 0, .int .u64 1, .int .i64 3, .int .i64 1, .int .i64 0, .int .u64 0, .int .u64 0, .int .u64 0, .int .u64 0, .int .i64 0, .int .u64 0, .int .u64 0, .int .u64 0, .int .u64 0, .int .i64 1, .int .i64 0, .int .i64 0, .int .u64 0, .int .u64 0, .int .u64 0, .int .u64 0] 2 (by omega) (by decide) rfl
    have q2 := World.ownsRow_lit (base := w1.heap.size) (e := 45) (size := 1) (w4.alloc (.cells #[.int .i64 1, .int .u64 0, .int .u64 1, .int .u64 0, .int .u64 1, .int .i64 3, .int .i64 1, .int .i64 0, .int .u64 0, .int .u64 0, .int .u64 0, .int .u64 0, .int .i64 0, .int .u64 0, .int .u64 0, .int .u64 0, .int .u64 0, .int .i64 1, .int .i64 0, .int .i64 0, .int .u64 0, .int .u64 0, .int .u64 0, .int .u64 0] 51)) #[.slice (some ⟨w4.heap.size, 0, none⟩) 2 2] 1 (by simp; omega) (by decide) rfl
    have e1 : (w4.alloc (.cells #[.int .i64 1, .int .u64 0, .int .u64 1, .int .u64 0, .int .u64 1, .int .i64 3, .int .i64 1, .int .i64 0, .int .u64 0, .int .u64 0, .int .u64 0, .int .u64 0, .int .i64 0, .int .u64 0, .int .u64 0, .int .u64 0, .int .u64 0, .int .i64 1, .int .i64 0, .int .i64 0, .int .u64 0, .int .u64 0, .int .u64 0, .int .u64 0] 51)).heap.size = w4.heap.size + 1 := by simp
    rw [e1] at q2
    have q3 : O2R w1.heap.size ((w4.alloc (.cells #[.int .i64 1, .int .u64 0, .int .u64 1, .int .u64 0, .int .u64 1, .int .i64 3, .int .i64 1, .int .i64 0, .int .u64 0, .int .u64 0, .int .u64 0, .int .u64 0, .int .i64 0, .int .u64 0, .int .u64 0, .int .u64 0, .int .u64 0, .int .i64 1, .int .i64 0, .int .i64 0, .int .u64 0, .int .u64 0, .int .u64 0, .int .u64 0] 51)).alloc (.cells #[.slice (some ⟨w4.heap.size, 0, none⟩) 2 2] 45)) (.slice (some ⟨w4.heap.size + 1, 0, none⟩) 1 1) [[R13a, D13]] := by
      refine ⟨[.slice (some ⟨w4.heap.size, 0, none⟩) 2 2], q2, fun i x hx => ?_⟩
      cases i with
      | zero => injection hx with hx; subst hx; exact ⟨_, rfl, O1R.on _ _ _ _ _ (below1 _ _) q1⟩
      | succ i => simp at hx
    have q4 := World.ownsRow_lit (base := w1.heap.size) (e := 51) (size := 12) ((w4.alloc (.cells #[.int .i64 1, .int .u64 0, .int .u64 1, .int .u64 0, .int .u64 1, .int .i64 3, .int .i64 1, .int .i64 0, .int .u64 0, .int .u64 0, .int .u64 0, .int .u64 0, .int .i64 0, .int .u64 0, .int .u64 0, .int .u64 0, .int .u64 0, .int .i64 1, .int .i64 0, .int .i64 0, .int .u64 0, .int .u64 0, .int .u64 0, .int .u64 0] 51)).alloc (.cells #[.slice (some ⟨w4.heap.size, 0, none⟩) 2 2] 45)) #[.int .i64 1, .int .u64 0, .int .u64 1, .int .u64 0, .int .u64 1, .int .i64 2, .int .i64 1, .int .i64 0, .int .u64 0, .int .u64 0, .int .u64 0, .int .u64 0, .int .i64 0, .int .u64 0, .int .u64 0, .int .u64 0, .int .u64 0, .int .i64 1, .int .i64 0, .int .i64 0, .int .u64 0, .int .u64 0, .int .u64 0, .int .u64 0] 2 (by simp; omega) (by decide) rfl
    have e2 : ((w4.alloc (.cells #[.int .i64 1, .int .u64 0, .int .u64 1, .int .u64 0, .int .u64 1, .int .i64 3, .int .i64 1, .int .i64 0, .int .u64 0, .int .u64 0, .int .u64 0, .int .u64 0, .int .i64 0, .int .u64 0, .int .u64 0, .int .u64 0, .int .u64 0, .int .i64 1, .int .i64 0, .int .i64 0, .int .u64 0, .int .u64 0, .int .u64 0, .int .u64 0] 51)).alloc (.cells #[.slice (some ⟨w4.heap.size, 0, none⟩) 2 2] 45)).heap.size = w4.heap.size + 1 + 1 := by simp
    rw [e2] at q4
    have q5 : O1R w1.heap.size (((w4.alloc (.cells #[.int .i64 1, .int .u64 0, .int .u64 1, .int .u64 0, .int .u64 1, .int .i64 3, .int .i64 1, .int .i64 0, .int .u64 0, .int .u64 0, .int .u64 0, .int .u64 0, .int .i64 0, .int .u64 0, .int .u64 0, .int .u64 0, .int .u64 0, .int .i64 1, .int .i64 0, .int .i64 0, .int .u64 0, .int .u64 0, .int .u64 0, .int .u64 0] 51)).alloc (.cells #[.slice (some ⟨w4.heap.size, 0, none⟩) 2 2] 45)).alloc (.cells #[.int .i64 1, .int .u64 0, .int .u64 1, .int .u64 0, .int .u64 1, .int .i64 2, .int .i64 1, .int .i64 0, .int .u64 0, .int .u64 0, .int .u64 0, .int .u64 0, .int .i64 0, .int .u64 0, .int .u64 0, .int .u64 0, .int .u64 0, .int .i64 1, .int .i64 0, .int .i64 0, .int .u64 0, .int .u64 0, .int .u64 0, .int .u64 0] 51)) (.slice (some ⟨w4.heap.size + 1 + 1, 0, none⟩) 2 2) [R13b, D13] := q4
    have q6 := World.ownsRow_lit (base := w1.heap.size) (e := 45) (size := 1) (((w4.alloc (.cells #[.int .i64 1, .int .u64 0, .int .u64 1, .int .u64 0, .int .u64 1, .int .i64 3, .int .i64 1, .int .i64 0, .int .u64 0, .int .u64 0, .int .u64 0, .int .u64 0, .int .i64 0, .int .u64 0, .int .u64 0, .int .u64 0, .int .u64 0, .int .i64 1, .int .i64 0, .int .i64 0, .int .u64 0, .int .u64 0, .int .u64 0, .int .u64 0] 51)).alloc (.cells #[.slice (some ⟨w4.heap.size, 0, none⟩) 2 2] 45)).alloc (.cells #[.int .i64 1, .int .u64 0, .int .u64 1, .int .u64 0, .int .u64 1, .int .i64 2, .int .i64 1, .int .i64 0, .int .u64 0, .int .u64 0, .int .u64 0, .int .u64 0, .int .i64 0, .int .u64 0, .int .u64 0, .int .u64 0, .int .u64 0, .int .i64 1, .int .i64 0, .int .i64 0, .int .u64 0, .int .u64 0, .int .u64 0, .int .u64 0] 51)) #[.slice (some ⟨w4.heap.size + 1 + 1, 0, none⟩) 2 2] 1 (by simp; omega) (by decide) rfl
    have e3 : (((w4.alloc (.cells #[.int .i64 1, .int .u64 0, .int .u64 1, .int .u64 0, .int .u64 1, .int .i64 3, .int .i64 1, .int .i64 0, .int .u64 0, .int .u64 0, .int .u64 0, .int .u64 0, .int .i64 0, .int .u64 0, .int .u64 0, .int .u64 0, .int .u64 0, .int .i64 1, .int .i64 0, .int .i64 0, .int .u64 0, .int .u64 0, .int .u64 0, .int .u64 0] 51)).alloc (.cells #[.slice (some ⟨w4.heap.size, 0, none⟩) 2 2] 45)).alloc (.cells #[.int .i64 1, .int .u64 0, .int .u64 1, .int .u64 0, .int .u64 1, .int .i64 2, .int .i64 1, .int .i64 0, .int .u64 0, .int .u64 0, .int .u64 0, .int .u64 0, .int .i64 0, .int .u64 0, .int .u64 0, .int .u64 0, .int .u64 0, .int .i64 1, .int .i64 0, .int .i64 0, .int .u64 0, .int .u64 0, .int .u64 0, .int .u64 0] 51)).heap.size = w4.heap.size + 1 + 1 + 1 := by simp
    rw [e3] at q6
    have q7 : O2R w1.heap.size ((((w4.alloc (.cells #[.int .i64 1, .int .u64 0, .int .u64 1, .int .u64 0, .int .u64 1, .int .i64 3, .int .i64 1, .int .i64 0, .int .u64 0, .int .u64 0, .int .u64 0, .int .u64 0, .int .i64 0, .int .u64 0, .int .u64 0, .int .u64 0, .int .u64 0, .int .i64 1, .int .i64 0, .int .i64 0, .int .u64 0, .int .u64 0, .int .u64 0, .int .u64 0] 51)).alloc (.cells #[.slice (some ⟨w4.heap.size, 0, none⟩) 2 2] 45)).alloc (.cells #[.int .i64 1, .int .u64 0, .int .u64 1, .int .u64 0, .int .u64 1, .int .i64 2, .int .i64 1, .int .i64 0, .int .u64 0, .int .u64 0, .int .u64 0, .int .u64 0, .int .i64 0, .int .u64 0, .int .u64 0, .int .u64 0, .int .u64 0, .int .i64 1, .int .i64 0, .int .i64 0, .int .u64 0, .int .u64 0, .int .u64 0, .int .u64 0] 51)).alloc (.cells #[.slice (some ⟨w4.heap.size + 1 + 1, 0, none⟩) 2 2] 45)) (.slice (some ⟨w4.heap.size + 1 + 1 + 1, 0, none⟩) 1 1) [[R13b, D13]] := by
      refine ⟨[.slice (some ⟨w4.heap.size + 1 + 1, 0, none⟩) 2 2], q6, fun i x hx => ?_⟩
      cases i with
      | zero => injection hx with hx; subst hx; exact ⟨_, rfl, O1R.on _ _ _ _ _ (below1 _ _) q5⟩
      | succ i => simp at hx
    have q8 := World.ownsRow_lit (base := w1.heap.size) (e := 84) (size := 1) ((((w4.alloc (.cells #[.int .i64 1, .int .u64 0, .int .u64 1, .int .u64 0, .int .u64 1, .int .i64 3, .int .i64 1, .int .i64 0, .int .u64 0, .int .u64 0, .int .u64 0, .int .u64 0, .int .i64 0, .int .u64 0, .int .u64 0, .int .u64 0, .int .u64 0, .int .i64 1, .int .i64 0, .int .i64 0, .int .u64 0, .int .u64 0, .int .u64 0, .int .u64 0] 51)).alloc (.cells #[.slice (some ⟨w4.heap.size, 0, none⟩) 2 2] 45)).alloc (.cells #[.int .i64 1, .int .u64 0, .int .u64 1, .int .u64 0, .int .u64 1, .int .i64 2, .int .i64 1, .int .i64 0, .int .u64 0, .int .u64 0, .int .u64 0, .int .u64 0, .int .i64 0, .int .u64 0, .int .u64 0, .int .u64 0, .int .u64 0, .int .i64 1, .int .i64 0, .int .i64 0, .int .u64 0, .int .u64 0, .int .u64 0, .int .u64 0] 51)).alloc (.cells #[.slice (some ⟨w4.heap.size + 1 + 1, 0, none⟩) 2 2] 45)) #[.slice (some ⟨w4.heap.size + 1, 0, none⟩) 1 1, .slice (some ⟨w4.heap.size + 1 + 1 + 1, 0, none⟩) 1 1] 2 (by simp; omega) (by decide) rfl
    have e4 : ((((w4.alloc (.cells #[.int .i64 1, .int .u64 0, .int .u64 1, .int .u64 0, .int .u64 1, .int .i64 3, .int .i64 1, .int .i64 0, .int .u64 0, .int .u64 0, .int .u64 0, .int .u64 0, .int .i64 0, .int .u64 0, .int .u64 0, .int .u64 0, .int .u64 0, .int .i64 1, .int .i64 0, .int .i64 0, .int .u64 0, .int .u64 0, .int .u64 0, .int .u64 0] 51)).alloc (.cells #[.slice (some ⟨w4.heap.size, 0, none⟩) 2 2] 45)).alloc (.cells #[.int .i64 1, .int .u64 0, .int .u64 1, .int .u64 0, .int .u64 1, .int .i64 2, .int .i64 1, .int .i64 0, .int .u64 0, .int .u64 0, .int .u64 0, .int .u64 0, .int .i64 0, .int .u64 0, .int .u64 0, .int .u64 0, .int .u64 0, .int .i64 1, .int .i64 0, .int .i64 0, .int .u64 0, .int .u64 0, .int .u64 0, .int .u64 0] 51)).alloc (.cells #[.slice (some ⟨w4.heap.size + 1 + 1, 0, none⟩) 2 2] 45)).heap.size = w4.heap.size + 1 + 1 + 1 + 1 := by simp
    rw [e4] at q8
    refine ⟨[.slice (some ⟨w4.heap.size + 1, 0, none⟩) 1 1, .slice (some ⟨w4.heap.size + 1 + 1 + 1, 0, none⟩) 1 1], q8, fun i x hx => ?_⟩
    match i with
    | 0 => injection hx with hx; subst hx; exact ⟨_, rfl, O2R.on _ _ _ _ _ (below3 _ _ _ _) q3⟩
    | 1 => injection hx with hx; subst hx; exact ⟨_, rfl, O2R.on _ _ _ _ _ (below1 _ _) q7⟩
    | i + 2 => simp [B13] at hx
  have c5 : Cfo w1.heap.size (((((w4.alloc (.cells #[.int .i64 1, .int .u64 0, .int .u64 1, .int .u64 0, .int .u64 1, .int .i64 3, .int .i64 1, .int .i64 0, .int .u64 0, .int .u64 0, .int .u64 0, .int .u64 0, .int .i64 0, .int .u64 0, .int .u64 0, .int .u64 0, .int .u64 0, .int .i64 1, .int .i64 0, .int .i64 0, .int .u64 0, .int .u64 0, .int .u64 0, .int .u64 0] 51)).alloc (.cells #[.slice (some ⟨w4.heap.size, 0, none⟩) 2 2] 45)).alloc (.cells #[.int .i64 1, .int .u64 0, .int .u64 1, .int .u64 0, .int .u64 1, .int .i64 2, .int .i64 1, .int .i64 0, .int .u64 0, .int .u64 0, .int .u64 0, .int .u64 0, .int .i64 0, .int .u64 0, .int .u64 0, .int .u64 0, .int .u64 0, .int .i64 1, .int .i64 0, .int .i64 0, .int .u64 0, .int .u64 0, .int .u64 0, .int .u64 0] 51)).alloc (.cells #[.slice (some ⟨w4.heap.size + 1 + 1, 0, none⟩) 2 2] 45)).alloc (.cells #[.slice (some ⟨w4.heap.size + 1, 0, none⟩) 1 1, .slice (some ⟨w4.heap.size + 1 + 1 + 1, 0, none⟩) 1 1] 84)) TV (.slice none 0 0) (.slice none 0 0) (.slice (some ⟨w4.heap.size + 1 + 1 + 1 + 1, 0, none⟩) 2 2) T13 [] [] B13 := ⟨O2P.on _ _ _ _ _ b6 C4.out.ports, World.ownsRow_nil _ _ _ _, World.ownsRow_nil _ _ _ _, hO⟩
  have C5 := Lib.hid (Cfo.box (i := 4) (u := .slice (some ⟨w4.heap.size + 1 + 1 + 1 + 1, 0, none⟩) 2 2) ⟨_, _, X5⟩ c5)
  have kX5 := X5.set 4 (.slice (some ⟨w4.heap.size + 1 + 1 + 1 + 1, 0, none⟩) 2 2)
  simp only [List.setIfInBounds_toArray, List.set_cons_succ, List.set_cons_zero] at kX5
  have HX5 := Lib.hid kX5
  have HB5 := Lib.hid ((HB4.out.trans (b6.mono HB4.out.size)).setCell (p := ⟨w1.heap.size, 4, none⟩) (show w.heap.size ≤ w1.heap.size by omega) (.slice (some ⟨w4.heap.size + 1 + 1 + 1 + 1, 0, none⟩) 2 2))
  have HR5 := Lib.hid ((HR4.out.on b6).far (p := ⟨w1.heap.size, 4, none⟩) (show w.heap.size ≠ w1.heap.size by omega) (.slice (some ⟨w4.heap.size + 1 + 1 + 1 + 1, 0, none⟩) 2 2))
  have n1 := on_some (below2 w4 (.cells #[.int .i64 1, .int .u64 0, .int .u64 1, .int .u64 0, .int .u64 1, .int .i64 3, .int .i64 1, .int .i64 0, .int .u64 0, .int .u64 0, .int .u64 0, .int .u64 0, .int .i64 0, .int .u64 0, .int .u64 0, .int .u64 0, .int .u64 0, .int .i64 1, .int .i64 0, .int .i64 0, .int .u64 0, .int .u64 0, .int .u64 0, .int .u64 0] 51) (.cells #[.slice (some ⟨w4.heap.size, 0, none⟩) 2 2] 45)) m0
  have n2 := on_some (below2 w4 (.cells #[.int .i64 1, .int .u64 0, .int .u64 1, .int .u64 0, .int .u64 1, .int .i64 3, .int .i64 1, .int .i64 0, .int .u64 0, .int .u64 0, .int .u64 0, .int .u64 0, .int .i64 0, .int .u64 0, .int .u64 0, .int .u64 0, .int .u64 0, .int .i64 1, .int .i64 0, .int .i64 0, .int .u64 0, .int .u64 0, .int .u64 0, .int .u64 0] 51) (.cells #[.slice (some ⟨w4.heap.size, 0, none⟩) 2 2] 45)) m1
  have n3 := on_some (below2 w4 (.cells #[.int .i64 1, .int .u64 0, .int .u64 1, .int .u64 0, .int .u64 1, .int .i64 3, .int .i64 1, .int .i64 0, .int .u64 0, .int .u64 0, .int .u64 0, .int .u64 0, .int .i64 0, .int .u64 0, .int .u64 0, .int .u64 0, .int .u64 0, .int .i64 1, .int .i64 0, .int .i64 0, .int .u64 0, .int .u64 0, .int .u64 0, .int .u64 0] 51) (.cells #[.slice (some ⟨w4.heap.size, 0, none⟩) 2 2] 45)) m2
  have n4 := on_some (below2 w4 (.cells #[.int .i64 1, .int .u64 0, .int .u64 1, .int .u64 0, .int .u64 1, .int .i64 3, .int .i64 1, .int .i64 0, .int .u64 0, .int .u64 0, .int .u64 0, .int .u64 0, .int .i64 0, .int .u64 0, .int .u64 0, .int .u64 0, .int .u64 0, .int .i64 1, .int .i64 0, .int .i64 0, .int .u64 0, .int .u64 0, .int .u64 0, .int .u64 0] 51) (.cells #[.slice (some ⟨w4.heap.size, 0, none⟩) 2 2] 45)) m3
  have j0 := on_some (below2 w4 (.cells #[.int .i64 1, .int .u64 0, .int .u64 1, .int .u64 0, .int .u64 1, .int .i64 3, .int .i64 1, .int .i64 0, .int .u64 0, .int .u64 0, .int .u64 0, .int .u64 0, .int .i64 0, .int .u64 0, .int .u64 0, .int .u64 0, .int .u64 0, .int .i64 1, .int .i64 0, .int .i64 0, .int .u64 0, .int .u64 0, .int .u64 0, .int .u64 0] 51) (.cells #[.slice (some ⟨w4.heap.size, 0, none⟩) 2 2] 45)) k0
  have j1 := on_some (below2 w4 (.cells #[.int .i64 1, .int .u64 0, .int .u64 1, .int .u64 0, .int .u64 1, .int .i64 3, .int .i64 1, .int .i64 0, .int .u64 0, .int .u64 0, .int .u64 0, .int .u64 0, .int .i64 0, .int .u64 0, .int .u64 0, .int .u64 0, .int .u64 0, .int .i64 1, .int .i64 0, .int .i64 0, .int .u64 0, .int .u64 0, .int .u64 0, .int .u64 0] 51) (.cells #[.slice (some ⟨w4.heap.size, 0, none⟩) 2 2] 45)) k1
  have j2 := on_some (below2 w4 (.cells #[.int .i64 1, .int .u64 0, .int .u64 1, .int .u64 0, .int .u64 1, .int .i64 3, .int .i64 1, .int .i64 0, .int .u64 0, .int .u64 0, .int .u64 0, .int .u64 0, .int .i64 0, .int .u64 0, .int .u64 0, .int .u64 0, .int .u64 0, .int .i64 1, .int .i64 0, .int .i64 0, .int .u64 0, .int .u64 0, .int .u64 0, .int .u64 0] 51) (.cells #[.slice (some ⟨w4.heap.size, 0, none⟩) 2 2] 45)) k2
  have j3 := on_some (below2 w4 (.cells #[.int .i64 1, .int .u64 0, .int .u64 1, .int .u64 0, .int .u64 1, .int .i64 3, .int .i64 1, .int .i64 0, .int .u64 0, .int .u64 0, .int .u64 0, .int .u64 0, .int .i64 0, .int .u64 0, .int .u64 0, .int .u64 0, .int .u64 0, .int .i64 1, .int .i64 0, .int .i64 0, .int .u64 0, .int .u64 0, .int .u64 0, .int .u64 0] 51) (.cells #[.slice (some ⟨w4.heap.size, 0, none⟩) 2 2] 45)) k3
  have j4 := on_some (below2 w4 (.cells #[.int .i64 1, .int .u64 0, .int .u64 1, .int .u64 0, .int .u64 1, .int .i64 3, .int .i64 1, .int .i64 0, .int .u64 0, .int .u64 0, .int .u64 0, .int .u64 0, .int .i64 0, .int .u64 0, .int .u64 0, .int .u64 0, .int .u64 0, .int .i64 1, .int .i64 0, .int .i64 0, .int .u64 0, .int .u64 0, .int .u64 0, .int .u64 0] 51) (.cells #[.slice (some ⟨w4.heap.size, 0, none⟩) 2 2] 45)) k4
  have j5 := on_some (below2 w4 (.cells #[.int .i64 1, .int .u64 0, .int .u64 1, .int .u64 0, .int .u64 1, .int .i64 3, .int .i64 1, .int .i64 0, .int .u64 0, .int .u64 0, .int .u64 0, .int .u64 0, .int .i64 0, .int .u64 0, .int .u64 0, .int .u64 0, .int .u64 0, .int .i64 1, .int .i64 0, .int .i64 0, .int .u64 0, .int .u64 0, .int .u64 0, .int .u64 0] 51) (.cells #[.slice (some ⟨w4.heap.size, 0, none⟩) 2 2] 45)) k5
  have j6 := on_some (below2 w4 (.cells #[.int .i64 1, .int .u64 0, .int .u64 1, .int .u64 0, .int .u64 1, .int .i64 3, .int .i64 1, .int .i64 0, .int .u64 0, .int .u64 0, .int .u64 0, .int .u64 0, .int .i64 0, .int .u64 0, .int .u64 0, .int .u64 0, .int .u64 0, .int .i64 1, .int .i64 0, .int .i64 0, .int .u64 0, .int .u64 0, .int .u64 0, .int .u64 0] 51) (.cells #[.slice (some ⟨w4.heap.size, 0, none⟩) 2 2] 45)) k6
  have j7 := on_some (below2 w4 (.cells #[.int .i64 1, .int .u64 0, .int .u64 1, .int .u64 0, .int .u64 1, .int .i64 3, .int .i64 1, .int .i64 0, .int .u64 0, .int .u64 0, .int .u64 0, .int .u64 0, .int .i64 0, .int .u64 0, .int .u64 0, .int .u64 0, .int .u64 0, .int .i64 1, .int .i64 0, .int .i64 0, .int .u64 0, .int .u64 0, .int .u64 0, .int .u64 0] 51) (.cells #[.slice (some ⟨w4.heap.size, 0, none⟩) 2 2] 45)) k7
  have j8 := on_some (below2 w4 (.cells #[.int .i64 1, .int .u64 0, .int .u64 1, .int .u64 0, .int .u64 1, .int .i64 3, .int .i64 1, .int .i64 0, .int .u64 0, .int .u64 0, .int .u64 0, .int .u64 0, .int .i64 0, .int .u64 0, .int .u64 0, .int .u64 0, .int .u64 0, .int .i64 1, .int .i64 0, .int .i64 0, .int .u64 0, .int .u64 0, .int .u64 0, .int .u64 0] 51) (.cells #[.slice (some ⟨w4.heap.size, 0, none⟩) 2 2] 45)) k8
  have j9 := on_some (below2 w4 (.cells #[.int .i64 1, .int .u64 0, .int .u64 1, .int .u64 0, .int .u64 1, .int .i64 3, .int .i64 1, .int .i64 0, .int .u64 0, .int .u64 0, .int .u64 0, .int .u64 0, .int .i64 0, .int .u64 0, .int .u64 0, .int .u64 0, .int .u64 0, .int .i64 1, .int .i64 0, .int .i64 0, .int .u64 0, .int .u64 0, .int .u64 0, .int .u64 0] 51) (.cells #[.slice (some ⟨w4.heap.size, 0, none⟩) 2 2] 45)) k9
  have j10 := on_some (below2 w4 (.cells #[.int .i64 1, .int .u64 0, .int .u64 1, .int .u64 0, .int .u64 1, .int .i64 3, .int .i64 1, .int .i64 0, .int .u64 0, .int .u64 0, .int .u64 0, .int .u64 0, .int .i64 0, .int .u64 0, .int .u64 0, .int .u64 0, .int .u64 0, .int .i64 1, .int .i64 0, .int .i64 0, .int .u64 0, .int .u64 0, .int .u64 0, .int .u64 0] 51) (.cells #[.slice (some ⟨w4.heap.size, 0, none⟩) 2 2] 45)) k10
  have j11 := on_some (below2 w4 (.cells #[.int .i64 1, .int .u64 0, .int .u64 1, .int .u64 0, .int .u64 1, .int .i64 3, .int .i64 1, .int .i64 0, .int .u64 0, .int .u64 0, .int .u64 0, .int .u64 0, .int .i64 0, .int .u64 0, .int .u64 0, .int .u64 0, .int .u64 0, .int .i64 1, .int .i64 0, .int .i64 0, .int .u64 0, .int .u64 0, .int .u64 0, .int .u64 0] 51) (.cells #[.slice (some ⟨w4.heap.size, 0, none⟩) 2 2] 45)) k11
  clear X5 hO c5 b5 b6 HX4 C4 HB4 HR4 kX5
  go_upto_region 6 with (fail)
  clear hf d0 d1 d2 d3 d4 m0 m1 m2 m3 n1 n2 n3 n4 k0 j0 k1 j1 k2 j2 k3 j3 k4 j4 k5 j5 k6 j6 k7 j7 k8 j8 k9 j9 k10 j10 k11 j11
  generalize (((((w4.alloc (.cells #[.int .i64 1, .int .u64 0, .int .u64 1, .int .u64 0, .int .u64 1, .int .i64 3, .int .i64 1, .int .i64 0, .int .u64 0, .int .u64 0, .int .u64 0, .int .u64 0, .int .i64 0, .int .u64 0, .int .u64 0, .int .u64 0, .int .u64 0, .int .i64 1, .int .i64 0, .int .i64 0, .int .u64 0, .int .u64 0, .int .u64 0, .int .u64 0] 51)).alloc (.cells #[.slice (some ⟨w4.heap.size, 0, none⟩) 2 2] 45)).alloc (.cells #[.int .i64 1, .int .u64 0, .int .u64 1, .int .u64 0, .int .u64 1, .int .i64 2, .int .i64 1, .int .i64 0, .int .u64 0, .int .u64 0, .int .u64 0, .int .u64 0, .int .i64 0, .int .u64 0, .int .u64 0, .int .u64 0, .int .u64 0, .int .i64 1, .int .i64 0, .int .i64 0, .int .u64 0, .int .u64 0, .int .u64 0, .int .u64 0] 51)).alloc (.cells #[.slice (some ⟨w4.heap.size + 1 + 1, 0, none⟩) 2 2] 45)).alloc (.cells #[.slice (some ⟨w4.heap.size + 1, 0, none⟩) 1 1, .slice (some ⟨w4.heap.size + 1 + 1 + 1, 0, none⟩) 1 1] 84)).setCell ⟨w1.heap.size, 4, none⟩ (.slice (some ⟨w4.heap.size + 1 + 1 + 1 + 1, 0, none⟩) 2 2) = w5 at C5 HX5 HB5 HR5 ⊢
  obtain ⟨BV, hBV⟩ : ∃ BV : Value, BV = .slice (some ⟨w4.heap.size + 1 + 1 + 1 + 1, 0, none⟩) 2 2 := ⟨_, rfl⟩
  rw [← hBV] at C5 HX5
  clear hBV
  obtain ⟨tA, tc, rfl, -⟩ := OwG.rd C5.out.ports
  obtain ⟨xA, xc, rfl, -⟩ := OwG.rd C5.out.tabs
  obtain ⟨d0, d1, d2, d3, d4⟩ := HX5.out.five
  have K5 := HR5.out.put5 (.slice tA T13.length tc) (.int .i64 1) (.slice none 0 0) (.slice none 0 0) (.slice xA B13.length xc)
  obtain ⟨q0, q1, q2, q3, q4⟩ := K5.five
  obtain ⟨z0, z1, z2, z3, z4⟩ := HR5.out.five
  have f0 := HR5.out.free 0
  have f1 := HR5.out.free 1
  have f2 := HR5.out.free 2
  have f3 := HR5.out.free 3
  have f4 := HR5.out.free 4
  have HCE := Lib.hid (Cfo.put5 hb1 C5.out (.slice tA T13.length tc) (.int .i64 1) (.slice none 0 0) (.slice none 0 0) (.slice xA B13.length xc))
  have HBE := Lib.hid (HB5.out.trans (below_put5 (w := w5) (B := w.heap.size) (g := w.heap.size) (Nat.le_refl _) (.slice tA T13.length tc) (.int .i64 1) (.slice none 0 0) (.slice none 0 0) (.slice xA B13.length xc)))
  clear K5 HR5 HX5 C5 HB5
  go_wp2
  exact bodyPost_ret (v := .agg #[.slice tA T13.length tc, .int .i64 1, .slice none 0 0, .slice none 0 0, .slice xA B13.length xc]) (by simp [results, Try.results26, go_sem, q0, q1, q2, q3, q4]) rfl ⟨_, _, rfl, Cfo.mono hsz1 HCE.out, HBE.out⟩
theorem of13 (tv pv wv bv : Value) (w : World) (hT : PsT w tv T13) (hP : Pe w pv []) (hQ : Wy w wv []) (hB : RuQ w bv B13) : Calls Try.prog 11 #[.agg #[tv, .int .i64 1, pv, wv, bv], .int .i64 0] w (OfR w [M13, Cb.zero]) :=
  pof_ok tv pv wv bv T13 1 [] [] B13 0 [M13, Cb.zero] w hT hP hQ hB C13 (by decide) B13_len clo13
theorem sets13 (tv pv wv bv : Value) (w : World) (hT : PsT w tv T13) (hP : Pe w pv []) (hQ : Wy w wv []) (hB : RuQ w bv B13) : Calls Try.prog 7 #[.agg #[tv, .int .i64 1, pv, wv, bv], .int .i64 0] w (GotCs w (allS T13 B13 0)) :=
  psets_ok tv pv wv bv T13 1 [] [] B13 0 w hT hP hQ hB C13 (by decide) B13_len
set_option maxRecDepth 100000 in
set_option maxHeartbeats 4000000 in
theorem awake13_c (w : World) : Calls Try.prog 9 #[] w fun e w' => e = .returned (.bool true) ∧ Below w.heap.size w w' := by
  go_enter Try.func9, Try.ntmps9
  go_wp2_with fail
  (with_reducible refine (line_c _).mono ?_)
  rintro e w1 ⟨tv, bv, rfl, hcf, hb1⟩
  have HRD := hcf.rd
  obtain ⟨tA, tc, rfl, -⟩ := OwG.rd hcf.ports
  obtain ⟨xA, xc, rfl, -⟩ := OwG.rd hcf.tabs
  have bx := below1 w1 (.cells #[.slice tA T13.length tc, .int .i64 1, .slice none 0 0, .slice none 0 0, .slice xA B13.length xc] 31)
  have X2 := Lib.hid (Blk.new w1 31 #[.slice tA T13.length tc, .int .i64 1, .slice none 0 0, .slice none 0 0, .slice xA B13.length xc])
  have HCF := Lib.hid (hcf.on bx).rd
  have HB2 := Lib.hid (hb1.trans (bx.mono hb1.size))
  clear hcf hb1 bx HRD
  go_upto_region 2 with (fail)
  generalize w1.alloc (.cells #[.slice tA T13.length tc, .int .i64 1, .slice none 0 0, .slice none 0 0, .slice xA B13.length xc] 31) = w2 at X2 HCF HB2 ⊢
  obtain ⟨d0, d1, d2, d3, d4⟩ := X2.out.five
  go_wp2_with fail
  (with_reducible refine (of13 _ _ _ _ _ HCF.out.1 HCF.out.2.1 HCF.out.2.2.1 HCF.out.2.2.2).mono ?_)
  rintro e w3 ⟨h1, -, hb3⟩
  obtain ⟨lv, rfl, hl⟩ := h1 (by decide)
  rw [told13] at hl
  obtain ⟨lA, lc, rfl, -, hlA⟩ := hl.form
  obtain ⟨lb, lo, rfl, -, hla⟩ := hlA (by decide)
  rw [show [Cb.zero, M13].length = 2 from rfl]
  have HLA := Lib.hid hla
  have HB3 := Lib.hid (HB2.out.trans (hb3.mono HB2.out.size))
  have X3 := Lib.hid (X2.out.on hb3)
  have HT3 := Lib.hid (HCF.out.1.on hb3)
  have HP3 := Lib.hid (HCF.out.2.1.on hb3)
  have HQ3 := Lib.hid (HCF.out.2.2.1.on hb3)
  have HR3 := Lib.hid (HCF.out.2.2.2.on hb3)
  clear h1 hl hlA hla hb3 d0 d1 d2 d3 d4 X2 HCF HB2
  obtain ⟨d0, d1, d2, d3, d4⟩ := X3.out.five
  go_wp2_with fail
  (with_reducible refine (sets13 _ _ _ _ _ HT3.out HP3.out HQ3.out HR3.out).mono ?_)
  rintro e w4 ⟨sv, rfl, hs, hb4⟩
  rw [all13] at hs
  obtain ⟨sA, sc, rfl⟩ := own_slD hs
  rw [show [(⟨16777216#64, 0#64, 18446744073692774400#64, 0#64⟩ : Cb)].length = 1 from rfl]
  have HB4 := Lib.hid (HB3.out.trans (hb4.mono HB3.out.size))
  obtain ⟨x0, x1, x2, x3⟩ := HLA.out 0 Cb.zero rfl
  obtain ⟨y0, y1, y2, y3⟩ := HLA.out 1 M13 rfl
  replace x0 := on_some hb4 x0
  replace x1 := on_some hb4 x1
  replace x2 := on_some hb4 x2
  replace x3 := on_some hb4 x3
  replace y2 := on_some hb4 y2
  replace y3 := on_some hb4 y3
  clear hb4 hs HB3 X3 HT3 HP3 HQ3 HR3 d0 d1 d2 d3 d4 HLA y0 y1
  simp only [show uv Cb.zero.vh = 0 from rfl, show uv Cb.zero.vl = 0 from rfl, show uv Cb.zero.ch = 0 from rfl, show uv Cb.zero.cl = 0 from rfl, show uv M13.ch = 0 from rfl, show uv M13.cl = 1 from rfl] at x0 x1 x2 x3 y2 y3
  rw [show lo + 0 * 4 = lo from rfl] at x0 x1 x2 x3
  rw [show lo + 1 * 4 = lo + 4 from rfl] at y2 y3
  have z2 := y2
  have z3 := y3
  rw [show lo + 4 + 2 = lo + 6 from rfl] at z2
  rw [show lo + 4 + 3 = lo + 7 from rfl] at z3
  have he4 := eq4_self 0 0 0 0
  have he2 := eq2_self 0 1
  go_wp2
  go_ret
  exact ⟨rfl, HB4.out⟩
end Go.Proofs

namespace Go.Proofs.Hd
open Go Go.RowKit Go.Proofs
end Go.Proofs.Hd
namespace Go.Proofs
open Go.RowKit Go.Proofs.Hd Go.Sort Go.Shelf Go.Lib
attribute [local go_sem] uv_nonneg
attribute [local go_sem high] run_eq4
end Go.Proofs

namespace Go.Proofs
open Go.RowKit Go.Proofs.Hd
attribute [local go_sem] uv_nonneg
end Go.Proofs
