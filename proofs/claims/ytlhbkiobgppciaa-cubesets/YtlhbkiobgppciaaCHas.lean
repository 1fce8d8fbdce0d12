/-
  The law CubeHas returns true for all cubes and headers, and changes nothing that was there. No conditions.
-/
import Derived.Test.YtlhbkiobgppciaaCParts
import Derived.Test.YtlhbkiobgppciaaRHas
namespace Go.Proofs
open Go.RowKit Go.Proofs.Hd
attribute [local go_sem] uv_nonneg eq4_self eq2_self
attribute [local go_sem high] run_eq2 run_eq4
theorem text_s (s : ByteArray) (c : Cb) (w : World) (hs : c.snd = true) (h : txt c = s) : Calls Try.prog 10 #[.agg #[.int .u64 (uv c.vh), .int .u64 (uv c.vl), .int .u64 (uv c.ch), .int .u64 (uv c.cl)]] w fun e w' => e = .returned (.tuple #[.string s, .bool true]) ∧ Below w.heap.size w w' := by
  subst h; exact text_yes c w hs
theorem rhas_is (x : Bool) (s : ByteArray) (c : Cb) (hh hl : BitVec 64) (w : World) (hc : c.snd = true) (hs : txt c = s) (hx : c.has hh hl = x) :
    Calls Try.prog 14 #[.string s, .agg #[.int .u64 (uv hh), .int .u64 (uv hl)]] w fun e w' => e = .returned (.bool x) ∧ Below w.heap.size w w' := by
  subst hx; exact rhas_s s c hh hl w hc hs
theorem has_none {c : Cb} (h l : BitVec 64) (hs : c.snd = false) : c.has h l = false := by
  cases e : c.has h l with
  | false => rfl
  | true =>
    have hh := (Cb.has_iff c h l).1 e
    have := (Cb.snd_iff c).2 (fun j hj hv => by have := hh j hj; rw [hv] at this; revert this; cases c.K j <;> simp)
    rw [hs] at this; cases this
set_option maxHeartbeats 4000000 in
theorem has_no (c : Cb) (hh hl : BitVec 64) (w : World) (hs : c.snd = false) :
    Calls Try.prog 3 #[.agg #[.int .u64 (uv c.vh), .int .u64 (uv c.vl), .int .u64 (uv c.ch), .int .u64 (uv c.cl)], .agg #[.int .u64 (uv hh), .int .u64 (uv hl)]] w fun e w' => e = .returned (.bool true) ∧ Below w.heap.size w w' := by
  have bx0 := below1 w (.cells #[.int .u64 (uv c.vh), .int .u64 (uv c.vl), .int .u64 (uv c.ch), .int .u64 (uv c.cl)] 26)
  have Cb0 : Blk (w.alloc (.cells #[.int .u64 (uv c.vh), .int .u64 (uv c.vl), .int .u64 (uv c.ch), .int .u64 (uv c.cl)] 26)) (w.heap.size) 26 #[.int .u64 (uv c.vh), .int .u64 (uv c.vl), .int .u64 (uv c.ch), .int .u64 (uv c.cl)] := Blk.new w _ _
  have L0 : Below w.heap.size w (w.alloc (.cells #[.int .u64 (uv c.vh), .int .u64 (uv c.vl), .int .u64 (uv c.ch), .int .u64 (uv c.cl)] 26)) := bx0
  have bx1 := below1 (w.alloc (.cells #[.int .u64 (uv c.vh), .int .u64 (uv c.vl), .int .u64 (uv c.ch), .int .u64 (uv c.cl)] 26)) (.cells #[.int .u64 (uv hh), .int .u64 (uv hl)] 24)
  have Cb1 := Cb0.on bx1
  have Hb1 : Blk ((w.alloc (.cells #[.int .u64 (uv c.vh), .int .u64 (uv c.vl), .int .u64 (uv c.ch), .int .u64 (uv c.cl)] 26)).alloc (.cells #[.int .u64 (uv hh), .int .u64 (uv hl)] 24)) (w.heap.size + 1) 24 #[.int .u64 (uv hh), .int .u64 (uv hl)] := by have h := Blk.new (w.alloc (.cells #[.int .u64 (uv c.vh), .int .u64 (uv c.vl), .int .u64 (uv c.ch), .int .u64 (uv c.cl)] 26)) 24 #[.int .u64 (uv hh), .int .u64 (uv hl)]; simpa only [World.size_alloc] using h
  have L1 : Below w.heap.size w ((w.alloc (.cells #[.int .u64 (uv c.vh), .int .u64 (uv c.vl), .int .u64 (uv c.ch), .int .u64 (uv c.cl)] 26)).alloc (.cells #[.int .u64 (uv hh), .int .u64 (uv hl)] 24)) := L0.trans (bx1.mono L0.size)
  have C := Cb1
  have H := Hb1
  have L := L1
  clear bx0 bx1 L0 L1 Cb0 Cb1 Hb1
  have eC := C.four
  have eH := H.pair
  go_enter Try.func3, Try.ntmps3
  go_wp2_with fail
  (with_reducible refine (text_no c _ hs).mono ?_)
  rintro e w1 ⟨rfl, hb⟩
  clear eC eH
  replace C := C.on hb
  replace H := H.on hb
  replace L := L.trans (hb.mono L.size)
  clear hb
  have eC := C.four
  have eH := H.pair
  go_wp2_with fail
  (with_reducible refine (awake2_c _).mono ?_)
  rintro e w2 ⟨rfl, hb⟩
  clear eC eH
  replace C := C.on hb
  replace H := H.on hb
  replace L := L.trans (hb.mono L.size)
  clear hb
  have eC := C.four
  have eH := H.pair
  go_wp2_with fail
  (with_reducible refine (csound _ c _ hs).mono ?_)
  rintro e w3 ⟨rfl, hb⟩
  clear eC eH
  replace C := C.on hb
  replace H := H.on hb
  replace L := L.trans (hb.mono L.size)
  clear hb
  have eC := C.four
  have eH := H.pair
  go_wp2_with fail
  (with_reducible refine (chas _ c hh hl _ (has_none hh hl hs)).mono ?_)
  rintro e w4 ⟨rfl, hb⟩
  clear eC eH
  replace C := C.on hb
  replace H := H.on hb
  replace L := L.trans (hb.mono L.size)
  clear hb
  have eC := C.four
  have eH := H.pair
  go_wp2
  go_ret
  exact ⟨rfl, L⟩

set_option maxHeartbeats 4000000 in
theorem has_t (c : Cb) (hh hl : BitVec 64) (w : World) (hs : c.snd = true) (s : ByteArray) (HT : Hid (txt c = s)) (hx : c.has hh hl = true) :
    Calls Try.prog 3 #[.agg #[.int .u64 (uv c.vh), .int .u64 (uv c.vl), .int .u64 (uv c.ch), .int .u64 (uv c.cl)], .agg #[.int .u64 (uv hh), .int .u64 (uv hl)]] w fun e w' => e = .returned (.bool true) ∧ Below w.heap.size w w' := by
  have bx0 := below1 w (.cells #[.int .u64 (uv c.vh), .int .u64 (uv c.vl), .int .u64 (uv c.ch), .int .u64 (uv c.cl)] 26)
  have Cb0 : Blk (w.alloc (.cells #[.int .u64 (uv c.vh), .int .u64 (uv c.vl), .int .u64 (uv c.ch), .int .u64 (uv c.cl)] 26)) (w.heap.size) 26 #[.int .u64 (uv c.vh), .int .u64 (uv c.vl), .int .u64 (uv c.ch), .int .u64 (uv c.cl)] := Blk.new w _ _
  have L0 : Below w.heap.size w (w.alloc (.cells #[.int .u64 (uv c.vh), .int .u64 (uv c.vl), .int .u64 (uv c.ch), .int .u64 (uv c.cl)] 26)) := bx0
  have bx1 := below1 (w.alloc (.cells #[.int .u64 (uv c.vh), .int .u64 (uv c.vl), .int .u64 (uv c.ch), .int .u64 (uv c.cl)] 26)) (.cells #[.int .u64 (uv hh), .int .u64 (uv hl)] 24)
  have Cb1 := Cb0.on bx1
  have Hb1 : Blk ((w.alloc (.cells #[.int .u64 (uv c.vh), .int .u64 (uv c.vl), .int .u64 (uv c.ch), .int .u64 (uv c.cl)] 26)).alloc (.cells #[.int .u64 (uv hh), .int .u64 (uv hl)] 24)) (w.heap.size + 1) 24 #[.int .u64 (uv hh), .int .u64 (uv hl)] := by have h := Blk.new (w.alloc (.cells #[.int .u64 (uv c.vh), .int .u64 (uv c.vl), .int .u64 (uv c.ch), .int .u64 (uv c.cl)] 26)) 24 #[.int .u64 (uv hh), .int .u64 (uv hl)]; simpa only [World.size_alloc] using h
  have L1 : Below w.heap.size w ((w.alloc (.cells #[.int .u64 (uv c.vh), .int .u64 (uv c.vl), .int .u64 (uv c.ch), .int .u64 (uv c.cl)] 26)).alloc (.cells #[.int .u64 (uv hh), .int .u64 (uv hl)] 24)) := L0.trans (bx1.mono L0.size)
  have C := Cb1
  have H := Hb1
  have L := L1
  clear bx0 bx1 L0 L1 Cb0 Cb1 Hb1
  have eC := C.four
  have eH := H.pair
  go_enter Try.func3, Try.ntmps3
  go_wp2_with fail
  (with_reducible refine (text_s s c _ hs HT.out).mono ?_)
  rintro e w1 ⟨rfl, hb⟩
  clear eC eH
  replace C := C.on hb
  replace H := H.on hb
  replace L := L.trans (hb.mono L.size)
  clear hb
  have eC := C.four
  have eH := H.pair
  go_wp2_with fail
  (with_reducible refine (awake2_c _).mono ?_)
  rintro e w2 ⟨rfl, hb⟩
  clear eC eH
  replace C := C.on hb
  replace H := H.on hb
  replace L := L.trans (hb.mono L.size)
  clear hb
  have eC := C.four
  have eH := H.pair
  go_wp2_with fail
  (with_reducible refine (csound _ c _ hs).mono ?_)
  rintro e w3 ⟨rfl, hb⟩
  clear eC eH
  replace C := C.on hb
  replace H := H.on hb
  replace L := L.trans (hb.mono L.size)
  clear hb
  have eC := C.four
  have eH := H.pair
  go_wp2_with fail
  (with_reducible refine (chas _ c hh hl _ hx).mono ?_)
  rintro e w4 ⟨rfl, hb⟩
  clear eC eH
  replace C := C.on hb
  replace H := H.on hb
  replace L := L.trans (hb.mono L.size)
  clear hb
  have eC := C.four
  have eH := H.pair
  go_wp2_with fail
  (with_reducible refine (rhas_is _ s c hh hl _ hs HT.out hx).mono ?_)
  rintro e w5 ⟨rfl, hb⟩
  clear eC eH
  replace C := C.on hb
  replace H := H.on hb
  replace L := L.trans (hb.mono L.size)
  clear hb
  have eC := C.four
  have eH := H.pair
  go_wp2
  go_ret
  exact ⟨rfl, L⟩

set_option maxHeartbeats 4000000 in
theorem has_f (c : Cb) (hh hl : BitVec 64) (w : World) (hs : c.snd = true) (s : ByteArray) (HT : Hid (txt c = s)) (hx : c.has hh hl = false) :
    Calls Try.prog 3 #[.agg #[.int .u64 (uv c.vh), .int .u64 (uv c.vl), .int .u64 (uv c.ch), .int .u64 (uv c.cl)], .agg #[.int .u64 (uv hh), .int .u64 (uv hl)]] w fun e w' => e = .returned (.bool true) ∧ Below w.heap.size w w' := by
  have bx0 := below1 w (.cells #[.int .u64 (uv c.vh), .int .u64 (uv c.vl), .int .u64 (uv c.ch), .int .u64 (uv c.cl)] 26)
  have Cb0 : Blk (w.alloc (.cells #[.int .u64 (uv c.vh), .int .u64 (uv c.vl), .int .u64 (uv c.ch), .int .u64 (uv c.cl)] 26)) (w.heap.size) 26 #[.int .u64 (uv c.vh), .int .u64 (uv c.vl), .int .u64 (uv c.ch), .int .u64 (uv c.cl)] := Blk.new w _ _
  have L0 : Below w.heap.size w (w.alloc (.cells #[.int .u64 (uv c.vh), .int .u64 (uv c.vl), .int .u64 (uv c.ch), .int .u64 (uv c.cl)] 26)) := bx0
  have bx1 := below1 (w.alloc (.cells #[.int .u64 (uv c.vh), .int .u64 (uv c.vl), .int .u64 (uv c.ch), .int .u64 (uv c.cl)] 26)) (.cells #[.int .u64 (uv hh), .int .u64 (uv hl)] 24)
  have Cb1 := Cb0.on bx1
  have Hb1 : Blk ((w.alloc (.cells #[.int .u64 (uv c.vh), .int .u64 (uv c.vl), .int .u64 (uv c.ch), .int .u64 (uv c.cl)] 26)).alloc (.cells #[.int .u64 (uv hh), .int .u64 (uv hl)] 24)) (w.heap.size + 1) 24 #[.int .u64 (uv hh), .int .u64 (uv hl)] := by have h := Blk.new (w.alloc (.cells #[.int .u64 (uv c.vh), .int .u64 (uv c.vl), .int .u64 (uv c.ch), .int .u64 (uv c.cl)] 26)) 24 #[.int .u64 (uv hh), .int .u64 (uv hl)]; simpa only [World.size_alloc] using h
  have L1 : Below w.heap.size w ((w.alloc (.cells #[.int .u64 (uv c.vh), .int .u64 (uv c.vl), .int .u64 (uv c.ch), .int .u64 (uv c.cl)] 26)).alloc (.cells #[.int .u64 (uv hh), .int .u64 (uv hl)] 24)) := L0.trans (bx1.mono L0.size)
  have C := Cb1
  have H := Hb1
  have L := L1
  clear bx0 bx1 L0 L1 Cb0 Cb1 Hb1
  have eC := C.four
  have eH := H.pair
  go_enter Try.func3, Try.ntmps3
  go_wp2_with fail
  (with_reducible refine (text_s s c _ hs HT.out).mono ?_)
  rintro e w1 ⟨rfl, hb⟩
  clear eC eH
  replace C := C.on hb
  replace H := H.on hb
  replace L := L.trans (hb.mono L.size)
  clear hb
  have eC := C.four
  have eH := H.pair
  go_wp2_with fail
  (with_reducible refine (awake2_c _).mono ?_)
  rintro e w2 ⟨rfl, hb⟩
  clear eC eH
  replace C := C.on hb
  replace H := H.on hb
  replace L := L.trans (hb.mono L.size)
  clear hb
  have eC := C.four
  have eH := H.pair
  go_wp2_with fail
  (with_reducible refine (csound _ c _ hs).mono ?_)
  rintro e w3 ⟨rfl, hb⟩
  clear eC eH
  replace C := C.on hb
  replace H := H.on hb
  replace L := L.trans (hb.mono L.size)
  clear hb
  have eC := C.four
  have eH := H.pair
  go_wp2_with fail
  (with_reducible refine (chas _ c hh hl _ hx).mono ?_)
  rintro e w4 ⟨rfl, hb⟩
  clear eC eH
  replace C := C.on hb
  replace H := H.on hb
  replace L := L.trans (hb.mono L.size)
  clear hb
  have eC := C.four
  have eH := H.pair
  go_wp2_with fail
  (with_reducible refine (rhas_is _ s c hh hl _ hs HT.out hx).mono ?_)
  rintro e w5 ⟨rfl, hb⟩
  clear eC eH
  replace C := C.on hb
  replace H := H.on hb
  replace L := L.trans (hb.mono L.size)
  clear hb
  have eC := C.four
  have eH := H.pair
  go_wp2
  go_ret
  exact ⟨rfl, L⟩

theorem lhas_c (c : Cb) (hh hl : BitVec 64) (w : World) : Calls Try.prog 3 #[.agg #[.int .u64 (uv c.vh), .int .u64 (uv c.vl), .int .u64 (uv c.ch), .int .u64 (uv c.cl)], .agg #[.int .u64 (uv hh), .int .u64 (uv hl)]] w fun e w' => e = .returned (.bool true) ∧ Below w.heap.size w w' := by
  cases hs : c.snd with
  | false => exact has_no c hh hl w hs
  | true =>
    cases hx : c.has hh hl with
    | false => exact has_f c hh hl w hs _ (Lib.hid rfl) hx
    | true => exact has_t c hh hl w hs _ (Lib.hid rfl) hx
theorem lhas_w (cvh cvl cch ccl hh hl : BitVec 64) (w : World) : Calls Try.prog 3 #[.agg #[.int .u64 (uv cvh), .int .u64 (uv cvl), .int .u64 (uv cch), .int .u64 (uv ccl)], .agg #[.int .u64 (uv hh), .int .u64 (uv hl)]] w fun e w' => e = .returned (.bool true) ∧ Below w.heap.size w w' :=
  lhas_c ⟨cvh, cvl, cch, ccl⟩ hh hl w
end Go.Proofs
