/-
  The law CubeTwice returns true for all cubes and headers, and changes nothing that was there. No conditions.
-/
import Derived.Test.YtlhbkiobgppciaaCuG
import Derived.Test.YtlhbkiobgppciaaCuH
import Derived.Deep.DeepCutAuto
import Derived.Deep.Light
namespace Go.Proofs
open Go.RowKit Go.Proofs.Hd
attribute [local go_sem] uv_nonneg eq4_self eq2_self
attribute [local go_sem high] run_eq2 run_eq4
theorem set_same (h c v : BitVec 64) : (((h &&& ~~~c) ||| (v &&& c)) &&& ~~~c) ||| (v &&& c) = (h &&& ~~~c) ||| (v &&& c) := by
  apply BitVec.eq_of_getLsbD_eq
  intro i hi
  simp only [BitVec.getLsbD_or, BitVec.getLsbD_and, BitVec.getLsbD_not, hi, decide_true, Bool.true_and]
  cases h.getLsbD i <;> cases c.getLsbD i <;> cases v.getLsbD i <;> rfl
theorem set_twice (hh hl svh svl sch scl : BitVec 64) (w : World) : Calls Try.prog 28 #[.agg #[.int .u64 (uv ((hh &&& ~~~sch) ||| (svh &&& sch))), .int .u64 (uv ((hl &&& ~~~scl) ||| (svl &&& scl)))], .agg #[.int .u64 (uv svh), .int .u64 (uv svl), .int .u64 (uv sch), .int .u64 (uv scl)]] w fun e w' => e = .returned (.agg #[.int .u64 (uv ((hh &&& ~~~sch) ||| (svh &&& sch))), .int .u64 (uv ((hl &&& ~~~scl) ||| (svl &&& scl)))]) ∧ Below w.heap.size w w' := by
  have h := set_c ((hh &&& ~~~sch) ||| (svh &&& sch)) ((hl &&& ~~~scl) ||| (svl &&& scl)) svh svl sch scl w
  rwa [set_same, set_same] at h
theorem wit_and (avh avl ach acl bvh bvl bch bcl : BitVec 64) : witB avh avl ach acl bvh bvl bch bcl = true ↔ sndB avh avl ach acl = true ∧ sndB bvh bvl bch bcl = true ∧ inB ach acl bch bcl = true ∧ agrB avh avl ach acl bvh bvl bch bcl = true := by
  rw [show witB avh avl ach acl bvh bvl bch bcl = (sndB avh avl ach acl && (sndB bvh bvl bch bcl && (inB ach acl bch bcl && agrB avh avl ach acl bvh bvl bch bcl))) by unfold witB; rfl]
  simp only [Bool.and_eq_true]
theorem after_snd (avh avl ach acl svh svl sch scl : BitVec 64) (h : sndB avh avl ach acl = true) : sndB ((avh &&& ~~~sch) ||| ((svh &&& sch) &&& sch)) ((avl &&& ~~~scl) ||| ((svl &&& scl) &&& scl)) (ach ||| sch) (acl ||| scl) = true := by
  rw [snd_bits] at *
  intro j hj
  simp only [hbit_or, hbit_and, hbit_andNot _ _ _ _ _ hj]
  have := h j hj
  cases h1 : hbit avh avl j <;> cases h2 : hbit ach acl j <;> cases h3 : hbit sch scl j <;> cases h4 : hbit svh svl j <;> simp_all
theorem after_mono (avh avl ach acl bvh bvl bch bcl svh svl sch scl : BitVec 64) (h : witB avh avl ach acl bvh bvl bch bcl = true) : witB ((avh &&& ~~~sch) ||| ((svh &&& sch) &&& sch)) ((avl &&& ~~~scl) ||| ((svl &&& scl) &&& scl)) (ach ||| sch) (acl ||| scl) ((bvh &&& ~~~sch) ||| ((svh &&& sch) &&& sch)) ((bvl &&& ~~~scl) ||| ((svl &&& scl) &&& scl)) (bch ||| sch) (bcl ||| scl) = true := by
  rw [wit_and] at *
  obtain ⟨h1, h2, h3, h4⟩ := h
  refine ⟨after_snd _ _ _ _ _ _ _ _ h1, after_snd _ _ _ _ _ _ _ _ h2, ?_, ?_⟩
  · rw [in_bits] at *
    intro j hj
    simp only [hbit_or]
    have := h3 j hj
    cases x1 : hbit ach acl j <;> cases x2 : hbit bch bcl j <;> cases x3 : hbit sch scl j <;> simp_all
  · rw [agr_bits] at *
    rw [in_bits] at h3
    intro j hj
    simp only [hbit_or, hbit_and, hbit_andNot _ _ _ _ _ hj]
    have y1 := h4 j hj
    have y2 := h3 j hj
    cases x1 : hbit ach acl j <;> cases x2 : hbit bch bcl j <;> cases x3 : hbit sch scl j <;> cases x4 : hbit avh avl j <;> cases x5 : hbit bvh bvl j <;> simp_all
theorem within_is (b : Bool) (avh avl ach acl bvh bvl bch bcl : BitVec 64) (w : World) (h : witB avh avl ach acl bvh bvl bch bcl = b) : Calls Try.prog 16 #[.agg #[.int .u64 (uv avh), .int .u64 (uv avl), .int .u64 (uv ach), .int .u64 (uv acl)], .agg #[.int .u64 (uv bvh), .int .u64 (uv bvl), .int .u64 (uv bch), .int .u64 (uv bcl)]] w fun e w' => e = .returned (.bool b) ∧ Below w.heap.size w w' := by
  subst h; exact within_c _ _ _ _ _ _ _ _ _

set_option maxHeartbeats 4000000 in
theorem twice_no (avh avl ach acl bvh bvl bch bcl svh svl sch scl hh hl : BitVec 64) (w : World) (hw : witB avh avl ach acl bvh bvl bch bcl = false) :
    Calls Try.prog 9 #[.agg #[.int .u64 (uv avh), .int .u64 (uv avl), .int .u64 (uv ach), .int .u64 (uv acl)], .agg #[.int .u64 (uv bvh), .int .u64 (uv bvl), .int .u64 (uv bch), .int .u64 (uv bcl)], .agg #[.int .u64 (uv svh), .int .u64 (uv svl), .int .u64 (uv sch), .int .u64 (uv scl)], .agg #[.int .u64 (uv hh), .int .u64 (uv hl)]] w fun e w' => e = .returned (.bool true) ∧ Below w.heap.size w w' := by
  have bx0 := below1 w (.cells #[.int .u64 (uv avh), .int .u64 (uv avl), .int .u64 (uv ach), .int .u64 (uv acl)] 26)
  have Ab0 : Blk (w.alloc (.cells #[.int .u64 (uv avh), .int .u64 (uv avl), .int .u64 (uv ach), .int .u64 (uv acl)] 26)) (w.heap.size) 26 #[.int .u64 (uv avh), .int .u64 (uv avl), .int .u64 (uv ach), .int .u64 (uv acl)] := Blk.new w _ _
  have L0 : Below w.heap.size w (w.alloc (.cells #[.int .u64 (uv avh), .int .u64 (uv avl), .int .u64 (uv ach), .int .u64 (uv acl)] 26)) := bx0
  have bx1 := below1 (w.alloc (.cells #[.int .u64 (uv avh), .int .u64 (uv avl), .int .u64 (uv ach), .int .u64 (uv acl)] 26)) (.cells #[.int .u64 (uv bvh), .int .u64 (uv bvl), .int .u64 (uv bch), .int .u64 (uv bcl)] 26)
  have Ab1 := Ab0.on bx1
  have Bb1 : Blk ((w.alloc (.cells #[.int .u64 (uv avh), .int .u64 (uv avl), .int .u64 (uv ach), .int .u64 (uv acl)] 26)).alloc (.cells #[.int .u64 (uv bvh), .int .u64 (uv bvl), .int .u64 (uv bch), .int .u64 (uv bcl)] 26)) (w.heap.size + 1) 26 #[.int .u64 (uv bvh), .int .u64 (uv bvl), .int .u64 (uv bch), .int .u64 (uv bcl)] := by have h := Blk.new (w.alloc (.cells #[.int .u64 (uv avh), .int .u64 (uv avl), .int .u64 (uv ach), .int .u64 (uv acl)] 26)) 26 #[.int .u64 (uv bvh), .int .u64 (uv bvl), .int .u64 (uv bch), .int .u64 (uv bcl)]; simpa only [World.size_alloc] using h
  have L1 : Below w.heap.size w ((w.alloc (.cells #[.int .u64 (uv avh), .int .u64 (uv avl), .int .u64 (uv ach), .int .u64 (uv acl)] 26)).alloc (.cells #[.int .u64 (uv bvh), .int .u64 (uv bvl), .int .u64 (uv bch), .int .u64 (uv bcl)] 26)) := L0.trans (bx1.mono L0.size)
  have bx2 := below1 ((w.alloc (.cells #[.int .u64 (uv avh), .int .u64 (uv avl), .int .u64 (uv ach), .int .u64 (uv acl)] 26)).alloc (.cells #[.int .u64 (uv bvh), .int .u64 (uv bvl), .int .u64 (uv bch), .int .u64 (uv bcl)] 26)) (.cells #[.int .u64 (uv svh), .int .u64 (uv svl), .int .u64 (uv sch), .int .u64 (uv scl)] 26)
  have Ab2 := Ab1.on bx2
  have Bb2 := Bb1.on bx2
  have Cb2 : Blk (((w.alloc (.cells #[.int .u64 (uv avh), .int .u64 (uv avl), .int .u64 (uv ach), .int .u64 (uv acl)] 26)).alloc (.cells #[.int .u64 (uv bvh), .int .u64 (uv bvl), .int .u64 (uv bch), .int .u64 (uv bcl)] 26)).alloc (.cells #[.int .u64 (uv svh), .int .u64 (uv svl), .int .u64 (uv sch), .int .u64 (uv scl)] 26)) (w.heap.size + 1 + 1) 26 #[.int .u64 (uv svh), .int .u64 (uv svl), .int .u64 (uv sch), .int .u64 (uv scl)] := by have h := Blk.new ((w.alloc (.cells #[.int .u64 (uv avh), .int .u64 (uv avl), .int .u64 (uv ach), .int .u64 (uv acl)] 26)).alloc (.cells #[.int .u64 (uv bvh), .int .u64 (uv bvl), .int .u64 (uv bch), .int .u64 (uv bcl)] 26)) 26 #[.int .u64 (uv svh), .int .u64 (uv svl), .int .u64 (uv sch), .int .u64 (uv scl)]; simpa only [World.size_alloc] using h
  have L2 : Below w.heap.size w (((w.alloc (.cells #[.int .u64 (uv avh), .int .u64 (uv avl), .int .u64 (uv ach), .int .u64 (uv acl)] 26)).alloc (.cells #[.int .u64 (uv bvh), .int .u64 (uv bvl), .int .u64 (uv bch), .int .u64 (uv bcl)] 26)).alloc (.cells #[.int .u64 (uv svh), .int .u64 (uv svl), .int .u64 (uv sch), .int .u64 (uv scl)] 26)) := L1.trans (bx2.mono L1.size)
  have bx3 := below1 (((w.alloc (.cells #[.int .u64 (uv avh), .int .u64 (uv avl), .int .u64 (uv ach), .int .u64 (uv acl)] 26)).alloc (.cells #[.int .u64 (uv bvh), .int .u64 (uv bvl), .int .u64 (uv bch), .int .u64 (uv bcl)] 26)).alloc (.cells #[.int .u64 (uv svh), .int .u64 (uv svl), .int .u64 (uv sch), .int .u64 (uv scl)] 26)) (.cells #[.int .u64 (uv hh), .int .u64 (uv hl)] 24)
  have Ab3 := Ab2.on bx3
  have Bb3 := Bb2.on bx3
  have Cb3 := Cb2.on bx3
  have Hb3 : Blk ((((w.alloc (.cells #[.int .u64 (uv avh), .int .u64 (uv avl), .int .u64 (uv ach), .int .u64 (uv acl)] 26)).alloc (.cells #[.int .u64 (uv bvh), .int .u64 (uv bvl), .int .u64 (uv bch), .int .u64 (uv bcl)] 26)).alloc (.cells #[.int .u64 (uv svh), .int .u64 (uv svl), .int .u64 (uv sch), .int .u64 (uv scl)] 26)).alloc (.cells #[.int .u64 (uv hh), .int .u64 (uv hl)] 24)) (w.heap.size + 1 + 1 + 1) 24 #[.int .u64 (uv hh), .int .u64 (uv hl)] := by have h := Blk.new (((w.alloc (.cells #[.int .u64 (uv avh), .int .u64 (uv avl), .int .u64 (uv ach), .int .u64 (uv acl)] 26)).alloc (.cells #[.int .u64 (uv bvh), .int .u64 (uv bvl), .int .u64 (uv bch), .int .u64 (uv bcl)] 26)).alloc (.cells #[.int .u64 (uv svh), .int .u64 (uv svl), .int .u64 (uv sch), .int .u64 (uv scl)] 26)) 24 #[.int .u64 (uv hh), .int .u64 (uv hl)]; simpa only [World.size_alloc] using h
  have L3 : Below w.heap.size w ((((w.alloc (.cells #[.int .u64 (uv avh), .int .u64 (uv avl), .int .u64 (uv ach), .int .u64 (uv acl)] 26)).alloc (.cells #[.int .u64 (uv bvh), .int .u64 (uv bvl), .int .u64 (uv bch), .int .u64 (uv bcl)] 26)).alloc (.cells #[.int .u64 (uv svh), .int .u64 (uv svl), .int .u64 (uv sch), .int .u64 (uv scl)] 26)).alloc (.cells #[.int .u64 (uv hh), .int .u64 (uv hl)] 24)) := L2.trans (bx3.mono L2.size)
  have A := Ab3
  have B := Bb3
  have C := Cb3
  have H := Hb3
  have L := L3
  clear bx0 bx1 bx2 bx3 L0 L1 L2 L3 Ab0 Ab1 Ab2 Ab3 Bb1 Bb2 Bb3 Cb2 Cb3 Hb3
  have eA := A.four
  have eB := B.four
  have eC := C.four
  have eH := H.pair
  go_enter Try.func9, Try.ntmps9
  go_wp2_with fail
  (with_reducible refine (meet_c avh avl ach acl bvh bvl bch bcl _).mono ?_)
  rintro e w1 ⟨rfl, hb⟩
  clear eA eB eC eH
  replace A := A.on hb
  replace B := B.on hb
  replace C := C.on hb
  replace H := H.on hb
  replace L := L.trans (hb.mono L.size)
  clear hb
  have eA := A.four
  have eB := B.four
  have eC := C.four
  have eH := H.pair
  go_upto_region 2 with (fail)
  have ltAX : w.heap.size < w1.heap.size := A.lt
  have ltBX : w.heap.size + 1 < w1.heap.size := B.lt
  have ltCX : w.heap.size + 1 + 1 < w1.heap.size := C.lt
  have ltHX : w.heap.size + 1 + 1 + 1 < w1.heap.size := H.lt
  have hb := below1 w1 (.cells #[.int .u64 (uv (sel (metB avh avl ach acl bvh bvl bch bcl) (avh ||| bvh))), .int .u64 (uv (sel (metB avh avl ach acl bvh bvl bch bcl) (avl ||| bvl))), .int .u64 (uv (sel (metB avh avl ach acl bvh bvl bch bcl) (ach ||| bch))), .int .u64 (uv (sel (metB avh avl ach acl bvh bvl bch bcl) (acl ||| bcl)))] 26)
  clear eA eB eC eH
  replace A := A.on hb
  replace B := B.on hb
  replace C := C.on hb
  replace H := H.on hb
  replace L := L.trans (hb.mono L.size)
  have X : Blk (w1.alloc (.cells #[.int .u64 (uv (sel (metB avh avl ach acl bvh bvl bch bcl) (avh ||| bvh))), .int .u64 (uv (sel (metB avh avl ach acl bvh bvl bch bcl) (avl ||| bvl))), .int .u64 (uv (sel (metB avh avl ach acl bvh bvl bch bcl) (ach ||| bch))), .int .u64 (uv (sel (metB avh avl ach acl bvh bvl bch bcl) (acl ||| bcl)))] 26)) w1.heap.size 26 #[.int .u64 (uv (sel (metB avh avl ach acl bvh bvl bch bcl) (avh ||| bvh))), .int .u64 (uv (sel (metB avh avl ach acl bvh bvl bch bcl) (avl ||| bvl))), .int .u64 (uv (sel (metB avh avl ach acl bvh bvl bch bcl) (ach ||| bch))), .int .u64 (uv (sel (metB avh avl ach acl bvh bvl bch bcl) (acl ||| bcl)))] := Blk.new w1 _ _
  clear hb
  generalize (w1.alloc (.cells #[.int .u64 (uv (sel (metB avh avl ach acl bvh bvl bch bcl) (avh ||| bvh))), .int .u64 (uv (sel (metB avh avl ach acl bvh bvl bch bcl) (avl ||| bvl))), .int .u64 (uv (sel (metB avh avl ach acl bvh bvl bch bcl) (ach ||| bch))), .int .u64 (uv (sel (metB avh avl ach acl bvh bvl bch bcl) (acl ||| bcl)))] 26)) = w2 at L A B C H X ⊢
  have eA := A.four
  have eB := B.four
  have eC := C.four
  have eH := H.pair
  have eX := X.four
  go_wp2_with fail
  (with_reducible refine (meet_r avh avl ach acl bvh bvl bch bcl _).mono ?_)
  rintro e w3 ⟨rfl, hb⟩
  clear eA eB eC eH eX
  replace A := A.on hb
  replace B := B.on hb
  replace C := C.on hb
  replace H := H.on hb
  replace X := X.on hb
  replace L := L.trans (hb.mono L.size)
  clear hb
  have eA := A.four
  have eB := B.four
  have eC := C.four
  have eH := H.pair
  have eX := X.four
  go_upto_region 3 with (fail)
  have ltAY : w.heap.size < w3.heap.size := A.lt
  have ltBY : w.heap.size + 1 < w3.heap.size := B.lt
  have ltCY : w.heap.size + 1 + 1 < w3.heap.size := C.lt
  have ltHY : w.heap.size + 1 + 1 + 1 < w3.heap.size := H.lt
  have ltXY : w1.heap.size < w3.heap.size := X.lt
  have hb := below1 w3 (.cells #[.int .u64 (uv (sel (metB avh avl ach acl bvh bvl bch bcl) (avh ||| bvh))), .int .u64 (uv (sel (metB avh avl ach acl bvh bvl bch bcl) (avl ||| bvl))), .int .u64 (uv (sel (metB avh avl ach acl bvh bvl bch bcl) (ach ||| bch))), .int .u64 (uv (sel (metB avh avl ach acl bvh bvl bch bcl) (acl ||| bcl)))] 26)
  clear eA eB eC eH eX
  replace A := A.on hb
  replace B := B.on hb
  replace C := C.on hb
  replace H := H.on hb
  replace X := X.on hb
  replace L := L.trans (hb.mono L.size)
  have Y : Blk (w3.alloc (.cells #[.int .u64 (uv (sel (metB avh avl ach acl bvh bvl bch bcl) (avh ||| bvh))), .int .u64 (uv (sel (metB avh avl ach acl bvh bvl bch bcl) (avl ||| bvl))), .int .u64 (uv (sel (metB avh avl ach acl bvh bvl bch bcl) (ach ||| bch))), .int .u64 (uv (sel (metB avh avl ach acl bvh bvl bch bcl) (acl ||| bcl)))] 26)) w3.heap.size 26 #[.int .u64 (uv (sel (metB avh avl ach acl bvh bvl bch bcl) (avh ||| bvh))), .int .u64 (uv (sel (metB avh avl ach acl bvh bvl bch bcl) (avl ||| bvl))), .int .u64 (uv (sel (metB avh avl ach acl bvh bvl bch bcl) (ach ||| bch))), .int .u64 (uv (sel (metB avh avl ach acl bvh bvl bch bcl) (acl ||| bcl)))] := Blk.new w3 _ _
  clear hb
  generalize (w3.alloc (.cells #[.int .u64 (uv (sel (metB avh avl ach acl bvh bvl bch bcl) (avh ||| bvh))), .int .u64 (uv (sel (metB avh avl ach acl bvh bvl bch bcl) (avl ||| bvl))), .int .u64 (uv (sel (metB avh avl ach acl bvh bvl bch bcl) (ach ||| bch))), .int .u64 (uv (sel (metB avh avl ach acl bvh bvl bch bcl) (acl ||| bcl)))] 26)) = w4 at L A B C H X Y ⊢
  have eA := A.four
  have eB := B.four
  have eC := C.four
  have eH := H.pair
  have eX := X.four
  have eY := Y.four
  go_wp2_with fail
  (with_reducible refine (set_c hh hl svh svl sch scl _).mono ?_)
  rintro e w5 ⟨rfl, hb⟩
  clear eA eB eC eH eX eY
  replace A := A.on hb
  replace B := B.on hb
  replace C := C.on hb
  replace H := H.on hb
  replace X := X.on hb
  replace Y := Y.on hb
  replace L := L.trans (hb.mono L.size)
  clear hb
  have eA := A.four
  have eB := B.four
  have eC := C.four
  have eH := H.pair
  have eX := X.four
  have eY := Y.four
  go_upto_region 4 with (fail)
  have ltAO : w.heap.size < w5.heap.size := A.lt
  have ltBO : w.heap.size + 1 < w5.heap.size := B.lt
  have ltCO : w.heap.size + 1 + 1 < w5.heap.size := C.lt
  have ltHO : w.heap.size + 1 + 1 + 1 < w5.heap.size := H.lt
  have ltXO : w1.heap.size < w5.heap.size := X.lt
  have ltYO : w3.heap.size < w5.heap.size := Y.lt
  have hb := below1 w5 (.cells #[.int .u64 (uv ((hh &&& ~~~sch) ||| (svh &&& sch))), .int .u64 (uv ((hl &&& ~~~scl) ||| (svl &&& scl)))] 24)
  clear eA eB eC eH eX eY
  replace A := A.on hb
  replace B := B.on hb
  replace C := C.on hb
  replace H := H.on hb
  replace X := X.on hb
  replace Y := Y.on hb
  replace L := L.trans (hb.mono L.size)
  have O : Blk (w5.alloc (.cells #[.int .u64 (uv ((hh &&& ~~~sch) ||| (svh &&& sch))), .int .u64 (uv ((hl &&& ~~~scl) ||| (svl &&& scl)))] 24)) w5.heap.size 24 #[.int .u64 (uv ((hh &&& ~~~sch) ||| (svh &&& sch))), .int .u64 (uv ((hl &&& ~~~scl) ||| (svl &&& scl)))] := Blk.new w5 _ _
  clear hb
  generalize (w5.alloc (.cells #[.int .u64 (uv ((hh &&& ~~~sch) ||| (svh &&& sch))), .int .u64 (uv ((hl &&& ~~~scl) ||| (svl &&& scl)))] 24)) = w6 at L A B C H X Y O ⊢
  have eA := A.four
  have eB := B.four
  have eC := C.four
  have eH := H.pair
  have eX := X.four
  have eY := Y.four
  have eO := O.pair
  go_wp2_with fail
  clear eA eB eC eH eX eY eO
  have KEEP1 : ∀ u1 u2 : World, Below u1.heap.size u1 u2 → ((Below w.heap.size w u1 ∧ u1.cell? ⟨w.heap.size, 0, none⟩ = some (.int .u64 (uv avh)) ∧ u1.cell? ⟨w.heap.size, 1, none⟩ = some (.int .u64 (uv avl)) ∧ u1.cell? ⟨w.heap.size, 2, none⟩ = some (.int .u64 (uv ach)) ∧ u1.cell? ⟨w.heap.size, 3, none⟩ = some (.int .u64 (uv acl)) ∧ u1.cell? ⟨w.heap.size + 1, 0, none⟩ = some (.int .u64 (uv bvh)) ∧ u1.cell? ⟨w.heap.size + 1, 1, none⟩ = some (.int .u64 (uv bvl)) ∧ u1.cell? ⟨w.heap.size + 1, 2, none⟩ = some (.int .u64 (uv bch)) ∧ u1.cell? ⟨w.heap.size + 1, 3, none⟩ = some (.int .u64 (uv bcl)) ∧ u1.cell? ⟨w.heap.size + 1 + 1, 0, none⟩ = some (.int .u64 (uv svh)) ∧ u1.cell? ⟨w.heap.size + 1 + 1, 1, none⟩ = some (.int .u64 (uv svl)) ∧ u1.cell? ⟨w.heap.size + 1 + 1, 2, none⟩ = some (.int .u64 (uv sch)) ∧ u1.cell? ⟨w.heap.size + 1 + 1, 3, none⟩ = some (.int .u64 (uv scl)) ∧ u1.cell? ⟨w.heap.size + 1 + 1 + 1, 0, none⟩ = some (.int .u64 (uv hh)) ∧ u1.cell? ⟨w.heap.size + 1 + 1 + 1, 1, none⟩ = some (.int .u64 (uv hl)) ∧ u1.cell? ⟨w1.heap.size, 0, none⟩ = some (.int .u64 (uv (sel (metB avh avl ach acl bvh bvl bch bcl) (avh ||| bvh)))) ∧ u1.cell? ⟨w1.heap.size, 1, none⟩ = some (.int .u64 (uv (sel (metB avh avl ach acl bvh bvl bch bcl) (avl ||| bvl)))) ∧ u1.cell? ⟨w1.heap.size, 2, none⟩ = some (.int .u64 (uv (sel (metB avh avl ach acl bvh bvl bch bcl) (ach ||| bch)))) ∧ u1.cell? ⟨w1.heap.size, 3, none⟩ = some (.int .u64 (uv (sel (metB avh avl ach acl bvh bvl bch bcl) (acl ||| bcl)))) ∧ u1.cell? ⟨w3.heap.size, 0, none⟩ = some (.int .u64 (uv (sel (metB avh avl ach acl bvh bvl bch bcl) (avh ||| bvh)))) ∧ u1.cell? ⟨w3.heap.size, 1, none⟩ = some (.int .u64 (uv (sel (metB avh avl ach acl bvh bvl bch bcl) (avl ||| bvl)))) ∧ u1.cell? ⟨w3.heap.size, 2, none⟩ = some (.int .u64 (uv (sel (metB avh avl ach acl bvh bvl bch bcl) (ach ||| bch)))) ∧ u1.cell? ⟨w3.heap.size, 3, none⟩ = some (.int .u64 (uv (sel (metB avh avl ach acl bvh bvl bch bcl) (acl ||| bcl)))) ∧ u1.cell? ⟨w5.heap.size, 0, none⟩ = some (.int .u64 (uv ((hh &&& ~~~sch) ||| (svh &&& sch)))) ∧ u1.cell? ⟨w5.heap.size, 1, none⟩ = some (.int .u64 (uv ((hl &&& ~~~scl) ||| (svl &&& scl))))) ∧ Blk u1 (w.heap.size) 26 #[.int .u64 (uv avh), .int .u64 (uv avl), .int .u64 (uv ach), .int .u64 (uv acl)] ∧ Blk u1 (w.heap.size + 1) 26 #[.int .u64 (uv bvh), .int .u64 (uv bvl), .int .u64 (uv bch), .int .u64 (uv bcl)] ∧ Blk u1 (w.heap.size + 1 + 1) 26 #[.int .u64 (uv svh), .int .u64 (uv svl), .int .u64 (uv sch), .int .u64 (uv scl)] ∧ Blk u1 (w.heap.size + 1 + 1 + 1) 24 #[.int .u64 (uv hh), .int .u64 (uv hl)] ∧ Blk u1 (w1.heap.size) 26 #[.int .u64 (uv (sel (metB avh avl ach acl bvh bvl bch bcl) (avh ||| bvh))), .int .u64 (uv (sel (metB avh avl ach acl bvh bvl bch bcl) (avl ||| bvl))), .int .u64 (uv (sel (metB avh avl ach acl bvh bvl bch bcl) (ach ||| bch))), .int .u64 (uv (sel (metB avh avl ach acl bvh bvl bch bcl) (acl ||| bcl)))] ∧ Blk u1 (w3.heap.size) 26 #[.int .u64 (uv (sel (metB avh avl ach acl bvh bvl bch bcl) (avh ||| bvh))), .int .u64 (uv (sel (metB avh avl ach acl bvh bvl bch bcl) (avl ||| bvl))), .int .u64 (uv (sel (metB avh avl ach acl bvh bvl bch bcl) (ach ||| bch))), .int .u64 (uv (sel (metB avh avl ach acl bvh bvl bch bcl) (acl ||| bcl)))] ∧ Blk u1 (w5.heap.size) 24 #[.int .u64 (uv ((hh &&& ~~~sch) ||| (svh &&& sch))), .int .u64 (uv ((hl &&& ~~~scl) ||| (svl &&& scl)))]) → ((Below w.heap.size w u2 ∧ u2.cell? ⟨w.heap.size, 0, none⟩ = some (.int .u64 (uv avh)) ∧ u2.cell? ⟨w.heap.size, 1, none⟩ = some (.int .u64 (uv avl)) ∧ u2.cell? ⟨w.heap.size, 2, none⟩ = some (.int .u64 (uv ach)) ∧ u2.cell? ⟨w.heap.size, 3, none⟩ = some (.int .u64 (uv acl)) ∧ u2.cell? ⟨w.heap.size + 1, 0, none⟩ = some (.int .u64 (uv bvh)) ∧ u2.cell? ⟨w.heap.size + 1, 1, none⟩ = some (.int .u64 (uv bvl)) ∧ u2.cell? ⟨w.heap.size + 1, 2, none⟩ = some (.int .u64 (uv bch)) ∧ u2.cell? ⟨w.heap.size + 1, 3, none⟩ = some (.int .u64 (uv bcl)) ∧ u2.cell? ⟨w.heap.size + 1 + 1, 0, none⟩ = some (.int .u64 (uv svh)) ∧ u2.cell? ⟨w.heap.size + 1 + 1, 1, none⟩ = some (.int .u64 (uv svl)) ∧ u2.cell? ⟨w.heap.size + 1 + 1, 2, none⟩ = some (.int .u64 (uv sch)) ∧ u2.cell? ⟨w.heap.size + 1 + 1, 3, none⟩ = some (.int .u64 (uv scl)) ∧ u2.cell? ⟨w.heap.size + 1 + 1 + 1, 0, none⟩ = some (.int .u64 (uv hh)) ∧ u2.cell? ⟨w.heap.size + 1 + 1 + 1, 1, none⟩ = some (.int .u64 (uv hl)) ∧ u2.cell? ⟨w1.heap.size, 0, none⟩ = some (.int .u64 (uv (sel (metB avh avl ach acl bvh bvl bch bcl) (avh ||| bvh)))) ∧ u2.cell? ⟨w1.heap.size, 1, none⟩ = some (.int .u64 (uv (sel (metB avh avl ach acl bvh bvl bch bcl) (avl ||| bvl)))) ∧ u2.cell? ⟨w1.heap.size, 2, none⟩ = some (.int .u64 (uv (sel (metB avh avl ach acl bvh bvl bch bcl) (ach ||| bch)))) ∧ u2.cell? ⟨w1.heap.size, 3, none⟩ = some (.int .u64 (uv (sel (metB avh avl ach acl bvh bvl bch bcl) (acl ||| bcl)))) ∧ u2.cell? ⟨w3.heap.size, 0, none⟩ = some (.int .u64 (uv (sel (metB avh avl ach acl bvh bvl bch bcl) (avh ||| bvh)))) ∧ u2.cell? ⟨w3.heap.size, 1, none⟩ = some (.int .u64 (uv (sel (metB avh avl ach acl bvh bvl bch bcl) (avl ||| bvl)))) ∧ u2.cell? ⟨w3.heap.size, 2, none⟩ = some (.int .u64 (uv (sel (metB avh avl ach acl bvh bvl bch bcl) (ach ||| bch)))) ∧ u2.cell? ⟨w3.heap.size, 3, none⟩ = some (.int .u64 (uv (sel (metB avh avl ach acl bvh bvl bch bcl) (acl ||| bcl)))) ∧ u2.cell? ⟨w5.heap.size, 0, none⟩ = some (.int .u64 (uv ((hh &&& ~~~sch) ||| (svh &&& sch)))) ∧ u2.cell? ⟨w5.heap.size, 1, none⟩ = some (.int .u64 (uv ((hl &&& ~~~scl) ||| (svl &&& scl))))) ∧ Blk u2 (w.heap.size) 26 #[.int .u64 (uv avh), .int .u64 (uv avl), .int .u64 (uv ach), .int .u64 (uv acl)] ∧ Blk u2 (w.heap.size + 1) 26 #[.int .u64 (uv bvh), .int .u64 (uv bvl), .int .u64 (uv bch), .int .u64 (uv bcl)] ∧ Blk u2 (w.heap.size + 1 + 1) 26 #[.int .u64 (uv svh), .int .u64 (uv svl), .int .u64 (uv sch), .int .u64 (uv scl)] ∧ Blk u2 (w.heap.size + 1 + 1 + 1) 24 #[.int .u64 (uv hh), .int .u64 (uv hl)] ∧ Blk u2 (w1.heap.size) 26 #[.int .u64 (uv (sel (metB avh avl ach acl bvh bvl bch bcl) (avh ||| bvh))), .int .u64 (uv (sel (metB avh avl ach acl bvh bvl bch bcl) (avl ||| bvl))), .int .u64 (uv (sel (metB avh avl ach acl bvh bvl bch bcl) (ach ||| bch))), .int .u64 (uv (sel (metB avh avl ach acl bvh bvl bch bcl) (acl ||| bcl)))] ∧ Blk u2 (w3.heap.size) 26 #[.int .u64 (uv (sel (metB avh avl ach acl bvh bvl bch bcl) (avh ||| bvh))), .int .u64 (uv (sel (metB avh avl ach acl bvh bvl bch bcl) (avl ||| bvl))), .int .u64 (uv (sel (metB avh avl ach acl bvh bvl bch bcl) (ach ||| bch))), .int .u64 (uv (sel (metB avh avl ach acl bvh bvl bch bcl) (acl ||| bcl)))] ∧ Blk u2 (w5.heap.size) 24 #[.int .u64 (uv ((hh &&& ~~~sch) ||| (svh &&& sch))), .int .u64 (uv ((hl &&& ~~~scl) ||| (svl &&& scl)))]) := fun _ _ hb h => ⟨hold24 hb h.1, (h.2.1).on hb, (h.2.2.1).on hb, (h.2.2.2.1).on hb, (h.2.2.2.2.1).on hb, (h.2.2.2.2.2.1).on hb, (h.2.2.2.2.2.2.1).on hb, (h.2.2.2.2.2.2.2).on hb⟩
  have S0 : (Below w.heap.size w w6 ∧ w6.cell? ⟨w.heap.size, 0, none⟩ = some (.int .u64 (uv avh)) ∧ w6.cell? ⟨w.heap.size, 1, none⟩ = some (.int .u64 (uv avl)) ∧ w6.cell? ⟨w.heap.size, 2, none⟩ = some (.int .u64 (uv ach)) ∧ w6.cell? ⟨w.heap.size, 3, none⟩ = some (.int .u64 (uv acl)) ∧ w6.cell? ⟨w.heap.size + 1, 0, none⟩ = some (.int .u64 (uv bvh)) ∧ w6.cell? ⟨w.heap.size + 1, 1, none⟩ = some (.int .u64 (uv bvl)) ∧ w6.cell? ⟨w.heap.size + 1, 2, none⟩ = some (.int .u64 (uv bch)) ∧ w6.cell? ⟨w.heap.size + 1, 3, none⟩ = some (.int .u64 (uv bcl)) ∧ w6.cell? ⟨w.heap.size + 1 + 1, 0, none⟩ = some (.int .u64 (uv svh)) ∧ w6.cell? ⟨w.heap.size + 1 + 1, 1, none⟩ = some (.int .u64 (uv svl)) ∧ w6.cell? ⟨w.heap.size + 1 + 1, 2, none⟩ = some (.int .u64 (uv sch)) ∧ w6.cell? ⟨w.heap.size + 1 + 1, 3, none⟩ = some (.int .u64 (uv scl)) ∧ w6.cell? ⟨w.heap.size + 1 + 1 + 1, 0, none⟩ = some (.int .u64 (uv hh)) ∧ w6.cell? ⟨w.heap.size + 1 + 1 + 1, 1, none⟩ = some (.int .u64 (uv hl)) ∧ w6.cell? ⟨w1.heap.size, 0, none⟩ = some (.int .u64 (uv (sel (metB avh avl ach acl bvh bvl bch bcl) (avh ||| bvh)))) ∧ w6.cell? ⟨w1.heap.size, 1, none⟩ = some (.int .u64 (uv (sel (metB avh avl ach acl bvh bvl bch bcl) (avl ||| bvl)))) ∧ w6.cell? ⟨w1.heap.size, 2, none⟩ = some (.int .u64 (uv (sel (metB avh avl ach acl bvh bvl bch bcl) (ach ||| bch)))) ∧ w6.cell? ⟨w1.heap.size, 3, none⟩ = some (.int .u64 (uv (sel (metB avh avl ach acl bvh bvl bch bcl) (acl ||| bcl)))) ∧ w6.cell? ⟨w3.heap.size, 0, none⟩ = some (.int .u64 (uv (sel (metB avh avl ach acl bvh bvl bch bcl) (avh ||| bvh)))) ∧ w6.cell? ⟨w3.heap.size, 1, none⟩ = some (.int .u64 (uv (sel (metB avh avl ach acl bvh bvl bch bcl) (avl ||| bvl)))) ∧ w6.cell? ⟨w3.heap.size, 2, none⟩ = some (.int .u64 (uv (sel (metB avh avl ach acl bvh bvl bch bcl) (ach ||| bch)))) ∧ w6.cell? ⟨w3.heap.size, 3, none⟩ = some (.int .u64 (uv (sel (metB avh avl ach acl bvh bvl bch bcl) (acl ||| bcl)))) ∧ w6.cell? ⟨w5.heap.size, 0, none⟩ = some (.int .u64 (uv ((hh &&& ~~~sch) ||| (svh &&& sch)))) ∧ w6.cell? ⟨w5.heap.size, 1, none⟩ = some (.int .u64 (uv ((hl &&& ~~~scl) ||| (svl &&& scl))))) ∧ Blk w6 (w.heap.size) 26 #[.int .u64 (uv avh), .int .u64 (uv avl), .int .u64 (uv ach), .int .u64 (uv acl)] ∧ Blk w6 (w.heap.size + 1) 26 #[.int .u64 (uv bvh), .int .u64 (uv bvl), .int .u64 (uv bch), .int .u64 (uv bcl)] ∧ Blk w6 (w.heap.size + 1 + 1) 26 #[.int .u64 (uv svh), .int .u64 (uv svl), .int .u64 (uv sch), .int .u64 (uv scl)] ∧ Blk w6 (w.heap.size + 1 + 1 + 1) 24 #[.int .u64 (uv hh), .int .u64 (uv hl)] ∧ Blk w6 (w1.heap.size) 26 #[.int .u64 (uv (sel (metB avh avl ach acl bvh bvl bch bcl) (avh ||| bvh))), .int .u64 (uv (sel (metB avh avl ach acl bvh bvl bch bcl) (avl ||| bvl))), .int .u64 (uv (sel (metB avh avl ach acl bvh bvl bch bcl) (ach ||| bch))), .int .u64 (uv (sel (metB avh avl ach acl bvh bvl bch bcl) (acl ||| bcl)))] ∧ Blk w6 (w3.heap.size) 26 #[.int .u64 (uv (sel (metB avh avl ach acl bvh bvl bch bcl) (avh ||| bvh))), .int .u64 (uv (sel (metB avh avl ach acl bvh bvl bch bcl) (avl ||| bvl))), .int .u64 (uv (sel (metB avh avl ach acl bvh bvl bch bcl) (ach ||| bch))), .int .u64 (uv (sel (metB avh avl ach acl bvh bvl bch bcl) (acl ||| bcl)))] ∧ Blk w6 (w5.heap.size) 24 #[.int .u64 (uv ((hh &&& ~~~sch) ||| (svh &&& sch))), .int .u64 (uv ((hl &&& ~~~scl) ||| (svl &&& scl)))] := ⟨⟨L, A.cell 0, A.cell 1, A.cell 2, A.cell 3, B.cell 0, B.cell 1, B.cell 2, B.cell 3, C.cell 0, C.cell 1, C.cell 2, C.cell 3, H.cell 0, H.cell 1, X.cell 0, X.cell 1, X.cell 2, X.cell 3, Y.cell 0, Y.cell 1, Y.cell 2, Y.cell 3, O.cell 0, O.cell 1⟩, A, B, C, H, X, Y, O⟩
  go_region_held3 (fun w' => (Below w.heap.size w w' ∧ w'.cell? ⟨w.heap.size, 0, none⟩ = some (.int .u64 (uv avh)) ∧ w'.cell? ⟨w.heap.size, 1, none⟩ = some (.int .u64 (uv avl)) ∧ w'.cell? ⟨w.heap.size, 2, none⟩ = some (.int .u64 (uv ach)) ∧ w'.cell? ⟨w.heap.size, 3, none⟩ = some (.int .u64 (uv acl)) ∧ w'.cell? ⟨w.heap.size + 1, 0, none⟩ = some (.int .u64 (uv bvh)) ∧ w'.cell? ⟨w.heap.size + 1, 1, none⟩ = some (.int .u64 (uv bvl)) ∧ w'.cell? ⟨w.heap.size + 1, 2, none⟩ = some (.int .u64 (uv bch)) ∧ w'.cell? ⟨w.heap.size + 1, 3, none⟩ = some (.int .u64 (uv bcl)) ∧ w'.cell? ⟨w.heap.size + 1 + 1, 0, none⟩ = some (.int .u64 (uv svh)) ∧ w'.cell? ⟨w.heap.size + 1 + 1, 1, none⟩ = some (.int .u64 (uv svl)) ∧ w'.cell? ⟨w.heap.size + 1 + 1, 2, none⟩ = some (.int .u64 (uv sch)) ∧ w'.cell? ⟨w.heap.size + 1 + 1, 3, none⟩ = some (.int .u64 (uv scl)) ∧ w'.cell? ⟨w.heap.size + 1 + 1 + 1, 0, none⟩ = some (.int .u64 (uv hh)) ∧ w'.cell? ⟨w.heap.size + 1 + 1 + 1, 1, none⟩ = some (.int .u64 (uv hl)) ∧ w'.cell? ⟨w1.heap.size, 0, none⟩ = some (.int .u64 (uv (sel (metB avh avl ach acl bvh bvl bch bcl) (avh ||| bvh)))) ∧ w'.cell? ⟨w1.heap.size, 1, none⟩ = some (.int .u64 (uv (sel (metB avh avl ach acl bvh bvl bch bcl) (avl ||| bvl)))) ∧ w'.cell? ⟨w1.heap.size, 2, none⟩ = some (.int .u64 (uv (sel (metB avh avl ach acl bvh bvl bch bcl) (ach ||| bch)))) ∧ w'.cell? ⟨w1.heap.size, 3, none⟩ = some (.int .u64 (uv (sel (metB avh avl ach acl bvh bvl bch bcl) (acl ||| bcl)))) ∧ w'.cell? ⟨w3.heap.size, 0, none⟩ = some (.int .u64 (uv (sel (metB avh avl ach acl bvh bvl bch bcl) (avh ||| bvh)))) ∧ w'.cell? ⟨w3.heap.size, 1, none⟩ = some (.int .u64 (uv (sel (metB avh avl ach acl bvh bvl bch bcl) (avl ||| bvl)))) ∧ w'.cell? ⟨w3.heap.size, 2, none⟩ = some (.int .u64 (uv (sel (metB avh avl ach acl bvh bvl bch bcl) (ach ||| bch)))) ∧ w'.cell? ⟨w3.heap.size, 3, none⟩ = some (.int .u64 (uv (sel (metB avh avl ach acl bvh bvl bch bcl) (acl ||| bcl)))) ∧ w'.cell? ⟨w5.heap.size, 0, none⟩ = some (.int .u64 (uv ((hh &&& ~~~sch) ||| (svh &&& sch)))) ∧ w'.cell? ⟨w5.heap.size, 1, none⟩ = some (.int .u64 (uv ((hl &&& ~~~scl) ||| (svl &&& scl))))) ∧ Blk w' (w.heap.size) 26 #[.int .u64 (uv avh), .int .u64 (uv avl), .int .u64 (uv ach), .int .u64 (uv acl)] ∧ Blk w' (w.heap.size + 1) 26 #[.int .u64 (uv bvh), .int .u64 (uv bvl), .int .u64 (uv bch), .int .u64 (uv bcl)] ∧ Blk w' (w.heap.size + 1 + 1) 26 #[.int .u64 (uv svh), .int .u64 (uv svl), .int .u64 (uv sch), .int .u64 (uv scl)] ∧ Blk w' (w.heap.size + 1 + 1 + 1) 24 #[.int .u64 (uv hh), .int .u64 (uv hl)] ∧ Blk w' (w1.heap.size) 26 #[.int .u64 (uv (sel (metB avh avl ach acl bvh bvl bch bcl) (avh ||| bvh))), .int .u64 (uv (sel (metB avh avl ach acl bvh bvl bch bcl) (avl ||| bvl))), .int .u64 (uv (sel (metB avh avl ach acl bvh bvl bch bcl) (ach ||| bch))), .int .u64 (uv (sel (metB avh avl ach acl bvh bvl bch bcl) (acl ||| bcl)))] ∧ Blk w' (w3.heap.size) 26 #[.int .u64 (uv (sel (metB avh avl ach acl bvh bvl bch bcl) (avh ||| bvh))), .int .u64 (uv (sel (metB avh avl ach acl bvh bvl bch bcl) (avl ||| bvl))), .int .u64 (uv (sel (metB avh avl ach acl bvh bvl bch bcl) (ach ||| bch))), .int .u64 (uv (sel (metB avh avl ach acl bvh bvl bch bcl) (acl ||| bcl)))] ∧ Blk w' (w5.heap.size) 24 #[.int .u64 (uv ((hh &&& ~~~sch) ||| (svh &&& sch))), .int .u64 (uv ((hl &&& ~~~scl) ||| (svl &&& scl)))])
    (first | exact KEEP1 _ _ (by assumption) (by assumption) | exact KEEP1 _ _ (Below.refl _ _).drew S0)
    (first
      | (go_at_call 11; (with_reducible refine (awake2_c _).mono ?_); rintro e w' ⟨rfl, hb⟩)
      | (go_at_call 28; (with_reducible refine (set_twice hh hl svh svl sch scl _).mono ?_); rintro e w' ⟨rfl, hb⟩))
  clear S0 KEEP1
  rename_i hS
  clear A B C H X Y O L
  obtain ⟨⟨L, _, _, _, _, _, _, _, _, _, _, _, _, _, _, _, _, _, _, _, _, _, _, _, _⟩, A, B, C, H, X, Y, O⟩ := hS
  have eA := A.four
  have eB := B.four
  have eC := C.four
  have eH := H.pair
  have eX := X.four
  have eY := Y.four
  have eO := O.pair
  go_wp2_with fail
  (with_reducible refine (make_c _ _ _ _ _).mono ?_)
  rintro e w7 ⟨rfl, hb⟩
  clear eA eB eC eH eX eY eO
  replace A := A.on hb
  replace B := B.on hb
  replace C := C.on hb
  replace H := H.on hb
  replace X := X.on hb
  replace Y := Y.on hb
  replace O := O.on hb
  replace L := L.trans (hb.mono L.size)
  clear hb
  have eA := A.four
  have eB := B.four
  have eC := C.four
  have eH := H.pair
  have eX := X.four
  have eY := Y.four
  have eO := O.pair
  have fC := C.fr4
  go_upto_region 7 with (fail)
  clear fC
  clear eA eB eC eH eX eY eO
  replace A := A.far4 (r := w.heap.size + 1 + 1) (by omega) (.int .u64 (uv (svh &&& sch))) (.int .u64 (uv (svl &&& scl))) (.int .u64 (uv (sch))) (.int .u64 (uv (scl)))
  replace B := B.far4 (r := w.heap.size + 1 + 1) (by omega) (.int .u64 (uv (svh &&& sch))) (.int .u64 (uv (svl &&& scl))) (.int .u64 (uv (sch))) (.int .u64 (uv (scl)))
  replace C := C.set4 (.int .u64 (uv (svh &&& sch))) (.int .u64 (uv (svl &&& scl))) (.int .u64 (uv (sch))) (.int .u64 (uv (scl)))
  replace H := H.far4 (r := w.heap.size + 1 + 1) (by omega) (.int .u64 (uv (svh &&& sch))) (.int .u64 (uv (svl &&& scl))) (.int .u64 (uv (sch))) (.int .u64 (uv (scl)))
  replace X := X.far4 (r := w.heap.size + 1 + 1) (by omega) (.int .u64 (uv (svh &&& sch))) (.int .u64 (uv (svl &&& scl))) (.int .u64 (uv (sch))) (.int .u64 (uv (scl)))
  replace Y := Y.far4 (r := w.heap.size + 1 + 1) (by omega) (.int .u64 (uv (svh &&& sch))) (.int .u64 (uv (svl &&& scl))) (.int .u64 (uv (sch))) (.int .u64 (uv (scl)))
  replace O := O.far4 (r := w.heap.size + 1 + 1) (by omega) (.int .u64 (uv (svh &&& sch))) (.int .u64 (uv (svl &&& scl))) (.int .u64 (uv (sch))) (.int .u64 (uv (scl)))
  replace L := L.trans ((sets4 w7 (w.heap.size + 1 + 1) (.int .u64 (uv (svh &&& sch))) (.int .u64 (uv (svl &&& scl))) (.int .u64 (uv (sch))) (.int .u64 (uv (scl)))).mono (by omega))
  generalize ((((w7.setCell ⟨w.heap.size + 1 + 1, 0, none⟩ (.int .u64 (uv (svh &&& sch)))).setCell ⟨w.heap.size + 1 + 1, 1, none⟩ (.int .u64 (uv (svl &&& scl)))).setCell ⟨w.heap.size + 1 + 1, 2, none⟩ (.int .u64 (uv (sch)))).setCell ⟨w.heap.size + 1 + 1, 3, none⟩ (.int .u64 (uv (scl)))) = w8 at L A B C H X Y O ⊢
  have eA := A.four
  have eB := B.four
  have eC := C.four
  have eH := H.pair
  have eX := X.four
  have eY := Y.four
  have eO := O.pair
  go_wp2_with fail
  clear eA eB eC eH eX eY eO
  have KEEP2 : ∀ u1 u2 : World, Below u1.heap.size u1 u2 → ((Below w.heap.size w u1 ∧ u1.cell? ⟨w.heap.size, 0, none⟩ = some (.int .u64 (uv avh)) ∧ u1.cell? ⟨w.heap.size, 1, none⟩ = some (.int .u64 (uv avl)) ∧ u1.cell? ⟨w.heap.size, 2, none⟩ = some (.int .u64 (uv ach)) ∧ u1.cell? ⟨w.heap.size, 3, none⟩ = some (.int .u64 (uv acl)) ∧ u1.cell? ⟨w.heap.size + 1, 0, none⟩ = some (.int .u64 (uv bvh)) ∧ u1.cell? ⟨w.heap.size + 1, 1, none⟩ = some (.int .u64 (uv bvl)) ∧ u1.cell? ⟨w.heap.size + 1, 2, none⟩ = some (.int .u64 (uv bch)) ∧ u1.cell? ⟨w.heap.size + 1, 3, none⟩ = some (.int .u64 (uv bcl)) ∧ u1.cell? ⟨w.heap.size + 1 + 1, 0, none⟩ = some (.int .u64 (uv (svh &&& sch))) ∧ u1.cell? ⟨w.heap.size + 1 + 1, 1, none⟩ = some (.int .u64 (uv (svl &&& scl))) ∧ u1.cell? ⟨w.heap.size + 1 + 1, 2, none⟩ = some (.int .u64 (uv (sch))) ∧ u1.cell? ⟨w.heap.size + 1 + 1, 3, none⟩ = some (.int .u64 (uv (scl))) ∧ u1.cell? ⟨w.heap.size + 1 + 1 + 1, 0, none⟩ = some (.int .u64 (uv hh)) ∧ u1.cell? ⟨w.heap.size + 1 + 1 + 1, 1, none⟩ = some (.int .u64 (uv hl)) ∧ u1.cell? ⟨w1.heap.size, 0, none⟩ = some (.int .u64 (uv (sel (metB avh avl ach acl bvh bvl bch bcl) (avh ||| bvh)))) ∧ u1.cell? ⟨w1.heap.size, 1, none⟩ = some (.int .u64 (uv (sel (metB avh avl ach acl bvh bvl bch bcl) (avl ||| bvl)))) ∧ u1.cell? ⟨w1.heap.size, 2, none⟩ = some (.int .u64 (uv (sel (metB avh avl ach acl bvh bvl bch bcl) (ach ||| bch)))) ∧ u1.cell? ⟨w1.heap.size, 3, none⟩ = some (.int .u64 (uv (sel (metB avh avl ach acl bvh bvl bch bcl) (acl ||| bcl)))) ∧ u1.cell? ⟨w3.heap.size, 0, none⟩ = some (.int .u64 (uv (sel (metB avh avl ach acl bvh bvl bch bcl) (avh ||| bvh)))) ∧ u1.cell? ⟨w3.heap.size, 1, none⟩ = some (.int .u64 (uv (sel (metB avh avl ach acl bvh bvl bch bcl) (avl ||| bvl)))) ∧ u1.cell? ⟨w3.heap.size, 2, none⟩ = some (.int .u64 (uv (sel (metB avh avl ach acl bvh bvl bch bcl) (ach ||| bch)))) ∧ u1.cell? ⟨w3.heap.size, 3, none⟩ = some (.int .u64 (uv (sel (metB avh avl ach acl bvh bvl bch bcl) (acl ||| bcl)))) ∧ u1.cell? ⟨w5.heap.size, 0, none⟩ = some (.int .u64 (uv ((hh &&& ~~~sch) ||| (svh &&& sch)))) ∧ u1.cell? ⟨w5.heap.size, 1, none⟩ = some (.int .u64 (uv ((hl &&& ~~~scl) ||| (svl &&& scl))))) ∧ Blk u1 (w.heap.size) 26 #[.int .u64 (uv avh), .int .u64 (uv avl), .int .u64 (uv ach), .int .u64 (uv acl)] ∧ Blk u1 (w.heap.size + 1) 26 #[.int .u64 (uv bvh), .int .u64 (uv bvl), .int .u64 (uv bch), .int .u64 (uv bcl)] ∧ Blk u1 (w.heap.size + 1 + 1) 26 #[.int .u64 (uv (svh &&& sch)), .int .u64 (uv (svl &&& scl)), .int .u64 (uv (sch)), .int .u64 (uv (scl))] ∧ Blk u1 (w.heap.size + 1 + 1 + 1) 24 #[.int .u64 (uv hh), .int .u64 (uv hl)] ∧ Blk u1 (w1.heap.size) 26 #[.int .u64 (uv (sel (metB avh avl ach acl bvh bvl bch bcl) (avh ||| bvh))), .int .u64 (uv (sel (metB avh avl ach acl bvh bvl bch bcl) (avl ||| bvl))), .int .u64 (uv (sel (metB avh avl ach acl bvh bvl bch bcl) (ach ||| bch))), .int .u64 (uv (sel (metB avh avl ach acl bvh bvl bch bcl) (acl ||| bcl)))] ∧ Blk u1 (w3.heap.size) 26 #[.int .u64 (uv (sel (metB avh avl ach acl bvh bvl bch bcl) (avh ||| bvh))), .int .u64 (uv (sel (metB avh avl ach acl bvh bvl bch bcl) (avl ||| bvl))), .int .u64 (uv (sel (metB avh avl ach acl bvh bvl bch bcl) (ach ||| bch))), .int .u64 (uv (sel (metB avh avl ach acl bvh bvl bch bcl) (acl ||| bcl)))] ∧ Blk u1 (w5.heap.size) 24 #[.int .u64 (uv ((hh &&& ~~~sch) ||| (svh &&& sch))), .int .u64 (uv ((hl &&& ~~~scl) ||| (svl &&& scl)))]) → ((Below w.heap.size w u2 ∧ u2.cell? ⟨w.heap.size, 0, none⟩ = some (.int .u64 (uv avh)) ∧ u2.cell? ⟨w.heap.size, 1, none⟩ = some (.int .u64 (uv avl)) ∧ u2.cell? ⟨w.heap.size, 2, none⟩ = some (.int .u64 (uv ach)) ∧ u2.cell? ⟨w.heap.size, 3, none⟩ = some (.int .u64 (uv acl)) ∧ u2.cell? ⟨w.heap.size + 1, 0, none⟩ = some (.int .u64 (uv bvh)) ∧ u2.cell? ⟨w.heap.size + 1, 1, none⟩ = some (.int .u64 (uv bvl)) ∧ u2.cell? ⟨w.heap.size + 1, 2, none⟩ = some (.int .u64 (uv bch)) ∧ u2.cell? ⟨w.heap.size + 1, 3, none⟩ = some (.int .u64 (uv bcl)) ∧ u2.cell? ⟨w.heap.size + 1 + 1, 0, none⟩ = some (.int .u64 (uv (svh &&& sch))) ∧ u2.cell? ⟨w.heap.size + 1 + 1, 1, none⟩ = some (.int .u64 (uv (svl &&& scl))) ∧ u2.cell? ⟨w.heap.size + 1 + 1, 2, none⟩ = some (.int .u64 (uv (sch))) ∧ u2.cell? ⟨w.heap.size + 1 + 1, 3, none⟩ = some (.int .u64 (uv (scl))) ∧ u2.cell? ⟨w.heap.size + 1 + 1 + 1, 0, none⟩ = some (.int .u64 (uv hh)) ∧ u2.cell? ⟨w.heap.size + 1 + 1 + 1, 1, none⟩ = some (.int .u64 (uv hl)) ∧ u2.cell? ⟨w1.heap.size, 0, none⟩ = some (.int .u64 (uv (sel (metB avh avl ach acl bvh bvl bch bcl) (avh ||| bvh)))) ∧ u2.cell? ⟨w1.heap.size, 1, none⟩ = some (.int .u64 (uv (sel (metB avh avl ach acl bvh bvl bch bcl) (avl ||| bvl)))) ∧ u2.cell? ⟨w1.heap.size, 2, none⟩ = some (.int .u64 (uv (sel (metB avh avl ach acl bvh bvl bch bcl) (ach ||| bch)))) ∧ u2.cell? ⟨w1.heap.size, 3, none⟩ = some (.int .u64 (uv (sel (metB avh avl ach acl bvh bvl bch bcl) (acl ||| bcl)))) ∧ u2.cell? ⟨w3.heap.size, 0, none⟩ = some (.int .u64 (uv (sel (metB avh avl ach acl bvh bvl bch bcl) (avh ||| bvh)))) ∧ u2.cell? ⟨w3.heap.size, 1, none⟩ = some (.int .u64 (uv (sel (metB avh avl ach acl bvh bvl bch bcl) (avl ||| bvl)))) ∧ u2.cell? ⟨w3.heap.size, 2, none⟩ = some (.int .u64 (uv (sel (metB avh avl ach acl bvh bvl bch bcl) (ach ||| bch)))) ∧ u2.cell? ⟨w3.heap.size, 3, none⟩ = some (.int .u64 (uv (sel (metB avh avl ach acl bvh bvl bch bcl) (acl ||| bcl)))) ∧ u2.cell? ⟨w5.heap.size, 0, none⟩ = some (.int .u64 (uv ((hh &&& ~~~sch) ||| (svh &&& sch)))) ∧ u2.cell? ⟨w5.heap.size, 1, none⟩ = some (.int .u64 (uv ((hl &&& ~~~scl) ||| (svl &&& scl))))) ∧ Blk u2 (w.heap.size) 26 #[.int .u64 (uv avh), .int .u64 (uv avl), .int .u64 (uv ach), .int .u64 (uv acl)] ∧ Blk u2 (w.heap.size + 1) 26 #[.int .u64 (uv bvh), .int .u64 (uv bvl), .int .u64 (uv bch), .int .u64 (uv bcl)] ∧ Blk u2 (w.heap.size + 1 + 1) 26 #[.int .u64 (uv (svh &&& sch)), .int .u64 (uv (svl &&& scl)), .int .u64 (uv (sch)), .int .u64 (uv (scl))] ∧ Blk u2 (w.heap.size + 1 + 1 + 1) 24 #[.int .u64 (uv hh), .int .u64 (uv hl)] ∧ Blk u2 (w1.heap.size) 26 #[.int .u64 (uv (sel (metB avh avl ach acl bvh bvl bch bcl) (avh ||| bvh))), .int .u64 (uv (sel (metB avh avl ach acl bvh bvl bch bcl) (avl ||| bvl))), .int .u64 (uv (sel (metB avh avl ach acl bvh bvl bch bcl) (ach ||| bch))), .int .u64 (uv (sel (metB avh avl ach acl bvh bvl bch bcl) (acl ||| bcl)))] ∧ Blk u2 (w3.heap.size) 26 #[.int .u64 (uv (sel (metB avh avl ach acl bvh bvl bch bcl) (avh ||| bvh))), .int .u64 (uv (sel (metB avh avl ach acl bvh bvl bch bcl) (avl ||| bvl))), .int .u64 (uv (sel (metB avh avl ach acl bvh bvl bch bcl) (ach ||| bch))), .int .u64 (uv (sel (metB avh avl ach acl bvh bvl bch bcl) (acl ||| bcl)))] ∧ Blk u2 (w5.heap.size) 24 #[.int .u64 (uv ((hh &&& ~~~sch) ||| (svh &&& sch))), .int .u64 (uv ((hl &&& ~~~scl) ||| (svl &&& scl)))]) := fun _ _ hb h => ⟨hold24 hb h.1, (h.2.1).on hb, (h.2.2.1).on hb, (h.2.2.2.1).on hb, (h.2.2.2.2.1).on hb, (h.2.2.2.2.2.1).on hb, (h.2.2.2.2.2.2.1).on hb, (h.2.2.2.2.2.2.2).on hb⟩
  refine wp_region_held_drew (S := fun w' => (Below w.heap.size w w' ∧ w'.cell? ⟨w.heap.size, 0, none⟩ = some (.int .u64 (uv avh)) ∧ w'.cell? ⟨w.heap.size, 1, none⟩ = some (.int .u64 (uv avl)) ∧ w'.cell? ⟨w.heap.size, 2, none⟩ = some (.int .u64 (uv ach)) ∧ w'.cell? ⟨w.heap.size, 3, none⟩ = some (.int .u64 (uv acl)) ∧ w'.cell? ⟨w.heap.size + 1, 0, none⟩ = some (.int .u64 (uv bvh)) ∧ w'.cell? ⟨w.heap.size + 1, 1, none⟩ = some (.int .u64 (uv bvl)) ∧ w'.cell? ⟨w.heap.size + 1, 2, none⟩ = some (.int .u64 (uv bch)) ∧ w'.cell? ⟨w.heap.size + 1, 3, none⟩ = some (.int .u64 (uv bcl)) ∧ w'.cell? ⟨w.heap.size + 1 + 1, 0, none⟩ = some (.int .u64 (uv (svh &&& sch))) ∧ w'.cell? ⟨w.heap.size + 1 + 1, 1, none⟩ = some (.int .u64 (uv (svl &&& scl))) ∧ w'.cell? ⟨w.heap.size + 1 + 1, 2, none⟩ = some (.int .u64 (uv (sch))) ∧ w'.cell? ⟨w.heap.size + 1 + 1, 3, none⟩ = some (.int .u64 (uv (scl))) ∧ w'.cell? ⟨w.heap.size + 1 + 1 + 1, 0, none⟩ = some (.int .u64 (uv hh)) ∧ w'.cell? ⟨w.heap.size + 1 + 1 + 1, 1, none⟩ = some (.int .u64 (uv hl)) ∧ w'.cell? ⟨w1.heap.size, 0, none⟩ = some (.int .u64 (uv (sel (metB avh avl ach acl bvh bvl bch bcl) (avh ||| bvh)))) ∧ w'.cell? ⟨w1.heap.size, 1, none⟩ = some (.int .u64 (uv (sel (metB avh avl ach acl bvh bvl bch bcl) (avl ||| bvl)))) ∧ w'.cell? ⟨w1.heap.size, 2, none⟩ = some (.int .u64 (uv (sel (metB avh avl ach acl bvh bvl bch bcl) (ach ||| bch)))) ∧ w'.cell? ⟨w1.heap.size, 3, none⟩ = some (.int .u64 (uv (sel (metB avh avl ach acl bvh bvl bch bcl) (acl ||| bcl)))) ∧ w'.cell? ⟨w3.heap.size, 0, none⟩ = some (.int .u64 (uv (sel (metB avh avl ach acl bvh bvl bch bcl) (avh ||| bvh)))) ∧ w'.cell? ⟨w3.heap.size, 1, none⟩ = some (.int .u64 (uv (sel (metB avh avl ach acl bvh bvl bch bcl) (avl ||| bvl)))) ∧ w'.cell? ⟨w3.heap.size, 2, none⟩ = some (.int .u64 (uv (sel (metB avh avl ach acl bvh bvl bch bcl) (ach ||| bch)))) ∧ w'.cell? ⟨w3.heap.size, 3, none⟩ = some (.int .u64 (uv (sel (metB avh avl ach acl bvh bvl bch bcl) (acl ||| bcl)))) ∧ w'.cell? ⟨w5.heap.size, 0, none⟩ = some (.int .u64 (uv ((hh &&& ~~~sch) ||| (svh &&& sch)))) ∧ w'.cell? ⟨w5.heap.size, 1, none⟩ = some (.int .u64 (uv ((hl &&& ~~~scl) ||| (svl &&& scl))))) ∧ Blk w' (w.heap.size) 26 #[.int .u64 (uv avh), .int .u64 (uv avl), .int .u64 (uv ach), .int .u64 (uv acl)] ∧ Blk w' (w.heap.size + 1) 26 #[.int .u64 (uv bvh), .int .u64 (uv bvl), .int .u64 (uv bch), .int .u64 (uv bcl)] ∧ Blk w' (w.heap.size + 1 + 1) 26 #[.int .u64 (uv (svh &&& sch)), .int .u64 (uv (svl &&& scl)), .int .u64 (uv (sch)), .int .u64 (uv (scl))] ∧ Blk w' (w.heap.size + 1 + 1 + 1) 24 #[.int .u64 (uv hh), .int .u64 (uv hl)] ∧ Blk w' (w1.heap.size) 26 #[.int .u64 (uv (sel (metB avh avl ach acl bvh bvl bch bcl) (avh ||| bvh))), .int .u64 (uv (sel (metB avh avl ach acl bvh bvl bch bcl) (avl ||| bvl))), .int .u64 (uv (sel (metB avh avl ach acl bvh bvl bch bcl) (ach ||| bch))), .int .u64 (uv (sel (metB avh avl ach acl bvh bvl bch bcl) (acl ||| bcl)))] ∧ Blk w' (w3.heap.size) 26 #[.int .u64 (uv (sel (metB avh avl ach acl bvh bvl bch bcl) (avh ||| bvh))), .int .u64 (uv (sel (metB avh avl ach acl bvh bvl bch bcl) (avl ||| bvl))), .int .u64 (uv (sel (metB avh avl ach acl bvh bvl bch bcl) (ach ||| bch))), .int .u64 (uv (sel (metB avh avl ach acl bvh bvl bch bcl) (acl ||| bcl)))] ∧ Blk w' (w5.heap.size) 24 #[.int .u64 (uv ((hh &&& ~~~sch) ||| (svh &&& sch))), .int .u64 (uv ((hl &&& ~~~scl) ||| (svl &&& scl)))]) (by kernel_rfl) (KEEP2 _ _ (Below.refl _ _).drew ⟨⟨L, A.cell 0, A.cell 1, A.cell 2, A.cell 3, B.cell 0, B.cell 1, B.cell 2, B.cell 3, C.cell 0, C.cell 1, C.cell 2, C.cell 3, H.cell 0, H.cell 1, X.cell 0, X.cell 1, X.cell 2, X.cell 3, Y.cell 0, Y.cell 1, Y.cell 2, Y.cell 3, O.cell 0, O.cell 1⟩, A, B, C, H, X, Y, O⟩) (fun hHeld => ?_)
  refine wpAnyH_take (i := 0) (oi := ⟨some 53, _, _, _, _, _⟩) (v := ?vh0) rfl (by kernel_rfl) (by kernel_rfl) (by kernel_rfl) (fun _ _ _ h => h) (Or.inl ⟨by rfl, ?yh0⟩) hHeld ?rh0
  case yh0 => (intro w' hSw; (try dsimp only at hSw); go_simp; try (with_reducible rfl))
  simp only [Act.put, List.setIfInBounds_toArray, List.set_cons_zero, List.set_cons_succ]
  refine wpAnyH_take (i := 1) (oi := ⟨some 54, _, _, _, _, _⟩) (v := ?vh1) rfl (by kernel_rfl) (by kernel_rfl) (by kernel_rfl) (fun _ _ _ h => h) (Or.inl ⟨by rfl, ?yh1⟩) hHeld ?rh1
  case yh1 => (intro w' hSw; (try dsimp only at hSw); go_simp; try (with_reducible rfl))
  simp only [Act.put, List.setIfInBounds_toArray, List.set_cons_zero, List.set_cons_succ]
  refine wpAnyH_ready (rs := [2]) (by kernel_rfl) (by simp) ?_
  refine AllReadyH.cons (o := ⟨some 55, _, _, _, _, _⟩) rfl (fun K hK => ?_) AllReadyH.nil
  go_simp
  (with_reducible refine (within_is _ avh avl ach acl bvh bvl bch bcl _ hw).mono ?_)
  rintro e wq2 ⟨rfl, hb⟩
  (try dsimp only)
  refine hK.out _ _ (KEEP2 _ _ hb hHeld) (fun hNext => ?_)
  clear hK K hHeld hb
  have hHeld := hNext
  clear hNext
  try simp only [Act.put, List.setIfInBounds_toArray, List.set_cons_zero, List.set_cons_succ]
  refine wpAnyH_take (i := 3) (oi := ⟨some 56, _, _, _, _, _⟩) (v := ?vh3) rfl (by kernel_rfl) (by kernel_rfl) (by kernel_rfl) (fun _ _ _ h => h) (Or.inl ⟨by rfl, ?yh3⟩) hHeld ?rh3
  case yh3 => (intro w' hSw; (try dsimp only at hSw); go_simp; try (with_reducible rfl))
  simp only [Act.put, List.setIfInBounds_toArray, List.set_cons_zero, List.set_cons_succ]
  refine wpAnyH_take (i := 4) (oi := ⟨some 57, _, _, _, _, _⟩) (v := ?vh4) rfl (by kernel_rfl) (by kernel_rfl) (by kernel_rfl) (fun _ _ _ h => h) (Or.inl ⟨by rfl, ?yh4⟩) hHeld ?rh4
  case yh4 => (intro w' hSw; (try dsimp only at hSw); go_simp; try (with_reducible rfl))
  simp only [Act.put, List.setIfInBounds_toArray, List.set_cons_zero, List.set_cons_succ]
  refine wpAnyH_take (i := 5) (oi := ⟨some 58, _, _, _, _, _⟩) (v := undef) rfl (by kernel_rfl) (by kernel_rfl) (by kernel_rfl) (fun _ _ _ h => h) (Or.inr ⟨by rfl, rfl⟩) hHeld ?_
  simp only [Act.put, List.setIfInBounds_toArray, List.set_cons_zero, List.set_cons_succ]
  refine wpAnyH_take (i := 6) (oi := ⟨some 59, _, _, _, _, _⟩) (v := undef) rfl (by kernel_rfl) (by kernel_rfl) (by kernel_rfl) (fun _ _ _ h => h) (Or.inr ⟨by rfl, rfl⟩) hHeld ?_
  simp only [Act.put, List.setIfInBounds_toArray, List.set_cons_zero, List.set_cons_succ]
  refine wpAnyH_take (i := 8) (oi := ⟨some 61, _, _, _, _, _⟩) (v := undef) rfl (by kernel_rfl) (by kernel_rfl) (by kernel_rfl) (fun _ _ _ h => h) (Or.inr ⟨by rfl, rfl⟩) hHeld ?_
  simp only [Act.put, List.setIfInBounds_toArray, List.set_cons_zero, List.set_cons_succ]
  refine wpAnyH_take (i := 9) (oi := ⟨some 62, _, _, _, _, _⟩) (v := undef) rfl (by kernel_rfl) (by kernel_rfl) (by kernel_rfl) (fun _ _ _ h => h) (Or.inr ⟨by rfl, rfl⟩) hHeld ?_
  simp only [Act.put, List.setIfInBounds_toArray, List.set_cons_zero, List.set_cons_succ]
  refine wpAnyH_ready (rs := [7]) (by kernel_rfl) (by simp) ?_
  refine AllReadyH.cons (o := ⟨some 60, _, _, _, _, _⟩) rfl (fun K hK => ?_) AllReadyH.nil
  go_simp
  refine hK.out _ _ hHeld (fun hNext => ?_)
  clear hK K hHeld
  have hHeld := hNext
  clear hNext
  try simp only [Act.put, List.setIfInBounds_toArray, List.set_cons_zero, List.set_cons_succ]
  refine wpAnyH_ready (rs := [10]) (by kernel_rfl) (by simp) ?_
  refine AllReadyH.cons (o := ⟨some 63, _, _, _, _, _⟩) rfl (fun K hK => ?_) AllReadyH.nil
  go_simp
  refine hK.out _ _ hHeld (fun hNext => ?_)
  clear hK K hHeld
  have hHeld := hNext
  clear hNext
  try simp only [Act.put, List.setIfInBounds_toArray, List.set_cons_zero, List.set_cons_succ]
  refine wpAnyH_ready (rs := [11]) (by kernel_rfl) (by simp) ?_
  refine AllReadyH.cons (o := ⟨some 64, _, _, _, _, _⟩) rfl (fun K hK => ?_) AllReadyH.nil
  go_simp
  refine hK.out _ _ hHeld (fun hNext => ?_)
  clear hK K hHeld
  have hHeld := hNext
  clear hNext
  try simp only [Act.put, List.setIfInBounds_toArray, List.set_cons_zero, List.set_cons_succ]
  refine wpAnyH_take (i := 12) (oi := ⟨some 65, _, _, _, _, _⟩) (v := undef) rfl (by kernel_rfl) (by kernel_rfl) (by kernel_rfl) (fun _ _ _ h => h) (Or.inr ⟨by rfl, rfl⟩) hHeld ?_
  simp only [Act.put, List.setIfInBounds_toArray, List.set_cons_zero, List.set_cons_succ]
  refine wpAnyH_take (i := 13) (oi := ⟨some 66, _, _, _, _, _⟩) (v := undef) rfl (by kernel_rfl) (by kernel_rfl) (by kernel_rfl) (fun _ _ _ h => h) (Or.inr ⟨by rfl, rfl⟩) hHeld ?_
  simp only [Act.put, List.setIfInBounds_toArray, List.set_cons_zero, List.set_cons_succ]
  refine wpAnyH_take (i := 14) (oi := ⟨some 67, _, _, _, _, _⟩) (v := undef) rfl (by kernel_rfl) (by kernel_rfl) (by kernel_rfl) (fun _ _ _ h => h) (Or.inr ⟨by rfl, rfl⟩) hHeld ?_
  simp only [Act.put, List.setIfInBounds_toArray, List.set_cons_zero, List.set_cons_succ]
  refine wpAnyH_ready (rs := [15]) (by kernel_rfl) (by simp) ?_
  refine AllReadyH.cons (o := ⟨some 68, _, _, _, _, _⟩) rfl (fun K hK => ?_) AllReadyH.nil
  go_simp
  refine hK.out _ _ hHeld (fun hNext => ?_)
  clear hK K hHeld
  have hHeld := hNext
  clear hNext
  try simp only [Act.put, List.setIfInBounds_toArray, List.set_cons_zero, List.set_cons_succ]
  refine wpAnyH_ready (rs := [16]) (by kernel_rfl) (by simp) ?_
  refine AllReadyH.cons (o := ⟨some 69, _, _, _, _, _⟩) rfl (fun K hK => ?_) AllReadyH.nil
  go_simp
  refine hK.out _ _ hHeld (fun hNext => ?_)
  clear hK K hHeld
  have hHeld := hNext
  clear hNext
  try simp only [Act.put, List.setIfInBounds_toArray, List.set_cons_zero, List.set_cons_succ]
  refine wpAnyH_take (i := 17) (oi := ⟨some 70, _, _, _, _, _⟩) (v := undef) rfl (by kernel_rfl) (by kernel_rfl) (by kernel_rfl) (fun _ _ _ h => h) (Or.inr ⟨by rfl, rfl⟩) hHeld ?_
  simp only [Act.put, List.setIfInBounds_toArray, List.set_cons_zero, List.set_cons_succ]
  refine wpAnyH_take (i := 18) (oi := ⟨some 71, _, _, _, _, _⟩) (v := ?vh18) rfl (by kernel_rfl) (by kernel_rfl) (by kernel_rfl) (fun _ _ _ h => h) (Or.inl ⟨by rfl, ?yh18⟩) hHeld ?rh18
  case yh18 => (intro w' hSw; (try dsimp only at hSw); go_simp; try (with_reducible rfl))
  simp only [Act.put, List.setIfInBounds_toArray, List.set_cons_zero, List.set_cons_succ]
  refine wpAnyH_take (i := 19) (oi := ⟨some 8, _, _, _, _, _⟩) (v := ?vh19) rfl (by kernel_rfl) (by kernel_rfl) (by kernel_rfl) (fun _ _ _ h => h) (Or.inl ⟨by rfl, ?yh19⟩) hHeld ?rh19
  case yh19 => (intro w' hSw; (try dsimp only at hSw); go_simp; try (with_reducible rfl))
  simp only [Act.put, List.setIfInBounds_toArray, List.set_cons_zero, List.set_cons_succ]
  refine wpAnyH_done (by kernel_rfl) ?_ _
  clear KEEP2
  clear A B C H X Y O L
  obtain ⟨⟨L, _, _, _, _, _, _, _, _, _, _, _, _, _, _, _, _, _, _, _, _, _, _, _, _⟩, A, B, C, H, X, Y, O⟩ := hHeld
  have eA := A.four
  have eB := B.four
  have eC := C.four
  have eH := H.pair
  have eX := X.four
  have eY := Y.four
  have eO := O.pair
  go_wp2
  go_ret
  exact ⟨rfl, L⟩

set_option maxHeartbeats 4000000 in
theorem twice_yes (avh avl ach acl bvh bvl bch bcl svh svl sch scl hh hl : BitVec 64) (w : World) (hw : witB avh avl ach acl bvh bvl bch bcl = true) (HA : sndB avh avl ach acl = true) (HB : sndB bvh bvl bch bcl = true) :
    Calls Try.prog 9 #[.agg #[.int .u64 (uv avh), .int .u64 (uv avl), .int .u64 (uv ach), .int .u64 (uv acl)], .agg #[.int .u64 (uv bvh), .int .u64 (uv bvl), .int .u64 (uv bch), .int .u64 (uv bcl)], .agg #[.int .u64 (uv svh), .int .u64 (uv svl), .int .u64 (uv sch), .int .u64 (uv scl)], .agg #[.int .u64 (uv hh), .int .u64 (uv hl)]] w fun e w' => e = .returned (.bool true) ∧ Below w.heap.size w w' := by
  have bx0 := below1 w (.cells #[.int .u64 (uv avh), .int .u64 (uv avl), .int .u64 (uv ach), .int .u64 (uv acl)] 26)
  have Ab0 : Blk (w.alloc (.cells #[.int .u64 (uv avh), .int .u64 (uv avl), .int .u64 (uv ach), .int .u64 (uv acl)] 26)) (w.heap.size) 26 #[.int .u64 (uv avh), .int .u64 (uv avl), .int .u64 (uv ach), .int .u64 (uv acl)] := Blk.new w _ _
  have L0 : Below w.heap.size w (w.alloc (.cells #[.int .u64 (uv avh), .int .u64 (uv avl), .int .u64 (uv ach), .int .u64 (uv acl)] 26)) := bx0
  have bx1 := below1 (w.alloc (.cells #[.int .u64 (uv avh), .int .u64 (uv avl), .int .u64 (uv ach), .int .u64 (uv acl)] 26)) (.cells #[.int .u64 (uv bvh), .int .u64 (uv bvl), .int .u64 (uv bch), .int .u64 (uv bcl)] 26)
  have Ab1 := Ab0.on bx1
  have Bb1 : Blk ((w.alloc (.cells #[.int .u64 (uv avh), .int .u64 (uv avl), .int .u64 (uv ach), .int .u64 (uv acl)] 26)).alloc (.cells #[.int .u64 (uv bvh), .int .u64 (uv bvl), .int .u64 (uv bch), .int .u64 (uv bcl)] 26)) (w.heap.size + 1) 26 #[.int .u64 (uv bvh), .int .u64 (uv bvl), .int .u64 (uv bch), .int .u64 (uv bcl)] := by have h := Blk.new (w.alloc (.cells #[.int .u64 (uv avh), .int .u64 (uv avl), .int .u64 (uv ach), .int .u64 (uv acl)] 26)) 26 #[.int .u64 (uv bvh), .int .u64 (uv bvl), .int .u64 (uv bch), .int .u64 (uv bcl)]; simpa only [World.size_alloc] using h
  have L1 : Below w.heap.size w ((w.alloc (.cells #[.int .u64 (uv avh), .int .u64 (uv avl), .int .u64 (uv ach), .int .u64 (uv acl)] 26)).alloc (.cells #[.int .u64 (uv bvh), .int .u64 (uv bvl), .int .u64 (uv bch), .int .u64 (uv bcl)] 26)) := L0.trans (bx1.mono L0.size)
  have bx2 := below1 ((w.alloc (.cells #[.int .u64 (uv avh), .int .u64 (uv avl), .int .u64 (uv ach), .int .u64 (uv acl)] 26)).alloc (.cells #[.int .u64 (uv bvh), .int .u64 (uv bvl), .int .u64 (uv bch), .int .u64 (uv bcl)] 26)) (.cells #[.int .u64 (uv svh), .int .u64 (uv svl), .int .u64 (uv sch), .int .u64 (uv scl)] 26)
  have Ab2 := Ab1.on bx2
  have Bb2 := Bb1.on bx2
  have Cb2 : Blk (((w.alloc (.cells #[.int .u64 (uv avh), .int .u64 (uv avl), .int .u64 (uv ach), .int .u64 (uv acl)] 26)).alloc (.cells #[.int .u64 (uv bvh), .int .u64 (uv bvl), .int .u64 (uv bch), .int .u64 (uv bcl)] 26)).alloc (.cells #[.int .u64 (uv svh), .int .u64 (uv svl), .int .u64 (uv sch), .int .u64 (uv scl)] 26)) (w.heap.size + 1 + 1) 26 #[.int .u64 (uv svh), .int .u64 (uv svl), .int .u64 (uv sch), .int .u64 (uv scl)] := by have h := Blk.new ((w.alloc (.cells #[.int .u64 (uv avh), .int .u64 (uv avl), .int .u64 (uv ach), .int .u64 (uv acl)] 26)).alloc (.cells #[.int .u64 (uv bvh), .int .u64 (uv bvl), .int .u64 (uv bch), .int .u64 (uv bcl)] 26)) 26 #[.int .u64 (uv svh), .int .u64 (uv svl), .int .u64 (uv sch), .int .u64 (uv scl)]; simpa only [World.size_alloc] using h
  have L2 : Below w.heap.size w (((w.alloc (.cells #[.int .u64 (uv avh), .int .u64 (uv avl), .int .u64 (uv ach), .int .u64 (uv acl)] 26)).alloc (.cells #[.int .u64 (uv bvh), .int .u64 (uv bvl), .int .u64 (uv bch), .int .u64 (uv bcl)] 26)).alloc (.cells #[.int .u64 (uv svh), .int .u64 (uv svl), .int .u64 (uv sch), .int .u64 (uv scl)] 26)) := L1.trans (bx2.mono L1.size)
  have bx3 := below1 (((w.alloc (.cells #[.int .u64 (uv avh), .int .u64 (uv avl), .int .u64 (uv ach), .int .u64 (uv acl)] 26)).alloc (.cells #[.int .u64 (uv bvh), .int .u64 (uv bvl), .int .u64 (uv bch), .int .u64 (uv bcl)] 26)).alloc (.cells #[.int .u64 (uv svh), .int .u64 (uv svl), .int .u64 (uv sch), .int .u64 (uv scl)] 26)) (.cells #[.int .u64 (uv hh), .int .u64 (uv hl)] 24)
  have Ab3 := Ab2.on bx3
  have Bb3 := Bb2.on bx3
  have Cb3 := Cb2.on bx3
  have Hb3 : Blk ((((w.alloc (.cells #[.int .u64 (uv avh), .int .u64 (uv avl), .int .u64 (uv ach), .int .u64 (uv acl)] 26)).alloc (.cells #[.int .u64 (uv bvh), .int .u64 (uv bvl), .int .u64 (uv bch), .int .u64 (uv bcl)] 26)).alloc (.cells #[.int .u64 (uv svh), .int .u64 (uv svl), .int .u64 (uv sch), .int .u64 (uv scl)] 26)).alloc (.cells #[.int .u64 (uv hh), .int .u64 (uv hl)] 24)) (w.heap.size + 1 + 1 + 1) 24 #[.int .u64 (uv hh), .int .u64 (uv hl)] := by have h := Blk.new (((w.alloc (.cells #[.int .u64 (uv avh), .int .u64 (uv avl), .int .u64 (uv ach), .int .u64 (uv acl)] 26)).alloc (.cells #[.int .u64 (uv bvh), .int .u64 (uv bvl), .int .u64 (uv bch), .int .u64 (uv bcl)] 26)).alloc (.cells #[.int .u64 (uv svh), .int .u64 (uv svl), .int .u64 (uv sch), .int .u64 (uv scl)] 26)) 24 #[.int .u64 (uv hh), .int .u64 (uv hl)]; simpa only [World.size_alloc] using h
  have L3 : Below w.heap.size w ((((w.alloc (.cells #[.int .u64 (uv avh), .int .u64 (uv avl), .int .u64 (uv ach), .int .u64 (uv acl)] 26)).alloc (.cells #[.int .u64 (uv bvh), .int .u64 (uv bvl), .int .u64 (uv bch), .int .u64 (uv bcl)] 26)).alloc (.cells #[.int .u64 (uv svh), .int .u64 (uv svl), .int .u64 (uv sch), .int .u64 (uv scl)] 26)).alloc (.cells #[.int .u64 (uv hh), .int .u64 (uv hl)] 24)) := L2.trans (bx3.mono L2.size)
  have A := Ab3
  have B := Bb3
  have C := Cb3
  have H := Hb3
  have L := L3
  clear bx0 bx1 bx2 bx3 L0 L1 L2 L3 Ab0 Ab1 Ab2 Ab3 Bb1 Bb2 Bb3 Cb2 Cb3 Hb3
  have eA := A.four
  have eB := B.four
  have eC := C.four
  have eH := H.pair
  go_enter Try.func9, Try.ntmps9
  go_wp2_with fail
  (with_reducible refine (meet_c avh avl ach acl bvh bvl bch bcl _).mono ?_)
  rintro e w1 ⟨rfl, hb⟩
  clear eA eB eC eH
  replace A := A.on hb
  replace B := B.on hb
  replace C := C.on hb
  replace H := H.on hb
  replace L := L.trans (hb.mono L.size)
  clear hb
  have eA := A.four
  have eB := B.four
  have eC := C.four
  have eH := H.pair
  go_upto_region 2 with (fail)
  have ltAX : w.heap.size < w1.heap.size := A.lt
  have ltBX : w.heap.size + 1 < w1.heap.size := B.lt
  have ltCX : w.heap.size + 1 + 1 < w1.heap.size := C.lt
  have ltHX : w.heap.size + 1 + 1 + 1 < w1.heap.size := H.lt
  have hb := below1 w1 (.cells #[.int .u64 (uv (sel (metB avh avl ach acl bvh bvl bch bcl) (avh ||| bvh))), .int .u64 (uv (sel (metB avh avl ach acl bvh bvl bch bcl) (avl ||| bvl))), .int .u64 (uv (sel (metB avh avl ach acl bvh bvl bch bcl) (ach ||| bch))), .int .u64 (uv (sel (metB avh avl ach acl bvh bvl bch bcl) (acl ||| bcl)))] 26)
  clear eA eB eC eH
  replace A := A.on hb
  replace B := B.on hb
  replace C := C.on hb
  replace H := H.on hb
  replace L := L.trans (hb.mono L.size)
  have X : Blk (w1.alloc (.cells #[.int .u64 (uv (sel (metB avh avl ach acl bvh bvl bch bcl) (avh ||| bvh))), .int .u64 (uv (sel (metB avh avl ach acl bvh bvl bch bcl) (avl ||| bvl))), .int .u64 (uv (sel (metB avh avl ach acl bvh bvl bch bcl) (ach ||| bch))), .int .u64 (uv (sel (metB avh avl ach acl bvh bvl bch bcl) (acl ||| bcl)))] 26)) w1.heap.size 26 #[.int .u64 (uv (sel (metB avh avl ach acl bvh bvl bch bcl) (avh ||| bvh))), .int .u64 (uv (sel (metB avh avl ach acl bvh bvl bch bcl) (avl ||| bvl))), .int .u64 (uv (sel (metB avh avl ach acl bvh bvl bch bcl) (ach ||| bch))), .int .u64 (uv (sel (metB avh avl ach acl bvh bvl bch bcl) (acl ||| bcl)))] := Blk.new w1 _ _
  clear hb
  generalize (w1.alloc (.cells #[.int .u64 (uv (sel (metB avh avl ach acl bvh bvl bch bcl) (avh ||| bvh))), .int .u64 (uv (sel (metB avh avl ach acl bvh bvl bch bcl) (avl ||| bvl))), .int .u64 (uv (sel (metB avh avl ach acl bvh bvl bch bcl) (ach ||| bch))), .int .u64 (uv (sel (metB avh avl ach acl bvh bvl bch bcl) (acl ||| bcl)))] 26)) = w2 at L A B C H X ⊢
  have eA := A.four
  have eB := B.four
  have eC := C.four
  have eH := H.pair
  have eX := X.four
  go_wp2_with fail
  (with_reducible refine (meet_r avh avl ach acl bvh bvl bch bcl _).mono ?_)
  rintro e w3 ⟨rfl, hb⟩
  clear eA eB eC eH eX
  replace A := A.on hb
  replace B := B.on hb
  replace C := C.on hb
  replace H := H.on hb
  replace X := X.on hb
  replace L := L.trans (hb.mono L.size)
  clear hb
  have eA := A.four
  have eB := B.four
  have eC := C.four
  have eH := H.pair
  have eX := X.four
  go_upto_region 3 with (fail)
  have ltAY : w.heap.size < w3.heap.size := A.lt
  have ltBY : w.heap.size + 1 < w3.heap.size := B.lt
  have ltCY : w.heap.size + 1 + 1 < w3.heap.size := C.lt
  have ltHY : w.heap.size + 1 + 1 + 1 < w3.heap.size := H.lt
  have ltXY : w1.heap.size < w3.heap.size := X.lt
  have hb := below1 w3 (.cells #[.int .u64 (uv (sel (metB avh avl ach acl bvh bvl bch bcl) (avh ||| bvh))), .int .u64 (uv (sel (metB avh avl ach acl bvh bvl bch bcl) (avl ||| bvl))), .int .u64 (uv (sel (metB avh avl ach acl bvh bvl bch bcl) (ach ||| bch))), .int .u64 (uv (sel (metB avh avl ach acl bvh bvl bch bcl) (acl ||| bcl)))] 26)
  clear eA eB eC eH eX
  replace A := A.on hb
  replace B := B.on hb
  replace C := C.on hb
  replace H := H.on hb
  replace X := X.on hb
  replace L := L.trans (hb.mono L.size)
  have Y : Blk (w3.alloc (.cells #[.int .u64 (uv (sel (metB avh avl ach acl bvh bvl bch bcl) (avh ||| bvh))), .int .u64 (uv (sel (metB avh avl ach acl bvh bvl bch bcl) (avl ||| bvl))), .int .u64 (uv (sel (metB avh avl ach acl bvh bvl bch bcl) (ach ||| bch))), .int .u64 (uv (sel (metB avh avl ach acl bvh bvl bch bcl) (acl ||| bcl)))] 26)) w3.heap.size 26 #[.int .u64 (uv (sel (metB avh avl ach acl bvh bvl bch bcl) (avh ||| bvh))), .int .u64 (uv (sel (metB avh avl ach acl bvh bvl bch bcl) (avl ||| bvl))), .int .u64 (uv (sel (metB avh avl ach acl bvh bvl bch bcl) (ach ||| bch))), .int .u64 (uv (sel (metB avh avl ach acl bvh bvl bch bcl) (acl ||| bcl)))] := Blk.new w3 _ _
  clear hb
  generalize (w3.alloc (.cells #[.int .u64 (uv (sel (metB avh avl ach acl bvh bvl bch bcl) (avh ||| bvh))), .int .u64 (uv (sel (metB avh avl ach acl bvh bvl bch bcl) (avl ||| bvl))), .int .u64 (uv (sel (metB avh avl ach acl bvh bvl bch bcl) (ach ||| bch))), .int .u64 (uv (sel (metB avh avl ach acl bvh bvl bch bcl) (acl ||| bcl)))] 26)) = w4 at L A B C H X Y ⊢
  have eA := A.four
  have eB := B.four
  have eC := C.four
  have eH := H.pair
  have eX := X.four
  have eY := Y.four
  go_wp2_with fail
  (with_reducible refine (set_c hh hl svh svl sch scl _).mono ?_)
  rintro e w5 ⟨rfl, hb⟩
  clear eA eB eC eH eX eY
  replace A := A.on hb
  replace B := B.on hb
  replace C := C.on hb
  replace H := H.on hb
  replace X := X.on hb
  replace Y := Y.on hb
  replace L := L.trans (hb.mono L.size)
  clear hb
  have eA := A.four
  have eB := B.four
  have eC := C.four
  have eH := H.pair
  have eX := X.four
  have eY := Y.four
  go_upto_region 4 with (fail)
  have ltAO : w.heap.size < w5.heap.size := A.lt
  have ltBO : w.heap.size + 1 < w5.heap.size := B.lt
  have ltCO : w.heap.size + 1 + 1 < w5.heap.size := C.lt
  have ltHO : w.heap.size + 1 + 1 + 1 < w5.heap.size := H.lt
  have ltXO : w1.heap.size < w5.heap.size := X.lt
  have ltYO : w3.heap.size < w5.heap.size := Y.lt
  have hb := below1 w5 (.cells #[.int .u64 (uv ((hh &&& ~~~sch) ||| (svh &&& sch))), .int .u64 (uv ((hl &&& ~~~scl) ||| (svl &&& scl)))] 24)
  clear eA eB eC eH eX eY
  replace A := A.on hb
  replace B := B.on hb
  replace C := C.on hb
  replace H := H.on hb
  replace X := X.on hb
  replace Y := Y.on hb
  replace L := L.trans (hb.mono L.size)
  have O : Blk (w5.alloc (.cells #[.int .u64 (uv ((hh &&& ~~~sch) ||| (svh &&& sch))), .int .u64 (uv ((hl &&& ~~~scl) ||| (svl &&& scl)))] 24)) w5.heap.size 24 #[.int .u64 (uv ((hh &&& ~~~sch) ||| (svh &&& sch))), .int .u64 (uv ((hl &&& ~~~scl) ||| (svl &&& scl)))] := Blk.new w5 _ _
  clear hb
  generalize (w5.alloc (.cells #[.int .u64 (uv ((hh &&& ~~~sch) ||| (svh &&& sch))), .int .u64 (uv ((hl &&& ~~~scl) ||| (svl &&& scl)))] 24)) = w6 at L A B C H X Y O ⊢
  have eA := A.four
  have eB := B.four
  have eC := C.four
  have eH := H.pair
  have eX := X.four
  have eY := Y.four
  have eO := O.pair
  go_wp2_with fail
  clear eA eB eC eH eX eY eO
  have KEEP1 : ∀ u1 u2 : World, Below u1.heap.size u1 u2 → ((Below w.heap.size w u1 ∧ u1.cell? ⟨w.heap.size, 0, none⟩ = some (.int .u64 (uv avh)) ∧ u1.cell? ⟨w.heap.size, 1, none⟩ = some (.int .u64 (uv avl)) ∧ u1.cell? ⟨w.heap.size, 2, none⟩ = some (.int .u64 (uv ach)) ∧ u1.cell? ⟨w.heap.size, 3, none⟩ = some (.int .u64 (uv acl)) ∧ u1.cell? ⟨w.heap.size + 1, 0, none⟩ = some (.int .u64 (uv bvh)) ∧ u1.cell? ⟨w.heap.size + 1, 1, none⟩ = some (.int .u64 (uv bvl)) ∧ u1.cell? ⟨w.heap.size + 1, 2, none⟩ = some (.int .u64 (uv bch)) ∧ u1.cell? ⟨w.heap.size + 1, 3, none⟩ = some (.int .u64 (uv bcl)) ∧ u1.cell? ⟨w.heap.size + 1 + 1, 0, none⟩ = some (.int .u64 (uv svh)) ∧ u1.cell? ⟨w.heap.size + 1 + 1, 1, none⟩ = some (.int .u64 (uv svl)) ∧ u1.cell? ⟨w.heap.size + 1 + 1, 2, none⟩ = some (.int .u64 (uv sch)) ∧ u1.cell? ⟨w.heap.size + 1 + 1, 3, none⟩ = some (.int .u64 (uv scl)) ∧ u1.cell? ⟨w.heap.size + 1 + 1 + 1, 0, none⟩ = some (.int .u64 (uv hh)) ∧ u1.cell? ⟨w.heap.size + 1 + 1 + 1, 1, none⟩ = some (.int .u64 (uv hl)) ∧ u1.cell? ⟨w1.heap.size, 0, none⟩ = some (.int .u64 (uv (sel (metB avh avl ach acl bvh bvl bch bcl) (avh ||| bvh)))) ∧ u1.cell? ⟨w1.heap.size, 1, none⟩ = some (.int .u64 (uv (sel (metB avh avl ach acl bvh bvl bch bcl) (avl ||| bvl)))) ∧ u1.cell? ⟨w1.heap.size, 2, none⟩ = some (.int .u64 (uv (sel (metB avh avl ach acl bvh bvl bch bcl) (ach ||| bch)))) ∧ u1.cell? ⟨w1.heap.size, 3, none⟩ = some (.int .u64 (uv (sel (metB avh avl ach acl bvh bvl bch bcl) (acl ||| bcl)))) ∧ u1.cell? ⟨w3.heap.size, 0, none⟩ = some (.int .u64 (uv (sel (metB avh avl ach acl bvh bvl bch bcl) (avh ||| bvh)))) ∧ u1.cell? ⟨w3.heap.size, 1, none⟩ = some (.int .u64 (uv (sel (metB avh avl ach acl bvh bvl bch bcl) (avl ||| bvl)))) ∧ u1.cell? ⟨w3.heap.size, 2, none⟩ = some (.int .u64 (uv (sel (metB avh avl ach acl bvh bvl bch bcl) (ach ||| bch)))) ∧ u1.cell? ⟨w3.heap.size, 3, none⟩ = some (.int .u64 (uv (sel (metB avh avl ach acl bvh bvl bch bcl) (acl ||| bcl)))) ∧ u1.cell? ⟨w5.heap.size, 0, none⟩ = some (.int .u64 (uv ((hh &&& ~~~sch) ||| (svh &&& sch)))) ∧ u1.cell? ⟨w5.heap.size, 1, none⟩ = some (.int .u64 (uv ((hl &&& ~~~scl) ||| (svl &&& scl))))) ∧ Blk u1 (w.heap.size) 26 #[.int .u64 (uv avh), .int .u64 (uv avl), .int .u64 (uv ach), .int .u64 (uv acl)] ∧ Blk u1 (w.heap.size + 1) 26 #[.int .u64 (uv bvh), .int .u64 (uv bvl), .int .u64 (uv bch), .int .u64 (uv bcl)] ∧ Blk u1 (w.heap.size + 1 + 1) 26 #[.int .u64 (uv svh), .int .u64 (uv svl), .int .u64 (uv sch), .int .u64 (uv scl)] ∧ Blk u1 (w.heap.size + 1 + 1 + 1) 24 #[.int .u64 (uv hh), .int .u64 (uv hl)] ∧ Blk u1 (w1.heap.size) 26 #[.int .u64 (uv (sel (metB avh avl ach acl bvh bvl bch bcl) (avh ||| bvh))), .int .u64 (uv (sel (metB avh avl ach acl bvh bvl bch bcl) (avl ||| bvl))), .int .u64 (uv (sel (metB avh avl ach acl bvh bvl bch bcl) (ach ||| bch))), .int .u64 (uv (sel (metB avh avl ach acl bvh bvl bch bcl) (acl ||| bcl)))] ∧ Blk u1 (w3.heap.size) 26 #[.int .u64 (uv (sel (metB avh avl ach acl bvh bvl bch bcl) (avh ||| bvh))), .int .u64 (uv (sel (metB avh avl ach acl bvh bvl bch bcl) (avl ||| bvl))), .int .u64 (uv (sel (metB avh avl ach acl bvh bvl bch bcl) (ach ||| bch))), .int .u64 (uv (sel (metB avh avl ach acl bvh bvl bch bcl) (acl ||| bcl)))] ∧ Blk u1 (w5.heap.size) 24 #[.int .u64 (uv ((hh &&& ~~~sch) ||| (svh &&& sch))), .int .u64 (uv ((hl &&& ~~~scl) ||| (svl &&& scl)))]) → ((Below w.heap.size w u2 ∧ u2.cell? ⟨w.heap.size, 0, none⟩ = some (.int .u64 (uv avh)) ∧ u2.cell? ⟨w.heap.size, 1, none⟩ = some (.int .u64 (uv avl)) ∧ u2.cell? ⟨w.heap.size, 2, none⟩ = some (.int .u64 (uv ach)) ∧ u2.cell? ⟨w.heap.size, 3, none⟩ = some (.int .u64 (uv acl)) ∧ u2.cell? ⟨w.heap.size + 1, 0, none⟩ = some (.int .u64 (uv bvh)) ∧ u2.cell? ⟨w.heap.size + 1, 1, none⟩ = some (.int .u64 (uv bvl)) ∧ u2.cell? ⟨w.heap.size + 1, 2, none⟩ = some (.int .u64 (uv bch)) ∧ u2.cell? ⟨w.heap.size + 1, 3, none⟩ = some (.int .u64 (uv bcl)) ∧ u2.cell? ⟨w.heap.size + 1 + 1, 0, none⟩ = some (.int .u64 (uv svh)) ∧ u2.cell? ⟨w.heap.size + 1 + 1, 1, none⟩ = some (.int .u64 (uv svl)) ∧ u2.cell? ⟨w.heap.size + 1 + 1, 2, none⟩ = some (.int .u64 (uv sch)) ∧ u2.cell? ⟨w.heap.size + 1 + 1, 3, none⟩ = some (.int .u64 (uv scl)) ∧ u2.cell? ⟨w.heap.size + 1 + 1 + 1, 0, none⟩ = some (.int .u64 (uv hh)) ∧ u2.cell? ⟨w.heap.size + 1 + 1 + 1, 1, none⟩ = some (.int .u64 (uv hl)) ∧ u2.cell? ⟨w1.heap.size, 0, none⟩ = some (.int .u64 (uv (sel (metB avh avl ach acl bvh bvl bch bcl) (avh ||| bvh)))) ∧ u2.cell? ⟨w1.heap.size, 1, none⟩ = some (.int .u64 (uv (sel (metB avh avl ach acl bvh bvl bch bcl) (avl ||| bvl)))) ∧ u2.cell? ⟨w1.heap.size, 2, none⟩ = some (.int .u64 (uv (sel (metB avh avl ach acl bvh bvl bch bcl) (ach ||| bch)))) ∧ u2.cell? ⟨w1.heap.size, 3, none⟩ = some (.int .u64 (uv (sel (metB avh avl ach acl bvh bvl bch bcl) (acl ||| bcl)))) ∧ u2.cell? ⟨w3.heap.size, 0, none⟩ = some (.int .u64 (uv (sel (metB avh avl ach acl bvh bvl bch bcl) (avh ||| bvh)))) ∧ u2.cell? ⟨w3.heap.size, 1, none⟩ = some (.int .u64 (uv (sel (metB avh avl ach acl bvh bvl bch bcl) (avl ||| bvl)))) ∧ u2.cell? ⟨w3.heap.size, 2, none⟩ = some (.int .u64 (uv (sel (metB avh avl ach acl bvh bvl bch bcl) (ach ||| bch)))) ∧ u2.cell? ⟨w3.heap.size, 3, none⟩ = some (.int .u64 (uv (sel (metB avh avl ach acl bvh bvl bch bcl) (acl ||| bcl)))) ∧ u2.cell? ⟨w5.heap.size, 0, none⟩ = some (.int .u64 (uv ((hh &&& ~~~sch) ||| (svh &&& sch)))) ∧ u2.cell? ⟨w5.heap.size, 1, none⟩ = some (.int .u64 (uv ((hl &&& ~~~scl) ||| (svl &&& scl))))) ∧ Blk u2 (w.heap.size) 26 #[.int .u64 (uv avh), .int .u64 (uv avl), .int .u64 (uv ach), .int .u64 (uv acl)] ∧ Blk u2 (w.heap.size + 1) 26 #[.int .u64 (uv bvh), .int .u64 (uv bvl), .int .u64 (uv bch), .int .u64 (uv bcl)] ∧ Blk u2 (w.heap.size + 1 + 1) 26 #[.int .u64 (uv svh), .int .u64 (uv svl), .int .u64 (uv sch), .int .u64 (uv scl)] ∧ Blk u2 (w.heap.size + 1 + 1 + 1) 24 #[.int .u64 (uv hh), .int .u64 (uv hl)] ∧ Blk u2 (w1.heap.size) 26 #[.int .u64 (uv (sel (metB avh avl ach acl bvh bvl bch bcl) (avh ||| bvh))), .int .u64 (uv (sel (metB avh avl ach acl bvh bvl bch bcl) (avl ||| bvl))), .int .u64 (uv (sel (metB avh avl ach acl bvh bvl bch bcl) (ach ||| bch))), .int .u64 (uv (sel (metB avh avl ach acl bvh bvl bch bcl) (acl ||| bcl)))] ∧ Blk u2 (w3.heap.size) 26 #[.int .u64 (uv (sel (metB avh avl ach acl bvh bvl bch bcl) (avh ||| bvh))), .int .u64 (uv (sel (metB avh avl ach acl bvh bvl bch bcl) (avl ||| bvl))), .int .u64 (uv (sel (metB avh avl ach acl bvh bvl bch bcl) (ach ||| bch))), .int .u64 (uv (sel (metB avh avl ach acl bvh bvl bch bcl) (acl ||| bcl)))] ∧ Blk u2 (w5.heap.size) 24 #[.int .u64 (uv ((hh &&& ~~~sch) ||| (svh &&& sch))), .int .u64 (uv ((hl &&& ~~~scl) ||| (svl &&& scl)))]) := fun _ _ hb h => ⟨hold24 hb h.1, (h.2.1).on hb, (h.2.2.1).on hb, (h.2.2.2.1).on hb, (h.2.2.2.2.1).on hb, (h.2.2.2.2.2.1).on hb, (h.2.2.2.2.2.2.1).on hb, (h.2.2.2.2.2.2.2).on hb⟩
  have S0 : (Below w.heap.size w w6 ∧ w6.cell? ⟨w.heap.size, 0, none⟩ = some (.int .u64 (uv avh)) ∧ w6.cell? ⟨w.heap.size, 1, none⟩ = some (.int .u64 (uv avl)) ∧ w6.cell? ⟨w.heap.size, 2, none⟩ = some (.int .u64 (uv ach)) ∧ w6.cell? ⟨w.heap.size, 3, none⟩ = some (.int .u64 (uv acl)) ∧ w6.cell? ⟨w.heap.size + 1, 0, none⟩ = some (.int .u64 (uv bvh)) ∧ w6.cell? ⟨w.heap.size + 1, 1, none⟩ = some (.int .u64 (uv bvl)) ∧ w6.cell? ⟨w.heap.size + 1, 2, none⟩ = some (.int .u64 (uv bch)) ∧ w6.cell? ⟨w.heap.size + 1, 3, none⟩ = some (.int .u64 (uv bcl)) ∧ w6.cell? ⟨w.heap.size + 1 + 1, 0, none⟩ = some (.int .u64 (uv svh)) ∧ w6.cell? ⟨w.heap.size + 1 + 1, 1, none⟩ = some (.int .u64 (uv svl)) ∧ w6.cell? ⟨w.heap.size + 1 + 1, 2, none⟩ = some (.int .u64 (uv sch)) ∧ w6.cell? ⟨w.heap.size + 1 + 1, 3, none⟩ = some (.int .u64 (uv scl)) ∧ w6.cell? ⟨w.heap.size + 1 + 1 + 1, 0, none⟩ = some (.int .u64 (uv hh)) ∧ w6.cell? ⟨w.heap.size + 1 + 1 + 1, 1, none⟩ = some (.int .u64 (uv hl)) ∧ w6.cell? ⟨w1.heap.size, 0, none⟩ = some (.int .u64 (uv (sel (metB avh avl ach acl bvh bvl bch bcl) (avh ||| bvh)))) ∧ w6.cell? ⟨w1.heap.size, 1, none⟩ = some (.int .u64 (uv (sel (metB avh avl ach acl bvh bvl bch bcl) (avl ||| bvl)))) ∧ w6.cell? ⟨w1.heap.size, 2, none⟩ = some (.int .u64 (uv (sel (metB avh avl ach acl bvh bvl bch bcl) (ach ||| bch)))) ∧ w6.cell? ⟨w1.heap.size, 3, none⟩ = some (.int .u64 (uv (sel (metB avh avl ach acl bvh bvl bch bcl) (acl ||| bcl)))) ∧ w6.cell? ⟨w3.heap.size, 0, none⟩ = some (.int .u64 (uv (sel (metB avh avl ach acl bvh bvl bch bcl) (avh ||| bvh)))) ∧ w6.cell? ⟨w3.heap.size, 1, none⟩ = some (.int .u64 (uv (sel (metB avh avl ach acl bvh bvl bch bcl) (avl ||| bvl)))) ∧ w6.cell? ⟨w3.heap.size, 2, none⟩ = some (.int .u64 (uv (sel (metB avh avl ach acl bvh bvl bch bcl) (ach ||| bch)))) ∧ w6.cell? ⟨w3.heap.size, 3, none⟩ = some (.int .u64 (uv (sel (metB avh avl ach acl bvh bvl bch bcl) (acl ||| bcl)))) ∧ w6.cell? ⟨w5.heap.size, 0, none⟩ = some (.int .u64 (uv ((hh &&& ~~~sch) ||| (svh &&& sch)))) ∧ w6.cell? ⟨w5.heap.size, 1, none⟩ = some (.int .u64 (uv ((hl &&& ~~~scl) ||| (svl &&& scl))))) ∧ Blk w6 (w.heap.size) 26 #[.int .u64 (uv avh), .int .u64 (uv avl), .int .u64 (uv ach), .int .u64 (uv acl)] ∧ Blk w6 (w.heap.size + 1) 26 #[.int .u64 (uv bvh), .int .u64 (uv bvl), .int .u64 (uv bch), .int .u64 (uv bcl)] ∧ Blk w6 (w.heap.size + 1 + 1) 26 #[.int .u64 (uv svh), .int .u64 (uv svl), .int .u64 (uv sch), .int .u64 (uv scl)] ∧ Blk w6 (w.heap.size + 1 + 1 + 1) 24 #[.int .u64 (uv hh), .int .u64 (uv hl)] ∧ Blk w6 (w1.heap.size) 26 #[.int .u64 (uv (sel (metB avh avl ach acl bvh bvl bch bcl) (avh ||| bvh))), .int .u64 (uv (sel (metB avh avl ach acl bvh bvl bch bcl) (avl ||| bvl))), .int .u64 (uv (sel (metB avh avl ach acl bvh bvl bch bcl) (ach ||| bch))), .int .u64 (uv (sel (metB avh avl ach acl bvh bvl bch bcl) (acl ||| bcl)))] ∧ Blk w6 (w3.heap.size) 26 #[.int .u64 (uv (sel (metB avh avl ach acl bvh bvl bch bcl) (avh ||| bvh))), .int .u64 (uv (sel (metB avh avl ach acl bvh bvl bch bcl) (avl ||| bvl))), .int .u64 (uv (sel (metB avh avl ach acl bvh bvl bch bcl) (ach ||| bch))), .int .u64 (uv (sel (metB avh avl ach acl bvh bvl bch bcl) (acl ||| bcl)))] ∧ Blk w6 (w5.heap.size) 24 #[.int .u64 (uv ((hh &&& ~~~sch) ||| (svh &&& sch))), .int .u64 (uv ((hl &&& ~~~scl) ||| (svl &&& scl)))] := ⟨⟨L, A.cell 0, A.cell 1, A.cell 2, A.cell 3, B.cell 0, B.cell 1, B.cell 2, B.cell 3, C.cell 0, C.cell 1, C.cell 2, C.cell 3, H.cell 0, H.cell 1, X.cell 0, X.cell 1, X.cell 2, X.cell 3, Y.cell 0, Y.cell 1, Y.cell 2, Y.cell 3, O.cell 0, O.cell 1⟩, A, B, C, H, X, Y, O⟩
  go_region_held3 (fun w' => (Below w.heap.size w w' ∧ w'.cell? ⟨w.heap.size, 0, none⟩ = some (.int .u64 (uv avh)) ∧ w'.cell? ⟨w.heap.size, 1, none⟩ = some (.int .u64 (uv avl)) ∧ w'.cell? ⟨w.heap.size, 2, none⟩ = some (.int .u64 (uv ach)) ∧ w'.cell? ⟨w.heap.size, 3, none⟩ = some (.int .u64 (uv acl)) ∧ w'.cell? ⟨w.heap.size + 1, 0, none⟩ = some (.int .u64 (uv bvh)) ∧ w'.cell? ⟨w.heap.size + 1, 1, none⟩ = some (.int .u64 (uv bvl)) ∧ w'.cell? ⟨w.heap.size + 1, 2, none⟩ = some (.int .u64 (uv bch)) ∧ w'.cell? ⟨w.heap.size + 1, 3, none⟩ = some (.int .u64 (uv bcl)) ∧ w'.cell? ⟨w.heap.size + 1 + 1, 0, none⟩ = some (.int .u64 (uv svh)) ∧ w'.cell? ⟨w.heap.size + 1 + 1, 1, none⟩ = some (.int .u64 (uv svl)) ∧ w'.cell? ⟨w.heap.size + 1 + 1, 2, none⟩ = some (.int .u64 (uv sch)) ∧ w'.cell? ⟨w.heap.size + 1 + 1, 3, none⟩ = some (.int .u64 (uv scl)) ∧ w'.cell? ⟨w.heap.size + 1 + 1 + 1, 0, none⟩ = some (.int .u64 (uv hh)) ∧ w'.cell? ⟨w.heap.size + 1 + 1 + 1, 1, none⟩ = some (.int .u64 (uv hl)) ∧ w'.cell? ⟨w1.heap.size, 0, none⟩ = some (.int .u64 (uv (sel (metB avh avl ach acl bvh bvl bch bcl) (avh ||| bvh)))) ∧ w'.cell? ⟨w1.heap.size, 1, none⟩ = some (.int .u64 (uv (sel (metB avh avl ach acl bvh bvl bch bcl) (avl ||| bvl)))) ∧ w'.cell? ⟨w1.heap.size, 2, none⟩ = some (.int .u64 (uv (sel (metB avh avl ach acl bvh bvl bch bcl) (ach ||| bch)))) ∧ w'.cell? ⟨w1.heap.size, 3, none⟩ = some (.int .u64 (uv (sel (metB avh avl ach acl bvh bvl bch bcl) (acl ||| bcl)))) ∧ w'.cell? ⟨w3.heap.size, 0, none⟩ = some (.int .u64 (uv (sel (metB avh avl ach acl bvh bvl bch bcl) (avh ||| bvh)))) ∧ w'.cell? ⟨w3.heap.size, 1, none⟩ = some (.int .u64 (uv (sel (metB avh avl ach acl bvh bvl bch bcl) (avl ||| bvl)))) ∧ w'.cell? ⟨w3.heap.size, 2, none⟩ = some (.int .u64 (uv (sel (metB avh avl ach acl bvh bvl bch bcl) (ach ||| bch)))) ∧ w'.cell? ⟨w3.heap.size, 3, none⟩ = some (.int .u64 (uv (sel (metB avh avl ach acl bvh bvl bch bcl) (acl ||| bcl)))) ∧ w'.cell? ⟨w5.heap.size, 0, none⟩ = some (.int .u64 (uv ((hh &&& ~~~sch) ||| (svh &&& sch)))) ∧ w'.cell? ⟨w5.heap.size, 1, none⟩ = some (.int .u64 (uv ((hl &&& ~~~scl) ||| (svl &&& scl))))) ∧ Blk w' (w.heap.size) 26 #[.int .u64 (uv avh), .int .u64 (uv avl), .int .u64 (uv ach), .int .u64 (uv acl)] ∧ Blk w' (w.heap.size + 1) 26 #[.int .u64 (uv bvh), .int .u64 (uv bvl), .int .u64 (uv bch), .int .u64 (uv bcl)] ∧ Blk w' (w.heap.size + 1 + 1) 26 #[.int .u64 (uv svh), .int .u64 (uv svl), .int .u64 (uv sch), .int .u64 (uv scl)] ∧ Blk w' (w.heap.size + 1 + 1 + 1) 24 #[.int .u64 (uv hh), .int .u64 (uv hl)] ∧ Blk w' (w1.heap.size) 26 #[.int .u64 (uv (sel (metB avh avl ach acl bvh bvl bch bcl) (avh ||| bvh))), .int .u64 (uv (sel (metB avh avl ach acl bvh bvl bch bcl) (avl ||| bvl))), .int .u64 (uv (sel (metB avh avl ach acl bvh bvl bch bcl) (ach ||| bch))), .int .u64 (uv (sel (metB avh avl ach acl bvh bvl bch bcl) (acl ||| bcl)))] ∧ Blk w' (w3.heap.size) 26 #[.int .u64 (uv (sel (metB avh avl ach acl bvh bvl bch bcl) (avh ||| bvh))), .int .u64 (uv (sel (metB avh avl ach acl bvh bvl bch bcl) (avl ||| bvl))), .int .u64 (uv (sel (metB avh avl ach acl bvh bvl bch bcl) (ach ||| bch))), .int .u64 (uv (sel (metB avh avl ach acl bvh bvl bch bcl) (acl ||| bcl)))] ∧ Blk w' (w5.heap.size) 24 #[.int .u64 (uv ((hh &&& ~~~sch) ||| (svh &&& sch))), .int .u64 (uv ((hl &&& ~~~scl) ||| (svl &&& scl)))])
    (first | exact KEEP1 _ _ (by assumption) (by assumption) | exact KEEP1 _ _ (Below.refl _ _).drew S0)
    (first
      | (go_at_call 11; (with_reducible refine (awake2_c _).mono ?_); rintro e w' ⟨rfl, hb⟩)
      | (go_at_call 28; (with_reducible refine (set_twice hh hl svh svl sch scl _).mono ?_); rintro e w' ⟨rfl, hb⟩))
  clear S0 KEEP1
  rename_i hS
  clear A B C H X Y O L
  obtain ⟨⟨L, _, _, _, _, _, _, _, _, _, _, _, _, _, _, _, _, _, _, _, _, _, _, _, _⟩, A, B, C, H, X, Y, O⟩ := hS
  have eA := A.four
  have eB := B.four
  have eC := C.four
  have eH := H.pair
  have eX := X.four
  have eY := Y.four
  have eO := O.pair
  go_wp2_with fail
  (with_reducible refine (make_c _ _ _ _ _).mono ?_)
  rintro e w7 ⟨rfl, hb⟩
  clear eA eB eC eH eX eY eO
  replace A := A.on hb
  replace B := B.on hb
  replace C := C.on hb
  replace H := H.on hb
  replace X := X.on hb
  replace Y := Y.on hb
  replace O := O.on hb
  replace L := L.trans (hb.mono L.size)
  clear hb
  have eA := A.four
  have eB := B.four
  have eC := C.four
  have eH := H.pair
  have eX := X.four
  have eY := Y.four
  have eO := O.pair
  have fC := C.fr4
  go_upto_region 7 with (fail)
  clear fC
  clear eA eB eC eH eX eY eO
  replace A := A.far4 (r := w.heap.size + 1 + 1) (by omega) (.int .u64 (uv (svh &&& sch))) (.int .u64 (uv (svl &&& scl))) (.int .u64 (uv (sch))) (.int .u64 (uv (scl)))
  replace B := B.far4 (r := w.heap.size + 1 + 1) (by omega) (.int .u64 (uv (svh &&& sch))) (.int .u64 (uv (svl &&& scl))) (.int .u64 (uv (sch))) (.int .u64 (uv (scl)))
  replace C := C.set4 (.int .u64 (uv (svh &&& sch))) (.int .u64 (uv (svl &&& scl))) (.int .u64 (uv (sch))) (.int .u64 (uv (scl)))
  replace H := H.far4 (r := w.heap.size + 1 + 1) (by omega) (.int .u64 (uv (svh &&& sch))) (.int .u64 (uv (svl &&& scl))) (.int .u64 (uv (sch))) (.int .u64 (uv (scl)))
  replace X := X.far4 (r := w.heap.size + 1 + 1) (by omega) (.int .u64 (uv (svh &&& sch))) (.int .u64 (uv (svl &&& scl))) (.int .u64 (uv (sch))) (.int .u64 (uv (scl)))
  replace Y := Y.far4 (r := w.heap.size + 1 + 1) (by omega) (.int .u64 (uv (svh &&& sch))) (.int .u64 (uv (svl &&& scl))) (.int .u64 (uv (sch))) (.int .u64 (uv (scl)))
  replace O := O.far4 (r := w.heap.size + 1 + 1) (by omega) (.int .u64 (uv (svh &&& sch))) (.int .u64 (uv (svl &&& scl))) (.int .u64 (uv (sch))) (.int .u64 (uv (scl)))
  replace L := L.trans ((sets4 w7 (w.heap.size + 1 + 1) (.int .u64 (uv (svh &&& sch))) (.int .u64 (uv (svl &&& scl))) (.int .u64 (uv (sch))) (.int .u64 (uv (scl)))).mono (by omega))
  generalize ((((w7.setCell ⟨w.heap.size + 1 + 1, 0, none⟩ (.int .u64 (uv (svh &&& sch)))).setCell ⟨w.heap.size + 1 + 1, 1, none⟩ (.int .u64 (uv (svl &&& scl)))).setCell ⟨w.heap.size + 1 + 1, 2, none⟩ (.int .u64 (uv (sch)))).setCell ⟨w.heap.size + 1 + 1, 3, none⟩ (.int .u64 (uv (scl)))) = w8 at L A B C H X Y O ⊢
  have eA := A.four
  have eB := B.four
  have eC := C.four
  have eH := H.pair
  have eX := X.four
  have eY := Y.four
  have eO := O.pair
  have WT := Lib.hid hw
  go_wp2_with fail
  clear eA eB eC eH eX eY eO
  have KEEP2 : ∀ u1 u2 : World, Below u1.heap.size u1 u2 → ((Below w.heap.size w u1 ∧ u1.cell? ⟨w.heap.size, 0, none⟩ = some (.int .u64 (uv avh)) ∧ u1.cell? ⟨w.heap.size, 1, none⟩ = some (.int .u64 (uv avl)) ∧ u1.cell? ⟨w.heap.size, 2, none⟩ = some (.int .u64 (uv ach)) ∧ u1.cell? ⟨w.heap.size, 3, none⟩ = some (.int .u64 (uv acl)) ∧ u1.cell? ⟨w.heap.size + 1, 0, none⟩ = some (.int .u64 (uv bvh)) ∧ u1.cell? ⟨w.heap.size + 1, 1, none⟩ = some (.int .u64 (uv bvl)) ∧ u1.cell? ⟨w.heap.size + 1, 2, none⟩ = some (.int .u64 (uv bch)) ∧ u1.cell? ⟨w.heap.size + 1, 3, none⟩ = some (.int .u64 (uv bcl)) ∧ u1.cell? ⟨w.heap.size + 1 + 1, 0, none⟩ = some (.int .u64 (uv (svh &&& sch))) ∧ u1.cell? ⟨w.heap.size + 1 + 1, 1, none⟩ = some (.int .u64 (uv (svl &&& scl))) ∧ u1.cell? ⟨w.heap.size + 1 + 1, 2, none⟩ = some (.int .u64 (uv (sch))) ∧ u1.cell? ⟨w.heap.size + 1 + 1, 3, none⟩ = some (.int .u64 (uv (scl))) ∧ u1.cell? ⟨w.heap.size + 1 + 1 + 1, 0, none⟩ = some (.int .u64 (uv hh)) ∧ u1.cell? ⟨w.heap.size + 1 + 1 + 1, 1, none⟩ = some (.int .u64 (uv hl)) ∧ u1.cell? ⟨w1.heap.size, 0, none⟩ = some (.int .u64 (uv (sel (metB avh avl ach acl bvh bvl bch bcl) (avh ||| bvh)))) ∧ u1.cell? ⟨w1.heap.size, 1, none⟩ = some (.int .u64 (uv (sel (metB avh avl ach acl bvh bvl bch bcl) (avl ||| bvl)))) ∧ u1.cell? ⟨w1.heap.size, 2, none⟩ = some (.int .u64 (uv (sel (metB avh avl ach acl bvh bvl bch bcl) (ach ||| bch)))) ∧ u1.cell? ⟨w1.heap.size, 3, none⟩ = some (.int .u64 (uv (sel (metB avh avl ach acl bvh bvl bch bcl) (acl ||| bcl)))) ∧ u1.cell? ⟨w3.heap.size, 0, none⟩ = some (.int .u64 (uv (sel (metB avh avl ach acl bvh bvl bch bcl) (avh ||| bvh)))) ∧ u1.cell? ⟨w3.heap.size, 1, none⟩ = some (.int .u64 (uv (sel (metB avh avl ach acl bvh bvl bch bcl) (avl ||| bvl)))) ∧ u1.cell? ⟨w3.heap.size, 2, none⟩ = some (.int .u64 (uv (sel (metB avh avl ach acl bvh bvl bch bcl) (ach ||| bch)))) ∧ u1.cell? ⟨w3.heap.size, 3, none⟩ = some (.int .u64 (uv (sel (metB avh avl ach acl bvh bvl bch bcl) (acl ||| bcl)))) ∧ u1.cell? ⟨w5.heap.size, 0, none⟩ = some (.int .u64 (uv ((hh &&& ~~~sch) ||| (svh &&& sch)))) ∧ u1.cell? ⟨w5.heap.size, 1, none⟩ = some (.int .u64 (uv ((hl &&& ~~~scl) ||| (svl &&& scl))))) ∧ Blk u1 (w.heap.size) 26 #[.int .u64 (uv avh), .int .u64 (uv avl), .int .u64 (uv ach), .int .u64 (uv acl)] ∧ Blk u1 (w.heap.size + 1) 26 #[.int .u64 (uv bvh), .int .u64 (uv bvl), .int .u64 (uv bch), .int .u64 (uv bcl)] ∧ Blk u1 (w.heap.size + 1 + 1) 26 #[.int .u64 (uv (svh &&& sch)), .int .u64 (uv (svl &&& scl)), .int .u64 (uv (sch)), .int .u64 (uv (scl))] ∧ Blk u1 (w.heap.size + 1 + 1 + 1) 24 #[.int .u64 (uv hh), .int .u64 (uv hl)] ∧ Blk u1 (w1.heap.size) 26 #[.int .u64 (uv (sel (metB avh avl ach acl bvh bvl bch bcl) (avh ||| bvh))), .int .u64 (uv (sel (metB avh avl ach acl bvh bvl bch bcl) (avl ||| bvl))), .int .u64 (uv (sel (metB avh avl ach acl bvh bvl bch bcl) (ach ||| bch))), .int .u64 (uv (sel (metB avh avl ach acl bvh bvl bch bcl) (acl ||| bcl)))] ∧ Blk u1 (w3.heap.size) 26 #[.int .u64 (uv (sel (metB avh avl ach acl bvh bvl bch bcl) (avh ||| bvh))), .int .u64 (uv (sel (metB avh avl ach acl bvh bvl bch bcl) (avl ||| bvl))), .int .u64 (uv (sel (metB avh avl ach acl bvh bvl bch bcl) (ach ||| bch))), .int .u64 (uv (sel (metB avh avl ach acl bvh bvl bch bcl) (acl ||| bcl)))] ∧ Blk u1 (w5.heap.size) 24 #[.int .u64 (uv ((hh &&& ~~~sch) ||| (svh &&& sch))), .int .u64 (uv ((hl &&& ~~~scl) ||| (svl &&& scl)))]) → ((Below w.heap.size w u2 ∧ u2.cell? ⟨w.heap.size, 0, none⟩ = some (.int .u64 (uv avh)) ∧ u2.cell? ⟨w.heap.size, 1, none⟩ = some (.int .u64 (uv avl)) ∧ u2.cell? ⟨w.heap.size, 2, none⟩ = some (.int .u64 (uv ach)) ∧ u2.cell? ⟨w.heap.size, 3, none⟩ = some (.int .u64 (uv acl)) ∧ u2.cell? ⟨w.heap.size + 1, 0, none⟩ = some (.int .u64 (uv bvh)) ∧ u2.cell? ⟨w.heap.size + 1, 1, none⟩ = some (.int .u64 (uv bvl)) ∧ u2.cell? ⟨w.heap.size + 1, 2, none⟩ = some (.int .u64 (uv bch)) ∧ u2.cell? ⟨w.heap.size + 1, 3, none⟩ = some (.int .u64 (uv bcl)) ∧ u2.cell? ⟨w.heap.size + 1 + 1, 0, none⟩ = some (.int .u64 (uv (svh &&& sch))) ∧ u2.cell? ⟨w.heap.size + 1 + 1, 1, none⟩ = some (.int .u64 (uv (svl &&& scl))) ∧ u2.cell? ⟨w.heap.size + 1 + 1, 2, none⟩ = some (.int .u64 (uv (sch))) ∧ u2.cell? ⟨w.heap.size + 1 + 1, 3, none⟩ = some (.int .u64 (uv (scl))) ∧ u2.cell? ⟨w.heap.size + 1 + 1 + 1, 0, none⟩ = some (.int .u64 (uv hh)) ∧ u2.cell? ⟨w.heap.size + 1 + 1 + 1, 1, none⟩ = some (.int .u64 (uv hl)) ∧ u2.cell? ⟨w1.heap.size, 0, none⟩ = some (.int .u64 (uv (sel (metB avh avl ach acl bvh bvl bch bcl) (avh ||| bvh)))) ∧ u2.cell? ⟨w1.heap.size, 1, none⟩ = some (.int .u64 (uv (sel (metB avh avl ach acl bvh bvl bch bcl) (avl ||| bvl)))) ∧ u2.cell? ⟨w1.heap.size, 2, none⟩ = some (.int .u64 (uv (sel (metB avh avl ach acl bvh bvl bch bcl) (ach ||| bch)))) ∧ u2.cell? ⟨w1.heap.size, 3, none⟩ = some (.int .u64 (uv (sel (metB avh avl ach acl bvh bvl bch bcl) (acl ||| bcl)))) ∧ u2.cell? ⟨w3.heap.size, 0, none⟩ = some (.int .u64 (uv (sel (metB avh avl ach acl bvh bvl bch bcl) (avh ||| bvh)))) ∧ u2.cell? ⟨w3.heap.size, 1, none⟩ = some (.int .u64 (uv (sel (metB avh avl ach acl bvh bvl bch bcl) (avl ||| bvl)))) ∧ u2.cell? ⟨w3.heap.size, 2, none⟩ = some (.int .u64 (uv (sel (metB avh avl ach acl bvh bvl bch bcl) (ach ||| bch)))) ∧ u2.cell? ⟨w3.heap.size, 3, none⟩ = some (.int .u64 (uv (sel (metB avh avl ach acl bvh bvl bch bcl) (acl ||| bcl)))) ∧ u2.cell? ⟨w5.heap.size, 0, none⟩ = some (.int .u64 (uv ((hh &&& ~~~sch) ||| (svh &&& sch)))) ∧ u2.cell? ⟨w5.heap.size, 1, none⟩ = some (.int .u64 (uv ((hl &&& ~~~scl) ||| (svl &&& scl))))) ∧ Blk u2 (w.heap.size) 26 #[.int .u64 (uv avh), .int .u64 (uv avl), .int .u64 (uv ach), .int .u64 (uv acl)] ∧ Blk u2 (w.heap.size + 1) 26 #[.int .u64 (uv bvh), .int .u64 (uv bvl), .int .u64 (uv bch), .int .u64 (uv bcl)] ∧ Blk u2 (w.heap.size + 1 + 1) 26 #[.int .u64 (uv (svh &&& sch)), .int .u64 (uv (svl &&& scl)), .int .u64 (uv (sch)), .int .u64 (uv (scl))] ∧ Blk u2 (w.heap.size + 1 + 1 + 1) 24 #[.int .u64 (uv hh), .int .u64 (uv hl)] ∧ Blk u2 (w1.heap.size) 26 #[.int .u64 (uv (sel (metB avh avl ach acl bvh bvl bch bcl) (avh ||| bvh))), .int .u64 (uv (sel (metB avh avl ach acl bvh bvl bch bcl) (avl ||| bvl))), .int .u64 (uv (sel (metB avh avl ach acl bvh bvl bch bcl) (ach ||| bch))), .int .u64 (uv (sel (metB avh avl ach acl bvh bvl bch bcl) (acl ||| bcl)))] ∧ Blk u2 (w3.heap.size) 26 #[.int .u64 (uv (sel (metB avh avl ach acl bvh bvl bch bcl) (avh ||| bvh))), .int .u64 (uv (sel (metB avh avl ach acl bvh bvl bch bcl) (avl ||| bvl))), .int .u64 (uv (sel (metB avh avl ach acl bvh bvl bch bcl) (ach ||| bch))), .int .u64 (uv (sel (metB avh avl ach acl bvh bvl bch bcl) (acl ||| bcl)))] ∧ Blk u2 (w5.heap.size) 24 #[.int .u64 (uv ((hh &&& ~~~sch) ||| (svh &&& sch))), .int .u64 (uv ((hl &&& ~~~scl) ||| (svl &&& scl)))]) := fun _ _ hb h => ⟨hold24 hb h.1, (h.2.1).on hb, (h.2.2.1).on hb, (h.2.2.2.1).on hb, (h.2.2.2.2.1).on hb, (h.2.2.2.2.2.1).on hb, (h.2.2.2.2.2.2.1).on hb, (h.2.2.2.2.2.2.2).on hb⟩
  have S0 : (Below w.heap.size w w8 ∧ w8.cell? ⟨w.heap.size, 0, none⟩ = some (.int .u64 (uv avh)) ∧ w8.cell? ⟨w.heap.size, 1, none⟩ = some (.int .u64 (uv avl)) ∧ w8.cell? ⟨w.heap.size, 2, none⟩ = some (.int .u64 (uv ach)) ∧ w8.cell? ⟨w.heap.size, 3, none⟩ = some (.int .u64 (uv acl)) ∧ w8.cell? ⟨w.heap.size + 1, 0, none⟩ = some (.int .u64 (uv bvh)) ∧ w8.cell? ⟨w.heap.size + 1, 1, none⟩ = some (.int .u64 (uv bvl)) ∧ w8.cell? ⟨w.heap.size + 1, 2, none⟩ = some (.int .u64 (uv bch)) ∧ w8.cell? ⟨w.heap.size + 1, 3, none⟩ = some (.int .u64 (uv bcl)) ∧ w8.cell? ⟨w.heap.size + 1 + 1, 0, none⟩ = some (.int .u64 (uv (svh &&& sch))) ∧ w8.cell? ⟨w.heap.size + 1 + 1, 1, none⟩ = some (.int .u64 (uv (svl &&& scl))) ∧ w8.cell? ⟨w.heap.size + 1 + 1, 2, none⟩ = some (.int .u64 (uv (sch))) ∧ w8.cell? ⟨w.heap.size + 1 + 1, 3, none⟩ = some (.int .u64 (uv (scl))) ∧ w8.cell? ⟨w.heap.size + 1 + 1 + 1, 0, none⟩ = some (.int .u64 (uv hh)) ∧ w8.cell? ⟨w.heap.size + 1 + 1 + 1, 1, none⟩ = some (.int .u64 (uv hl)) ∧ w8.cell? ⟨w1.heap.size, 0, none⟩ = some (.int .u64 (uv (sel (metB avh avl ach acl bvh bvl bch bcl) (avh ||| bvh)))) ∧ w8.cell? ⟨w1.heap.size, 1, none⟩ = some (.int .u64 (uv (sel (metB avh avl ach acl bvh bvl bch bcl) (avl ||| bvl)))) ∧ w8.cell? ⟨w1.heap.size, 2, none⟩ = some (.int .u64 (uv (sel (metB avh avl ach acl bvh bvl bch bcl) (ach ||| bch)))) ∧ w8.cell? ⟨w1.heap.size, 3, none⟩ = some (.int .u64 (uv (sel (metB avh avl ach acl bvh bvl bch bcl) (acl ||| bcl)))) ∧ w8.cell? ⟨w3.heap.size, 0, none⟩ = some (.int .u64 (uv (sel (metB avh avl ach acl bvh bvl bch bcl) (avh ||| bvh)))) ∧ w8.cell? ⟨w3.heap.size, 1, none⟩ = some (.int .u64 (uv (sel (metB avh avl ach acl bvh bvl bch bcl) (avl ||| bvl)))) ∧ w8.cell? ⟨w3.heap.size, 2, none⟩ = some (.int .u64 (uv (sel (metB avh avl ach acl bvh bvl bch bcl) (ach ||| bch)))) ∧ w8.cell? ⟨w3.heap.size, 3, none⟩ = some (.int .u64 (uv (sel (metB avh avl ach acl bvh bvl bch bcl) (acl ||| bcl)))) ∧ w8.cell? ⟨w5.heap.size, 0, none⟩ = some (.int .u64 (uv ((hh &&& ~~~sch) ||| (svh &&& sch)))) ∧ w8.cell? ⟨w5.heap.size, 1, none⟩ = some (.int .u64 (uv ((hl &&& ~~~scl) ||| (svl &&& scl))))) ∧ Blk w8 (w.heap.size) 26 #[.int .u64 (uv avh), .int .u64 (uv avl), .int .u64 (uv ach), .int .u64 (uv acl)] ∧ Blk w8 (w.heap.size + 1) 26 #[.int .u64 (uv bvh), .int .u64 (uv bvl), .int .u64 (uv bch), .int .u64 (uv bcl)] ∧ Blk w8 (w.heap.size + 1 + 1) 26 #[.int .u64 (uv (svh &&& sch)), .int .u64 (uv (svl &&& scl)), .int .u64 (uv (sch)), .int .u64 (uv (scl))] ∧ Blk w8 (w.heap.size + 1 + 1 + 1) 24 #[.int .u64 (uv hh), .int .u64 (uv hl)] ∧ Blk w8 (w1.heap.size) 26 #[.int .u64 (uv (sel (metB avh avl ach acl bvh bvl bch bcl) (avh ||| bvh))), .int .u64 (uv (sel (metB avh avl ach acl bvh bvl bch bcl) (avl ||| bvl))), .int .u64 (uv (sel (metB avh avl ach acl bvh bvl bch bcl) (ach ||| bch))), .int .u64 (uv (sel (metB avh avl ach acl bvh bvl bch bcl) (acl ||| bcl)))] ∧ Blk w8 (w3.heap.size) 26 #[.int .u64 (uv (sel (metB avh avl ach acl bvh bvl bch bcl) (avh ||| bvh))), .int .u64 (uv (sel (metB avh avl ach acl bvh bvl bch bcl) (avl ||| bvl))), .int .u64 (uv (sel (metB avh avl ach acl bvh bvl bch bcl) (ach ||| bch))), .int .u64 (uv (sel (metB avh avl ach acl bvh bvl bch bcl) (acl ||| bcl)))] ∧ Blk w8 (w5.heap.size) 24 #[.int .u64 (uv ((hh &&& ~~~sch) ||| (svh &&& sch))), .int .u64 (uv ((hl &&& ~~~scl) ||| (svl &&& scl)))] := ⟨⟨L, A.cell 0, A.cell 1, A.cell 2, A.cell 3, B.cell 0, B.cell 1, B.cell 2, B.cell 3, C.cell 0, C.cell 1, C.cell 2, C.cell 3, H.cell 0, H.cell 1, X.cell 0, X.cell 1, X.cell 2, X.cell 3, Y.cell 0, Y.cell 1, Y.cell 2, Y.cell 3, O.cell 0, O.cell 1⟩, A, B, C, H, X, Y, O⟩
  go_region_held3 (fun w' => (Below w.heap.size w w' ∧ w'.cell? ⟨w.heap.size, 0, none⟩ = some (.int .u64 (uv avh)) ∧ w'.cell? ⟨w.heap.size, 1, none⟩ = some (.int .u64 (uv avl)) ∧ w'.cell? ⟨w.heap.size, 2, none⟩ = some (.int .u64 (uv ach)) ∧ w'.cell? ⟨w.heap.size, 3, none⟩ = some (.int .u64 (uv acl)) ∧ w'.cell? ⟨w.heap.size + 1, 0, none⟩ = some (.int .u64 (uv bvh)) ∧ w'.cell? ⟨w.heap.size + 1, 1, none⟩ = some (.int .u64 (uv bvl)) ∧ w'.cell? ⟨w.heap.size + 1, 2, none⟩ = some (.int .u64 (uv bch)) ∧ w'.cell? ⟨w.heap.size + 1, 3, none⟩ = some (.int .u64 (uv bcl)) ∧ w'.cell? ⟨w.heap.size + 1 + 1, 0, none⟩ = some (.int .u64 (uv (svh &&& sch))) ∧ w'.cell? ⟨w.heap.size + 1 + 1, 1, none⟩ = some (.int .u64 (uv (svl &&& scl))) ∧ w'.cell? ⟨w.heap.size + 1 + 1, 2, none⟩ = some (.int .u64 (uv (sch))) ∧ w'.cell? ⟨w.heap.size + 1 + 1, 3, none⟩ = some (.int .u64 (uv (scl))) ∧ w'.cell? ⟨w.heap.size + 1 + 1 + 1, 0, none⟩ = some (.int .u64 (uv hh)) ∧ w'.cell? ⟨w.heap.size + 1 + 1 + 1, 1, none⟩ = some (.int .u64 (uv hl)) ∧ w'.cell? ⟨w1.heap.size, 0, none⟩ = some (.int .u64 (uv (sel (metB avh avl ach acl bvh bvl bch bcl) (avh ||| bvh)))) ∧ w'.cell? ⟨w1.heap.size, 1, none⟩ = some (.int .u64 (uv (sel (metB avh avl ach acl bvh bvl bch bcl) (avl ||| bvl)))) ∧ w'.cell? ⟨w1.heap.size, 2, none⟩ = some (.int .u64 (uv (sel (metB avh avl ach acl bvh bvl bch bcl) (ach ||| bch)))) ∧ w'.cell? ⟨w1.heap.size, 3, none⟩ = some (.int .u64 (uv (sel (metB avh avl ach acl bvh bvl bch bcl) (acl ||| bcl)))) ∧ w'.cell? ⟨w3.heap.size, 0, none⟩ = some (.int .u64 (uv (sel (metB avh avl ach acl bvh bvl bch bcl) (avh ||| bvh)))) ∧ w'.cell? ⟨w3.heap.size, 1, none⟩ = some (.int .u64 (uv (sel (metB avh avl ach acl bvh bvl bch bcl) (avl ||| bvl)))) ∧ w'.cell? ⟨w3.heap.size, 2, none⟩ = some (.int .u64 (uv (sel (metB avh avl ach acl bvh bvl bch bcl) (ach ||| bch)))) ∧ w'.cell? ⟨w3.heap.size, 3, none⟩ = some (.int .u64 (uv (sel (metB avh avl ach acl bvh bvl bch bcl) (acl ||| bcl)))) ∧ w'.cell? ⟨w5.heap.size, 0, none⟩ = some (.int .u64 (uv ((hh &&& ~~~sch) ||| (svh &&& sch)))) ∧ w'.cell? ⟨w5.heap.size, 1, none⟩ = some (.int .u64 (uv ((hl &&& ~~~scl) ||| (svl &&& scl))))) ∧ Blk w' (w.heap.size) 26 #[.int .u64 (uv avh), .int .u64 (uv avl), .int .u64 (uv ach), .int .u64 (uv acl)] ∧ Blk w' (w.heap.size + 1) 26 #[.int .u64 (uv bvh), .int .u64 (uv bvl), .int .u64 (uv bch), .int .u64 (uv bcl)] ∧ Blk w' (w.heap.size + 1 + 1) 26 #[.int .u64 (uv (svh &&& sch)), .int .u64 (uv (svl &&& scl)), .int .u64 (uv (sch)), .int .u64 (uv (scl))] ∧ Blk w' (w.heap.size + 1 + 1 + 1) 24 #[.int .u64 (uv hh), .int .u64 (uv hl)] ∧ Blk w' (w1.heap.size) 26 #[.int .u64 (uv (sel (metB avh avl ach acl bvh bvl bch bcl) (avh ||| bvh))), .int .u64 (uv (sel (metB avh avl ach acl bvh bvl bch bcl) (avl ||| bvl))), .int .u64 (uv (sel (metB avh avl ach acl bvh bvl bch bcl) (ach ||| bch))), .int .u64 (uv (sel (metB avh avl ach acl bvh bvl bch bcl) (acl ||| bcl)))] ∧ Blk w' (w3.heap.size) 26 #[.int .u64 (uv (sel (metB avh avl ach acl bvh bvl bch bcl) (avh ||| bvh))), .int .u64 (uv (sel (metB avh avl ach acl bvh bvl bch bcl) (avl ||| bvl))), .int .u64 (uv (sel (metB avh avl ach acl bvh bvl bch bcl) (ach ||| bch))), .int .u64 (uv (sel (metB avh avl ach acl bvh bvl bch bcl) (acl ||| bcl)))] ∧ Blk w' (w5.heap.size) 24 #[.int .u64 (uv ((hh &&& ~~~sch) ||| (svh &&& sch))), .int .u64 (uv ((hl &&& ~~~scl) ||| (svl &&& scl)))])
    (first | exact KEEP2 _ _ (by assumption) (by assumption) | exact KEEP2 _ _ (Below.refl _ _).drew S0)
    (first
      | (go_at_call 16; (with_reducible refine (within_is _ avh avl ach acl bvh bvl bch bcl _ WT.out).mono ?_); rintro e w' ⟨rfl, hb⟩)
      | (go_at_call 16; (with_reducible refine (within_is _ ((avh &&& ~~~sch) ||| ((svh &&& sch) &&& sch)) ((avl &&& ~~~scl) ||| ((svl &&& scl) &&& scl)) (ach ||| sch) (acl ||| scl) ((bvh &&& ~~~sch) ||| ((svh &&& sch) &&& sch)) ((bvl &&& ~~~scl) ||| ((svl &&& scl) &&& scl)) (bch ||| sch) (bcl ||| scl) _ (after_mono avh avl ach acl bvh bvl bch bcl svh svl sch scl WT.out)).mono ?_); rintro e w' ⟨rfl, hb⟩)
      | (go_at_call 31; (with_reducible refine (after_yes avh avl ach acl (svh &&& sch) (svl &&& scl) sch scl _ HA).mono ?_); rintro e w' ⟨rfl, hb⟩)
      | (go_at_call 31; (with_reducible refine (after_yes bvh bvl bch bcl (svh &&& sch) (svl &&& scl) sch scl _ HB).mono ?_); rintro e w' ⟨rfl, hb⟩)
      | (go_at_call 12; (with_reducible refine (sound_is _ ((avh &&& ~~~sch) ||| ((svh &&& sch) &&& sch)) ((avl &&& ~~~scl) ||| ((svl &&& scl) &&& scl)) (ach ||| sch) (acl ||| scl) _ (after_snd avh avl ach acl svh svl sch scl HA)).mono ?_); rintro e w' ⟨rfl, hb⟩))
  clear S0 KEEP2
  rename_i hS
  clear A B C H X Y O L
  obtain ⟨⟨L, _, _, _, _, _, _, _, _, _, _, _, _, _, _, _, _, _, _, _, _, _, _, _, _⟩, A, B, C, H, X, Y, O⟩ := hS
  have eA := A.four
  have eB := B.four
  have eC := C.four
  have eH := H.pair
  have eX := X.four
  have eY := Y.four
  have eO := O.pair
  go_wp2
  go_ret
  exact ⟨rfl, L⟩

theorem twice_c (avh avl ach acl bvh bvl bch bcl svh svl sch scl hh hl : BitVec 64) (w : World) :
    Calls Try.prog 9 #[.agg #[.int .u64 (uv avh), .int .u64 (uv avl), .int .u64 (uv ach), .int .u64 (uv acl)], .agg #[.int .u64 (uv bvh), .int .u64 (uv bvl), .int .u64 (uv bch), .int .u64 (uv bcl)], .agg #[.int .u64 (uv svh), .int .u64 (uv svl), .int .u64 (uv sch), .int .u64 (uv scl)], .agg #[.int .u64 (uv hh), .int .u64 (uv hl)]] w fun e w' => e = .returned (.bool true) ∧ Below w.heap.size w w' := by
  cases hw : witB avh avl ach acl bvh bvl bch bcl with
  | false => exact twice_no _ _ _ _ _ _ _ _ _ _ _ _ _ _ _ hw
  | true =>
    have h := (wit_and _ _ _ _ _ _ _ _).1 hw
    exact twice_yes _ _ _ _ _ _ _ _ _ _ _ _ _ _ _ hw h.1 h.2.1
end Go.Proofs
