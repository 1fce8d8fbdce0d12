/-
  The law CubeMeets returns true for all cubes, and changes nothing that was there. No conditions.
-/
import Derived.Test.YtlhbkiobgppciaaCHas
import Derived.Test.YtlhbkiobgppciaaRCube
namespace Go.Proofs
open Go.RowKit Go.Proofs.Hd
attribute [local go_sem] uv_nonneg eq4_self eq2_self
attribute [local go_sem high] run_eq2 run_eq4
theorem cless_no (a b : Cb) (w : World) (h : a.snd = false ∨ (a.snd = true ∧ b.snd = false)) : Calls Try.prog 17 #[.agg #[.int .u64 (uv a.vh), .int .u64 (uv a.vl), .int .u64 (uv a.ch), .int .u64 (uv a.cl)], .agg #[.int .u64 (uv b.vh), .int .u64 (uv b.vl), .int .u64 (uv b.ch), .int .u64 (uv b.cl)]] w fun e w' => e = .returned (.slice none 0 0) ∧ Below w.heap.size w w' := by
  rcases h with h | ⟨h1, h2⟩
  · exact less_no1 a b w h
  · exact less_no2 a b w h1 h2
theorem met_no {a b : Cb} (h : a.snd = false ∨ (a.snd = true ∧ b.snd = false)) : a.met b = false := by
  unfold Cb.met metB
  show (a.snd && (b.snd && a.agr b)) = false
  rcases h with h | ⟨h1, h2⟩
  · rw [h]; rfl
  · rw [h1, h2]; rfl
theorem wit_no {a b : Cb} (h : a.snd = false ∨ (a.snd = true ∧ b.snd = false)) : a.wit b = false := by
  cases e : a.wit b with
  | false => rfl
  | true =>
    have := (Cb.wit_iff a b).1 e
    rcases h with h | ⟨h1, h2⟩
    · rw [h] at this; cases this.1
    · rw [h2] at this; cases this.2.1
theorem rwithin_is (x : Bool) (s t : ByteArray) (a b : Cb) (w : World) (ha : a.snd = true) (hb : b.snd = true) (hs : txt a = s) (ht : txt b = t) (hx : a.wit b = x) :
    Calls Try.prog 19 #[.string s, .string t] w fun e w' => e = .returned (.bool x) ∧ Below w.heap.size w w' := by
  subst hx; exact rwithin_s s t a b w ha hb hs ht
theorem rmeet_t (s t r : ByteArray) (a b : Cb) (w : World) (ha : a.snd = true) (hb : b.snd = true) (hs : txt a = s) (ht : txt b = t) (hx : a.agr b = true) (hr : txt (a.join b) = r) :
    Calls Try.prog 18 #[.string s, .string t] w fun e w' => e = .returned (.tuple #[.string r, .bool true]) ∧ Below w.heap.size w w' :=
  rmeet_s s t a b w ha hb hs ht true r hx (Lib.hid fun _ => hr.symm) (Lib.hid fun h => by cases h)
theorem rmeet_f (s t : ByteArray) (a b : Cb) (w : World) (ha : a.snd = true) (hb : b.snd = true) (hs : txt a = s) (ht : txt b = t) (hx : a.agr b = false) :
    Calls Try.prog 18 #[.string s, .string t] w fun e w' => e = .returned (.tuple #[.string ⟨#[]⟩, .bool false]) ∧ Below w.heap.size w w' :=
  rmeet_s s t a b w ha hb hs ht false _ hx (Lib.hid fun h => by cases h) (Lib.hid fun _ => rfl)
theorem join_snd {a b : Cb} (ha : a.snd = true) (hb : b.snd = true) : (a.join b).snd = true := by
  rw [Cb.snd_iff] at *
  intro j hj h
  have jv : (a.join b).V j = (a.V j || b.V j) := by unfold Cb.V Cb.join; rw [hbit_or]
  have jk : (a.join b).K j = (a.K j || b.K j) := by unfold Cb.K Cb.join; rw [hbit_or]
  rw [jv] at h
  rw [jk]
  have h1 := ha j hj
  have h2 := hb j hj
  revert h h1 h2
  cases a.V j <;> cases b.V j <;> cases a.K j <;> cases b.K j <;> simp
theorem rcube_j (r : ByteArray) (a b : Cb) (w : World) (ha : a.snd = true) (hb : b.snd = true) (hr : txt (a.join b) = r) :
    Calls Try.prog 20 #[.string r] w fun e w' => e = .returned (.agg #[.int .u64 (uv (a.vh ||| b.vh)), .int .u64 (uv (a.vl ||| b.vl)), .int .u64 (uv (a.ch ||| b.ch)), .int .u64 (uv (a.cl ||| b.cl))]) ∧ Below w.heap.size w w' :=
  rcube_s r (a.join b) w (join_snd ha hb) hr
set_option maxHeartbeats 4000000 in
theorem meets_nn (a b : Cb) (w : World) (h1 : a.snd = false) (h2 : b.snd = false) :
    Calls Try.prog 4 #[.agg #[.int .u64 (uv a.vh), .int .u64 (uv a.vl), .int .u64 (uv a.ch), .int .u64 (uv a.cl)], .agg #[.int .u64 (uv b.vh), .int .u64 (uv b.vl), .int .u64 (uv b.ch), .int .u64 (uv b.cl)]] w fun e w' => e = .returned (.bool true) ∧ Below w.heap.size w w' := by
  have bx0 := below1 w (.cells #[.int .u64 (uv a.vh), .int .u64 (uv a.vl), .int .u64 (uv a.ch), .int .u64 (uv a.cl)] 26)
  have Ab0 : Blk (w.alloc (.cells #[.int .u64 (uv a.vh), .int .u64 (uv a.vl), .int .u64 (uv a.ch), .int .u64 (uv a.cl)] 26)) (w.heap.size) 26 #[.int .u64 (uv a.vh), .int .u64 (uv a.vl), .int .u64 (uv a.ch), .int .u64 (uv a.cl)] := Blk.new w _ _
  have L0 : Below w.heap.size w (w.alloc (.cells #[.int .u64 (uv a.vh), .int .u64 (uv a.vl), .int .u64 (uv a.ch), .int .u64 (uv a.cl)] 26)) := bx0
  have bx1 := below1 (w.alloc (.cells #[.int .u64 (uv a.vh), .int .u64 (uv a.vl), .int .u64 (uv a.ch), .int .u64 (uv a.cl)] 26)) (.cells #[.int .u64 (uv b.vh), .int .u64 (uv b.vl), .int .u64 (uv b.ch), .int .u64 (uv b.cl)] 26)
  have Ab1 := Ab0.on bx1
  have Bb1 : Blk ((w.alloc (.cells #[.int .u64 (uv a.vh), .int .u64 (uv a.vl), .int .u64 (uv a.ch), .int .u64 (uv a.cl)] 26)).alloc (.cells #[.int .u64 (uv b.vh), .int .u64 (uv b.vl), .int .u64 (uv b.ch), .int .u64 (uv b.cl)] 26)) (w.heap.size + 1) 26 #[.int .u64 (uv b.vh), .int .u64 (uv b.vl), .int .u64 (uv b.ch), .int .u64 (uv b.cl)] := by have h := Blk.new (w.alloc (.cells #[.int .u64 (uv a.vh), .int .u64 (uv a.vl), .int .u64 (uv a.ch), .int .u64 (uv a.cl)] 26)) 26 #[.int .u64 (uv b.vh), .int .u64 (uv b.vl), .int .u64 (uv b.ch), .int .u64 (uv b.cl)]; simpa only [World.size_alloc] using h
  have L1 : Below w.heap.size w ((w.alloc (.cells #[.int .u64 (uv a.vh), .int .u64 (uv a.vl), .int .u64 (uv a.ch), .int .u64 (uv a.cl)] 26)).alloc (.cells #[.int .u64 (uv b.vh), .int .u64 (uv b.vl), .int .u64 (uv b.ch), .int .u64 (uv b.cl)] 26)) := L0.trans (bx1.mono L0.size)
  have A := Ab1
  have B := Bb1
  have L := L1
  clear bx0 bx1 L0 L1 Ab0 Ab1 Bb1
  have eA := A.four
  have eB := B.four
  go_enter Try.func4, Try.ntmps4
  have hn : a.snd = false ∨ (a.snd = true ∧ b.snd = false) := Or.inl h1
  go_wp2_with fail
  (with_reducible refine (cmeet_f a b _ (met_no hn)).mono ?_)
  rintro e w1 ⟨rfl, hb⟩
  clear eA eB
  replace A := A.on hb
  replace B := B.on hb
  replace L := L.trans (hb.mono L.size)
  clear hb
  have eA := A.four
  have eB := B.four
  go_upto_region 2 with (fail)
  have ltAC : w.heap.size < w1.heap.size := A.lt
  have ltBC : w.heap.size + 1 < w1.heap.size := B.lt
  have hb := below1 w1 (.cells #[.int .u64 0, .int .u64 0, .int .u64 0, .int .u64 0] 26)
  clear eA eB
  replace A := A.on hb
  replace B := B.on hb
  replace L := L.trans (hb.mono L.size)
  have C : Blk (w1.alloc (.cells #[.int .u64 0, .int .u64 0, .int .u64 0, .int .u64 0] 26)) w1.heap.size 26 #[.int .u64 0, .int .u64 0, .int .u64 0, .int .u64 0] := Blk.new w1 _ _
  clear hb
  generalize (w1.alloc (.cells #[.int .u64 0, .int .u64 0, .int .u64 0, .int .u64 0] 26)) = w2 at L A B C ⊢
  have eA := A.four
  have eB := B.four
  have eC := C.four
  go_wp2_with fail
  (with_reducible refine (text_no a _ h1).mono ?_)
  rintro e w3 ⟨rfl, hb⟩
  clear eA eB eC
  replace A := A.on hb
  replace B := B.on hb
  replace C := C.on hb
  replace L := L.trans (hb.mono L.size)
  clear hb
  have eA := A.four
  have eB := B.four
  have eC := C.four
  go_wp2_with fail
  (with_reducible refine (text_no b _ h2).mono ?_)
  rintro e w4 ⟨rfl, hb⟩
  clear eA eB eC
  replace A := A.on hb
  replace B := B.on hb
  replace C := C.on hb
  replace L := L.trans (hb.mono L.size)
  clear hb
  have eA := A.four
  have eB := B.four
  have eC := C.four
  go_wp2_with fail
  (with_reducible refine (awake2_c _).mono ?_)
  rintro e w5 ⟨rfl, hb⟩
  clear eA eB eC
  replace A := A.on hb
  replace B := B.on hb
  replace C := C.on hb
  replace L := L.trans (hb.mono L.size)
  clear hb
  have eA := A.four
  have eB := B.four
  have eC := C.four
  go_wp2_with fail
  (with_reducible refine (cwithin _ a b _ (wit_no hn)).mono ?_)
  rintro e w6 ⟨rfl, hb⟩
  clear eA eB eC
  replace A := A.on hb
  replace B := B.on hb
  replace C := C.on hb
  replace L := L.trans (hb.mono L.size)
  clear hb
  have eA := A.four
  have eB := B.four
  have eC := C.four
  go_wp2_with fail
  (with_reducible refine (cless_no a b _ hn).mono ?_)
  rintro e w7 ⟨rfl, hb⟩
  clear eA eB eC
  replace A := A.on hb
  replace B := B.on hb
  replace C := C.on hb
  replace L := L.trans (hb.mono L.size)
  clear hb
  have eA := A.four
  have eB := B.four
  have eC := C.four
  go_wp2
  go_ret
  exact ⟨rfl, L⟩

set_option maxHeartbeats 4000000 in
theorem meets_ny (a b : Cb) (w : World) (h1 : a.snd = false) (h2 : b.snd = true) (t : ByteArray) (HT : Hid (txt b = t)) :
    Calls Try.prog 4 #[.agg #[.int .u64 (uv a.vh), .int .u64 (uv a.vl), .int .u64 (uv a.ch), .int .u64 (uv a.cl)], .agg #[.int .u64 (uv b.vh), .int .u64 (uv b.vl), .int .u64 (uv b.ch), .int .u64 (uv b.cl)]] w fun e w' => e = .returned (.bool true) ∧ Below w.heap.size w w' := by
  have bx0 := below1 w (.cells #[.int .u64 (uv a.vh), .int .u64 (uv a.vl), .int .u64 (uv a.ch), .int .u64 (uv a.cl)] 26)
  have Ab0 : Blk (w.alloc (.cells #[.int .u64 (uv a.vh), .int .u64 (uv a.vl), .int .u64 (uv a.ch), .int .u64 (uv a.cl)] 26)) (w.heap.size) 26 #[.int .u64 (uv a.vh), .int .u64 (uv a.vl), .int .u64 (uv a.ch), .int .u64 (uv a.cl)] := Blk.new w _ _
  have L0 : Below w.heap.size w (w.alloc (.cells #[.int .u64 (uv a.vh), .int .u64 (uv a.vl), .int .u64 (uv a.ch), .int .u64 (uv a.cl)] 26)) := bx0
  have bx1 := below1 (w.alloc (.cells #[.int .u64 (uv a.vh), .int .u64 (uv a.vl), .int .u64 (uv a.ch), .int .u64 (uv a.cl)] 26)) (.cells #[.int .u64 (uv b.vh), .int .u64 (uv b.vl), .int .u64 (uv b.ch), .int .u64 (uv b.cl)] 26)
  have Ab1 := Ab0.on bx1
  have Bb1 : Blk ((w.alloc (.cells #[.int .u64 (uv a.vh), .int .u64 (uv a.vl), .int .u64 (uv a.ch), .int .u64 (uv a.cl)] 26)).alloc (.cells #[.int .u64 (uv b.vh), .int .u64 (uv b.vl), .int .u64 (uv b.ch), .int .u64 (uv b.cl)] 26)) (w.heap.size + 1) 26 #[.int .u64 (uv b.vh), .int .u64 (uv b.vl), .int .u64 (uv b.ch), .int .u64 (uv b.cl)] := by have h := Blk.new (w.alloc (.cells #[.int .u64 (uv a.vh), .int .u64 (uv a.vl), .int .u64 (uv a.ch), .int .u64 (uv a.cl)] 26)) 26 #[.int .u64 (uv b.vh), .int .u64 (uv b.vl), .int .u64 (uv b.ch), .int .u64 (uv b.cl)]; simpa only [World.size_alloc] using h
  have L1 : Below w.heap.size w ((w.alloc (.cells #[.int .u64 (uv a.vh), .int .u64 (uv a.vl), .int .u64 (uv a.ch), .int .u64 (uv a.cl)] 26)).alloc (.cells #[.int .u64 (uv b.vh), .int .u64 (uv b.vl), .int .u64 (uv b.ch), .int .u64 (uv b.cl)] 26)) := L0.trans (bx1.mono L0.size)
  have A := Ab1
  have B := Bb1
  have L := L1
  clear bx0 bx1 L0 L1 Ab0 Ab1 Bb1
  have eA := A.four
  have eB := B.four
  go_enter Try.func4, Try.ntmps4
  have hn : a.snd = false ∨ (a.snd = true ∧ b.snd = false) := Or.inl h1
  go_wp2_with fail
  (with_reducible refine (cmeet_f a b _ (met_no hn)).mono ?_)
  rintro e w1 ⟨rfl, hb⟩
  clear eA eB
  replace A := A.on hb
  replace B := B.on hb
  replace L := L.trans (hb.mono L.size)
  clear hb
  have eA := A.four
  have eB := B.four
  go_upto_region 2 with (fail)
  have ltAC : w.heap.size < w1.heap.size := A.lt
  have ltBC : w.heap.size + 1 < w1.heap.size := B.lt
  have hb := below1 w1 (.cells #[.int .u64 0, .int .u64 0, .int .u64 0, .int .u64 0] 26)
  clear eA eB
  replace A := A.on hb
  replace B := B.on hb
  replace L := L.trans (hb.mono L.size)
  have C : Blk (w1.alloc (.cells #[.int .u64 0, .int .u64 0, .int .u64 0, .int .u64 0] 26)) w1.heap.size 26 #[.int .u64 0, .int .u64 0, .int .u64 0, .int .u64 0] := Blk.new w1 _ _
  clear hb
  generalize (w1.alloc (.cells #[.int .u64 0, .int .u64 0, .int .u64 0, .int .u64 0] 26)) = w2 at L A B C ⊢
  have eA := A.four
  have eB := B.four
  have eC := C.four
  go_wp2_with fail
  (with_reducible refine (text_no a _ h1).mono ?_)
  rintro e w3 ⟨rfl, hb⟩
  clear eA eB eC
  replace A := A.on hb
  replace B := B.on hb
  replace C := C.on hb
  replace L := L.trans (hb.mono L.size)
  clear hb
  have eA := A.four
  have eB := B.four
  have eC := C.four
  go_wp2_with fail
  (with_reducible refine (text_s t b _ h2 HT.out).mono ?_)
  rintro e w4 ⟨rfl, hb⟩
  clear eA eB eC
  replace A := A.on hb
  replace B := B.on hb
  replace C := C.on hb
  replace L := L.trans (hb.mono L.size)
  clear hb
  have eA := A.four
  have eB := B.four
  have eC := C.four
  go_wp2_with fail
  (with_reducible refine (awake2_c _).mono ?_)
  rintro e w5 ⟨rfl, hb⟩
  clear eA eB eC
  replace A := A.on hb
  replace B := B.on hb
  replace C := C.on hb
  replace L := L.trans (hb.mono L.size)
  clear hb
  have eA := A.four
  have eB := B.four
  have eC := C.four
  go_wp2_with fail
  (with_reducible refine (cwithin _ a b _ (wit_no hn)).mono ?_)
  rintro e w6 ⟨rfl, hb⟩
  clear eA eB eC
  replace A := A.on hb
  replace B := B.on hb
  replace C := C.on hb
  replace L := L.trans (hb.mono L.size)
  clear hb
  have eA := A.four
  have eB := B.four
  have eC := C.four
  go_wp2_with fail
  (with_reducible refine (cless_no a b _ hn).mono ?_)
  rintro e w7 ⟨rfl, hb⟩
  clear eA eB eC
  replace A := A.on hb
  replace B := B.on hb
  replace C := C.on hb
  replace L := L.trans (hb.mono L.size)
  clear hb
  have eA := A.four
  have eB := B.four
  have eC := C.four
  go_wp2
  go_ret
  exact ⟨rfl, L⟩

set_option maxHeartbeats 4000000 in
theorem meets_yn (a b : Cb) (w : World) (h1 : a.snd = true) (h2 : b.snd = false) (s : ByteArray) (HS : Hid (txt a = s)) :
    Calls Try.prog 4 #[.agg #[.int .u64 (uv a.vh), .int .u64 (uv a.vl), .int .u64 (uv a.ch), .int .u64 (uv a.cl)], .agg #[.int .u64 (uv b.vh), .int .u64 (uv b.vl), .int .u64 (uv b.ch), .int .u64 (uv b.cl)]] w fun e w' => e = .returned (.bool true) ∧ Below w.heap.size w w' := by
  have bx0 := below1 w (.cells #[.int .u64 (uv a.vh), .int .u64 (uv a.vl), .int .u64 (uv a.ch), .int .u64 (uv a.cl)] 26)
  have Ab0 : Blk (w.alloc (.cells #[.int .u64 (uv a.vh), .int .u64 (uv a.vl), .int .u64 (uv a.ch), .int .u64 (uv a.cl)] 26)) (w.heap.size) 26 #[.int .u64 (uv a.vh), .int .u64 (uv a.vl), .int .u64 (uv a.ch), .int .u64 (uv a.cl)] := Blk.new w _ _
  have L0 : Below w.heap.size w (w.alloc (.cells #[.int .u64 (uv a.vh), .int .u64 (uv a.vl), .int .u64 (uv a.ch), .int .u64 (uv a.cl)] 26)) := bx0
  have bx1 := below1 (w.alloc (.cells #[.int .u64 (uv a.vh), .int .u64 (uv a.vl), .int .u64 (uv a.ch), .int .u64 (uv a.cl)] 26)) (.cells #[.int .u64 (uv b.vh), .int .u64 (uv b.vl), .int .u64 (uv b.ch), .int .u64 (uv b.cl)] 26)
  have Ab1 := Ab0.on bx1
  have Bb1 : Blk ((w.alloc (.cells #[.int .u64 (uv a.vh), .int .u64 (uv a.vl), .int .u64 (uv a.ch), .int .u64 (uv a.cl)] 26)).alloc (.cells #[.int .u64 (uv b.vh), .int .u64 (uv b.vl), .int .u64 (uv b.ch), .int .u64 (uv b.cl)] 26)) (w.heap.size + 1) 26 #[.int .u64 (uv b.vh), .int .u64 (uv b.vl), .int .u64 (uv b.ch), .int .u64 (uv b.cl)] := by have h := Blk.new (w.alloc (.cells #[.int .u64 (uv a.vh), .int .u64 (uv a.vl), .int .u64 (uv a.ch), .int .u64 (uv a.cl)] 26)) 26 #[.int .u64 (uv b.vh), .int .u64 (uv b.vl), .int .u64 (uv b.ch), .int .u64 (uv b.cl)]; simpa only [World.size_alloc] using h
  have L1 : Below w.heap.size w ((w.alloc (.cells #[.int .u64 (uv a.vh), .int .u64 (uv a.vl), .int .u64 (uv a.ch), .int .u64 (uv a.cl)] 26)).alloc (.cells #[.int .u64 (uv b.vh), .int .u64 (uv b.vl), .int .u64 (uv b.ch), .int .u64 (uv b.cl)] 26)) := L0.trans (bx1.mono L0.size)
  have A := Ab1
  have B := Bb1
  have L := L1
  clear bx0 bx1 L0 L1 Ab0 Ab1 Bb1
  have eA := A.four
  have eB := B.four
  go_enter Try.func4, Try.ntmps4
  have hn : a.snd = false ∨ (a.snd = true ∧ b.snd = false) := Or.inr ⟨h1, h2⟩
  go_wp2_with fail
  (with_reducible refine (cmeet_f a b _ (met_no hn)).mono ?_)
  rintro e w1 ⟨rfl, hb⟩
  clear eA eB
  replace A := A.on hb
  replace B := B.on hb
  replace L := L.trans (hb.mono L.size)
  clear hb
  have eA := A.four
  have eB := B.four
  go_upto_region 2 with (fail)
  have ltAC : w.heap.size < w1.heap.size := A.lt
  have ltBC : w.heap.size + 1 < w1.heap.size := B.lt
  have hb := below1 w1 (.cells #[.int .u64 0, .int .u64 0, .int .u64 0, .int .u64 0] 26)
  clear eA eB
  replace A := A.on hb
  replace B := B.on hb
  replace L := L.trans (hb.mono L.size)
  have C : Blk (w1.alloc (.cells #[.int .u64 0, .int .u64 0, .int .u64 0, .int .u64 0] 26)) w1.heap.size 26 #[.int .u64 0, .int .u64 0, .int .u64 0, .int .u64 0] := Blk.new w1 _ _
  clear hb
  generalize (w1.alloc (.cells #[.int .u64 0, .int .u64 0, .int .u64 0, .int .u64 0] 26)) = w2 at L A B C ⊢
  have eA := A.four
  have eB := B.four
  have eC := C.four
  go_wp2_with fail
  (with_reducible refine (text_s s a _ h1 HS.out).mono ?_)
  rintro e w3 ⟨rfl, hb⟩
  clear eA eB eC
  replace A := A.on hb
  replace B := B.on hb
  replace C := C.on hb
  replace L := L.trans (hb.mono L.size)
  clear hb
  have eA := A.four
  have eB := B.four
  have eC := C.four
  go_wp2_with fail
  (with_reducible refine (text_no b _ h2).mono ?_)
  rintro e w4 ⟨rfl, hb⟩
  clear eA eB eC
  replace A := A.on hb
  replace B := B.on hb
  replace C := C.on hb
  replace L := L.trans (hb.mono L.size)
  clear hb
  have eA := A.four
  have eB := B.four
  have eC := C.four
  go_wp2_with fail
  (with_reducible refine (awake2_c _).mono ?_)
  rintro e w5 ⟨rfl, hb⟩
  clear eA eB eC
  replace A := A.on hb
  replace B := B.on hb
  replace C := C.on hb
  replace L := L.trans (hb.mono L.size)
  clear hb
  have eA := A.four
  have eB := B.four
  have eC := C.four
  go_wp2_with fail
  (with_reducible refine (cwithin _ a b _ (wit_no hn)).mono ?_)
  rintro e w6 ⟨rfl, hb⟩
  clear eA eB eC
  replace A := A.on hb
  replace B := B.on hb
  replace C := C.on hb
  replace L := L.trans (hb.mono L.size)
  clear hb
  have eA := A.four
  have eB := B.four
  have eC := C.four
  go_wp2_with fail
  (with_reducible refine (cless_no a b _ hn).mono ?_)
  rintro e w7 ⟨rfl, hb⟩
  clear eA eB eC
  replace A := A.on hb
  replace B := B.on hb
  replace C := C.on hb
  replace L := L.trans (hb.mono L.size)
  clear hb
  have eA := A.four
  have eB := B.four
  have eC := C.four
  go_wp2
  go_ret
  exact ⟨rfl, L⟩

set_option maxHeartbeats 4000000 in
theorem meets_tf (a b : Cb) (w : World) (h1 : a.snd = true) (h2 : b.snd = true) (s : ByteArray) (HS : Hid (txt a = s)) (t : ByteArray) (HT : Hid (txt b = t)) (r : ByteArray) (HR : Hid (txt (a.join b) = r)) (hg : a.agr b = true) (hm : a.met b = true) (hx : a.wit b = false) :
    Calls Try.prog 4 #[.agg #[.int .u64 (uv a.vh), .int .u64 (uv a.vl), .int .u64 (uv a.ch), .int .u64 (uv a.cl)], .agg #[.int .u64 (uv b.vh), .int .u64 (uv b.vl), .int .u64 (uv b.ch), .int .u64 (uv b.cl)]] w fun e w' => e = .returned (.bool true) ∧ Below w.heap.size w w' := by
  have bx0 := below1 w (.cells #[.int .u64 (uv a.vh), .int .u64 (uv a.vl), .int .u64 (uv a.ch), .int .u64 (uv a.cl)] 26)
  have Ab0 : Blk (w.alloc (.cells #[.int .u64 (uv a.vh), .int .u64 (uv a.vl), .int .u64 (uv a.ch), .int .u64 (uv a.cl)] 26)) (w.heap.size) 26 #[.int .u64 (uv a.vh), .int .u64 (uv a.vl), .int .u64 (uv a.ch), .int .u64 (uv a.cl)] := Blk.new w _ _
  have L0 : Below w.heap.size w (w.alloc (.cells #[.int .u64 (uv a.vh), .int .u64 (uv a.vl), .int .u64 (uv a.ch), .int .u64 (uv a.cl)] 26)) := bx0
  have bx1 := below1 (w.alloc (.cells #[.int .u64 (uv a.vh), .int .u64 (uv a.vl), .int .u64 (uv a.ch), .int .u64 (uv a.cl)] 26)) (.cells #[.int .u64 (uv b.vh), .int .u64 (uv b.vl), .int .u64 (uv b.ch), .int .u64 (uv b.cl)] 26)
  have Ab1 := Ab0.on bx1
  have Bb1 : Blk ((w.alloc (.cells #[.int .u64 (uv a.vh), .int .u64 (uv a.vl), .int .u64 (uv a.ch), .int .u64 (uv a.cl)] 26)).alloc (.cells #[.int .u64 (uv b.vh), .int .u64 (uv b.vl), .int .u64 (uv b.ch), .int .u64 (uv b.cl)] 26)) (w.heap.size + 1) 26 #[.int .u64 (uv b.vh), .int .u64 (uv b.vl), .int .u64 (uv b.ch), .int .u64 (uv b.cl)] := by have h := Blk.new (w.alloc (.cells #[.int .u64 (uv a.vh), .int .u64 (uv a.vl), .int .u64 (uv a.ch), .int .u64 (uv a.cl)] 26)) 26 #[.int .u64 (uv b.vh), .int .u64 (uv b.vl), .int .u64 (uv b.ch), .int .u64 (uv b.cl)]; simpa only [World.size_alloc] using h
  have L1 : Below w.heap.size w ((w.alloc (.cells #[.int .u64 (uv a.vh), .int .u64 (uv a.vl), .int .u64 (uv a.ch), .int .u64 (uv a.cl)] 26)).alloc (.cells #[.int .u64 (uv b.vh), .int .u64 (uv b.vl), .int .u64 (uv b.ch), .int .u64 (uv b.cl)] 26)) := L0.trans (bx1.mono L0.size)
  have A := Ab1
  have B := Bb1
  have L := L1
  clear bx0 bx1 L0 L1 Ab0 Ab1 Bb1
  have eA := A.four
  have eB := B.four
  go_enter Try.func4, Try.ntmps4
  go_wp2_with fail
  (with_reducible refine (cmeet_t a b _ hm).mono ?_)
  rintro e w1 ⟨rfl, hb⟩
  clear eA eB
  replace A := A.on hb
  replace B := B.on hb
  replace L := L.trans (hb.mono L.size)
  clear hb
  have eA := A.four
  have eB := B.four
  go_upto_region 2 with (fail)
  have ltAC : w.heap.size < w1.heap.size := A.lt
  have ltBC : w.heap.size + 1 < w1.heap.size := B.lt
  have hb := below1 w1 (.cells #[.int .u64 (uv (a.vh ||| b.vh)), .int .u64 (uv (a.vl ||| b.vl)), .int .u64 (uv (a.ch ||| b.ch)), .int .u64 (uv (a.cl ||| b.cl))] 26)
  clear eA eB
  replace A := A.on hb
  replace B := B.on hb
  replace L := L.trans (hb.mono L.size)
  have C : Blk (w1.alloc (.cells #[.int .u64 (uv (a.vh ||| b.vh)), .int .u64 (uv (a.vl ||| b.vl)), .int .u64 (uv (a.ch ||| b.ch)), .int .u64 (uv (a.cl ||| b.cl))] 26)) w1.heap.size 26 #[.int .u64 (uv (a.vh ||| b.vh)), .int .u64 (uv (a.vl ||| b.vl)), .int .u64 (uv (a.ch ||| b.ch)), .int .u64 (uv (a.cl ||| b.cl))] := Blk.new w1 _ _
  clear hb
  generalize (w1.alloc (.cells #[.int .u64 (uv (a.vh ||| b.vh)), .int .u64 (uv (a.vl ||| b.vl)), .int .u64 (uv (a.ch ||| b.ch)), .int .u64 (uv (a.cl ||| b.cl))] 26)) = w2 at L A B C ⊢
  have eA := A.four
  have eB := B.four
  have eC := C.four
  go_wp2_with fail
  (with_reducible refine (text_s s a _ h1 HS.out).mono ?_)
  rintro e w3 ⟨rfl, hb⟩
  clear eA eB eC
  replace A := A.on hb
  replace B := B.on hb
  replace C := C.on hb
  replace L := L.trans (hb.mono L.size)
  clear hb
  have eA := A.four
  have eB := B.four
  have eC := C.four
  go_wp2_with fail
  (with_reducible refine (text_s t b _ h2 HT.out).mono ?_)
  rintro e w4 ⟨rfl, hb⟩
  clear eA eB eC
  replace A := A.on hb
  replace B := B.on hb
  replace C := C.on hb
  replace L := L.trans (hb.mono L.size)
  clear hb
  have eA := A.four
  have eB := B.four
  have eC := C.four
  go_wp2_with fail
  (with_reducible refine (rmeet_t s t r a b _ h1 h2 HS.out HT.out hg HR.out).mono ?_)
  rintro e w5 ⟨rfl, hb⟩
  clear eA eB eC
  replace A := A.on hb
  replace B := B.on hb
  replace C := C.on hb
  replace L := L.trans (hb.mono L.size)
  clear hb
  have eA := A.four
  have eB := B.four
  have eC := C.four
  go_wp2_with fail
  (with_reducible refine (cwithin _ a b _ hx).mono ?_)
  rintro e w6 ⟨rfl, hb⟩
  clear eA eB eC
  replace A := A.on hb
  replace B := B.on hb
  replace C := C.on hb
  replace L := L.trans (hb.mono L.size)
  clear hb
  have eA := A.four
  have eB := B.four
  have eC := C.four
  go_wp2_with fail
  (with_reducible refine (rwithin_is _ s t a b _ h1 h2 HS.out HT.out hx).mono ?_)
  rintro e w7 ⟨rfl, hb⟩
  clear eA eB eC
  replace A := A.on hb
  replace B := B.on hb
  replace C := C.on hb
  replace L := L.trans (hb.mono L.size)
  clear hb
  have eA := A.four
  have eB := B.four
  have eC := C.four
  go_upto_region 11 with (fail)
  clear eA eB eC
  have KEEP1 : ∀ u1 u2 : World, Below u1.heap.size u1 u2 → ((Below w.heap.size w u1 ∧ u1.cell? ⟨w.heap.size, 0, none⟩ = some (.int .u64 (uv a.vh)) ∧ u1.cell? ⟨w.heap.size, 1, none⟩ = some (.int .u64 (uv a.vl)) ∧ u1.cell? ⟨w.heap.size, 2, none⟩ = some (.int .u64 (uv a.ch)) ∧ u1.cell? ⟨w.heap.size, 3, none⟩ = some (.int .u64 (uv a.cl)) ∧ u1.cell? ⟨w.heap.size + 1, 0, none⟩ = some (.int .u64 (uv b.vh)) ∧ u1.cell? ⟨w.heap.size + 1, 1, none⟩ = some (.int .u64 (uv b.vl)) ∧ u1.cell? ⟨w.heap.size + 1, 2, none⟩ = some (.int .u64 (uv b.ch)) ∧ u1.cell? ⟨w.heap.size + 1, 3, none⟩ = some (.int .u64 (uv b.cl)) ∧ u1.cell? ⟨w1.heap.size, 0, none⟩ = some (.int .u64 (uv (a.vh ||| b.vh))) ∧ u1.cell? ⟨w1.heap.size, 1, none⟩ = some (.int .u64 (uv (a.vl ||| b.vl))) ∧ u1.cell? ⟨w1.heap.size, 2, none⟩ = some (.int .u64 (uv (a.ch ||| b.ch))) ∧ u1.cell? ⟨w1.heap.size, 3, none⟩ = some (.int .u64 (uv (a.cl ||| b.cl)))) ∧ Blk u1 (w.heap.size) 26 #[.int .u64 (uv a.vh), .int .u64 (uv a.vl), .int .u64 (uv a.ch), .int .u64 (uv a.cl)] ∧ Blk u1 (w.heap.size + 1) 26 #[.int .u64 (uv b.vh), .int .u64 (uv b.vl), .int .u64 (uv b.ch), .int .u64 (uv b.cl)] ∧ Blk u1 (w1.heap.size) 26 #[.int .u64 (uv (a.vh ||| b.vh)), .int .u64 (uv (a.vl ||| b.vl)), .int .u64 (uv (a.ch ||| b.ch)), .int .u64 (uv (a.cl ||| b.cl))]) → ((Below w.heap.size w u2 ∧ u2.cell? ⟨w.heap.size, 0, none⟩ = some (.int .u64 (uv a.vh)) ∧ u2.cell? ⟨w.heap.size, 1, none⟩ = some (.int .u64 (uv a.vl)) ∧ u2.cell? ⟨w.heap.size, 2, none⟩ = some (.int .u64 (uv a.ch)) ∧ u2.cell? ⟨w.heap.size, 3, none⟩ = some (.int .u64 (uv a.cl)) ∧ u2.cell? ⟨w.heap.size + 1, 0, none⟩ = some (.int .u64 (uv b.vh)) ∧ u2.cell? ⟨w.heap.size + 1, 1, none⟩ = some (.int .u64 (uv b.vl)) ∧ u2.cell? ⟨w.heap.size + 1, 2, none⟩ = some (.int .u64 (uv b.ch)) ∧ u2.cell? ⟨w.heap.size + 1, 3, none⟩ = some (.int .u64 (uv b.cl)) ∧ u2.cell? ⟨w1.heap.size, 0, none⟩ = some (.int .u64 (uv (a.vh ||| b.vh))) ∧ u2.cell? ⟨w1.heap.size, 1, none⟩ = some (.int .u64 (uv (a.vl ||| b.vl))) ∧ u2.cell? ⟨w1.heap.size, 2, none⟩ = some (.int .u64 (uv (a.ch ||| b.ch))) ∧ u2.cell? ⟨w1.heap.size, 3, none⟩ = some (.int .u64 (uv (a.cl ||| b.cl)))) ∧ Blk u2 (w.heap.size) 26 #[.int .u64 (uv a.vh), .int .u64 (uv a.vl), .int .u64 (uv a.ch), .int .u64 (uv a.cl)] ∧ Blk u2 (w.heap.size + 1) 26 #[.int .u64 (uv b.vh), .int .u64 (uv b.vl), .int .u64 (uv b.ch), .int .u64 (uv b.cl)] ∧ Blk u2 (w1.heap.size) 26 #[.int .u64 (uv (a.vh ||| b.vh)), .int .u64 (uv (a.vl ||| b.vl)), .int .u64 (uv (a.ch ||| b.ch)), .int .u64 (uv (a.cl ||| b.cl))]) := fun _ _ hb h => ⟨hold12 hb h.1, (h.2.1).on hb, (h.2.2.1).on hb, (h.2.2.2).on hb⟩
  have S0 : (Below w.heap.size w w7 ∧ w7.cell? ⟨w.heap.size, 0, none⟩ = some (.int .u64 (uv a.vh)) ∧ w7.cell? ⟨w.heap.size, 1, none⟩ = some (.int .u64 (uv a.vl)) ∧ w7.cell? ⟨w.heap.size, 2, none⟩ = some (.int .u64 (uv a.ch)) ∧ w7.cell? ⟨w.heap.size, 3, none⟩ = some (.int .u64 (uv a.cl)) ∧ w7.cell? ⟨w.heap.size + 1, 0, none⟩ = some (.int .u64 (uv b.vh)) ∧ w7.cell? ⟨w.heap.size + 1, 1, none⟩ = some (.int .u64 (uv b.vl)) ∧ w7.cell? ⟨w.heap.size + 1, 2, none⟩ = some (.int .u64 (uv b.ch)) ∧ w7.cell? ⟨w.heap.size + 1, 3, none⟩ = some (.int .u64 (uv b.cl)) ∧ w7.cell? ⟨w1.heap.size, 0, none⟩ = some (.int .u64 (uv (a.vh ||| b.vh))) ∧ w7.cell? ⟨w1.heap.size, 1, none⟩ = some (.int .u64 (uv (a.vl ||| b.vl))) ∧ w7.cell? ⟨w1.heap.size, 2, none⟩ = some (.int .u64 (uv (a.ch ||| b.ch))) ∧ w7.cell? ⟨w1.heap.size, 3, none⟩ = some (.int .u64 (uv (a.cl ||| b.cl)))) ∧ Blk w7 (w.heap.size) 26 #[.int .u64 (uv a.vh), .int .u64 (uv a.vl), .int .u64 (uv a.ch), .int .u64 (uv a.cl)] ∧ Blk w7 (w.heap.size + 1) 26 #[.int .u64 (uv b.vh), .int .u64 (uv b.vl), .int .u64 (uv b.ch), .int .u64 (uv b.cl)] ∧ Blk w7 (w1.heap.size) 26 #[.int .u64 (uv (a.vh ||| b.vh)), .int .u64 (uv (a.vl ||| b.vl)), .int .u64 (uv (a.ch ||| b.ch)), .int .u64 (uv (a.cl ||| b.cl))] := ⟨⟨L, A.cell 0, A.cell 1, A.cell 2, A.cell 3, B.cell 0, B.cell 1, B.cell 2, B.cell 3, C.cell 0, C.cell 1, C.cell 2, C.cell 3⟩, A, B, C⟩
  go_region_held3 (fun w' => (Below w.heap.size w w' ∧ w'.cell? ⟨w.heap.size, 0, none⟩ = some (.int .u64 (uv a.vh)) ∧ w'.cell? ⟨w.heap.size, 1, none⟩ = some (.int .u64 (uv a.vl)) ∧ w'.cell? ⟨w.heap.size, 2, none⟩ = some (.int .u64 (uv a.ch)) ∧ w'.cell? ⟨w.heap.size, 3, none⟩ = some (.int .u64 (uv a.cl)) ∧ w'.cell? ⟨w.heap.size + 1, 0, none⟩ = some (.int .u64 (uv b.vh)) ∧ w'.cell? ⟨w.heap.size + 1, 1, none⟩ = some (.int .u64 (uv b.vl)) ∧ w'.cell? ⟨w.heap.size + 1, 2, none⟩ = some (.int .u64 (uv b.ch)) ∧ w'.cell? ⟨w.heap.size + 1, 3, none⟩ = some (.int .u64 (uv b.cl)) ∧ w'.cell? ⟨w1.heap.size, 0, none⟩ = some (.int .u64 (uv (a.vh ||| b.vh))) ∧ w'.cell? ⟨w1.heap.size, 1, none⟩ = some (.int .u64 (uv (a.vl ||| b.vl))) ∧ w'.cell? ⟨w1.heap.size, 2, none⟩ = some (.int .u64 (uv (a.ch ||| b.ch))) ∧ w'.cell? ⟨w1.heap.size, 3, none⟩ = some (.int .u64 (uv (a.cl ||| b.cl)))) ∧ Blk w' (w.heap.size) 26 #[.int .u64 (uv a.vh), .int .u64 (uv a.vl), .int .u64 (uv a.ch), .int .u64 (uv a.cl)] ∧ Blk w' (w.heap.size + 1) 26 #[.int .u64 (uv b.vh), .int .u64 (uv b.vl), .int .u64 (uv b.ch), .int .u64 (uv b.cl)] ∧ Blk w' (w1.heap.size) 26 #[.int .u64 (uv (a.vh ||| b.vh)), .int .u64 (uv (a.vl ||| b.vl)), .int .u64 (uv (a.ch ||| b.ch)), .int .u64 (uv (a.cl ||| b.cl))])
    (first | exact KEEP1 _ _ (by assumption) (by assumption) | exact KEEP1 _ _ (Below.refl _ _).drew S0)
    (first
      | (go_at_call 11; (with_reducible refine (awake2_c _).mono ?_); rintro e wz8 ⟨rfl, hb⟩)
      | (go_at_call 20; (with_reducible refine (rcube_j r a b _ h1 h2 HR.out).mono ?_); rintro e wz8 ⟨rfl, hb⟩))
  clear S0 KEEP1 hb
  rename_i hS
  clear A B C L
  obtain ⟨⟨L, _, _, _, _, _, _, _, _, _, _, _, _⟩, A, B, C⟩ := hS
  have eA := A.four
  have eB := B.four
  have eC := C.four
  go_wp2
  go_ret
  exact ⟨rfl, L⟩

set_option maxHeartbeats 4000000 in
theorem meets_tt (a b : Cb) (w : World) (h1 : a.snd = true) (h2 : b.snd = true) (s : ByteArray) (HS : Hid (txt a = s)) (t : ByteArray) (HT : Hid (txt b = t)) (r : ByteArray) (HR : Hid (txt (a.join b) = r)) (hg : a.agr b = true) (hm : a.met b = true) (hx : a.wit b = true) :
    Calls Try.prog 4 #[.agg #[.int .u64 (uv a.vh), .int .u64 (uv a.vl), .int .u64 (uv a.ch), .int .u64 (uv a.cl)], .agg #[.int .u64 (uv b.vh), .int .u64 (uv b.vl), .int .u64 (uv b.ch), .int .u64 (uv b.cl)]] w fun e w' => e = .returned (.bool true) ∧ Below w.heap.size w w' := by
  have bx0 := below1 w (.cells #[.int .u64 (uv a.vh), .int .u64 (uv a.vl), .int .u64 (uv a.ch), .int .u64 (uv a.cl)] 26)
  have Ab0 : Blk (w.alloc (.cells #[.int .u64 (uv a.vh), .int .u64 (uv a.vl), .int .u64 (uv a.ch), .int .u64 (uv a.cl)] 26)) (w.heap.size) 26 #[.int .u64 (uv a.vh), .int .u64 (uv a.vl), .int .u64 (uv a.ch), .int .u64 (uv a.cl)] := Blk.new w _ _
  have L0 : Below w.heap.size w (w.alloc (.cells #[.int .u64 (uv a.vh), .int .u64 (uv a.vl), .int .u64 (uv a.ch), .int .u64 (uv a.cl)] 26)) := bx0
  have bx1 := below1 (w.alloc (.cells #[.int .u64 (uv a.vh), .int .u64 (uv a.vl), .int .u64 (uv a.ch), .int .u64 (uv a.cl)] 26)) (.cells #[.int .u64 (uv b.vh), .int .u64 (uv b.vl), .int .u64 (uv b.ch), .int .u64 (uv b.cl)] 26)
  have Ab1 := Ab0.on bx1
  have Bb1 : Blk ((w.alloc (.cells #[.int .u64 (uv a.vh), .int .u64 (uv a.vl), .int .u64 (uv a.ch), .int .u64 (uv a.cl)] 26)).alloc (.cells #[.int .u64 (uv b.vh), .int .u64 (uv b.vl), .int .u64 (uv b.ch), .int .u64 (uv b.cl)] 26)) (w.heap.size + 1) 26 #[.int .u64 (uv b.vh), .int .u64 (uv b.vl), .int .u64 (uv b.ch), .int .u64 (uv b.cl)] := by have h := Blk.new (w.alloc (.cells #[.int .u64 (uv a.vh), .int .u64 (uv a.vl), .int .u64 (uv a.ch), .int .u64 (uv a.cl)] 26)) 26 #[.int .u64 (uv b.vh), .int .u64 (uv b.vl), .int .u64 (uv b.ch), .int .u64 (uv b.cl)]; simpa only [World.size_alloc] using h
  have L1 : Below w.heap.size w ((w.alloc (.cells #[.int .u64 (uv a.vh), .int .u64 (uv a.vl), .int .u64 (uv a.ch), .int .u64 (uv a.cl)] 26)).alloc (.cells #[.int .u64 (uv b.vh), .int .u64 (uv b.vl), .int .u64 (uv b.ch), .int .u64 (uv b.cl)] 26)) := L0.trans (bx1.mono L0.size)
  have A := Ab1
  have B := Bb1
  have L := L1
  clear bx0 bx1 L0 L1 Ab0 Ab1 Bb1
  have eA := A.four
  have eB := B.four
  go_enter Try.func4, Try.ntmps4
  go_wp2_with fail
  (with_reducible refine (cmeet_t a b _ hm).mono ?_)
  rintro e w1 ⟨rfl, hb⟩
  clear eA eB
  replace A := A.on hb
  replace B := B.on hb
  replace L := L.trans (hb.mono L.size)
  clear hb
  have eA := A.four
  have eB := B.four
  go_upto_region 2 with (fail)
  have ltAC : w.heap.size < w1.heap.size := A.lt
  have ltBC : w.heap.size + 1 < w1.heap.size := B.lt
  have hb := below1 w1 (.cells #[.int .u64 (uv (a.vh ||| b.vh)), .int .u64 (uv (a.vl ||| b.vl)), .int .u64 (uv (a.ch ||| b.ch)), .int .u64 (uv (a.cl ||| b.cl))] 26)
  clear eA eB
  replace A := A.on hb
  replace B := B.on hb
  replace L := L.trans (hb.mono L.size)
  have C : Blk (w1.alloc (.cells #[.int .u64 (uv (a.vh ||| b.vh)), .int .u64 (uv (a.vl ||| b.vl)), .int .u64 (uv (a.ch ||| b.ch)), .int .u64 (uv (a.cl ||| b.cl))] 26)) w1.heap.size 26 #[.int .u64 (uv (a.vh ||| b.vh)), .int .u64 (uv (a.vl ||| b.vl)), .int .u64 (uv (a.ch ||| b.ch)), .int .u64 (uv (a.cl ||| b.cl))] := Blk.new w1 _ _
  clear hb
  generalize (w1.alloc (.cells #[.int .u64 (uv (a.vh ||| b.vh)), .int .u64 (uv (a.vl ||| b.vl)), .int .u64 (uv (a.ch ||| b.ch)), .int .u64 (uv (a.cl ||| b.cl))] 26)) = w2 at L A B C ⊢
  have eA := A.four
  have eB := B.four
  have eC := C.four
  go_wp2_with fail
  (with_reducible refine (text_s s a _ h1 HS.out).mono ?_)
  rintro e w3 ⟨rfl, hb⟩
  clear eA eB eC
  replace A := A.on hb
  replace B := B.on hb
  replace C := C.on hb
  replace L := L.trans (hb.mono L.size)
  clear hb
  have eA := A.four
  have eB := B.four
  have eC := C.four
  go_wp2_with fail
  (with_reducible refine (text_s t b _ h2 HT.out).mono ?_)
  rintro e w4 ⟨rfl, hb⟩
  clear eA eB eC
  replace A := A.on hb
  replace B := B.on hb
  replace C := C.on hb
  replace L := L.trans (hb.mono L.size)
  clear hb
  have eA := A.four
  have eB := B.four
  have eC := C.four
  go_wp2_with fail
  (with_reducible refine (rmeet_t s t r a b _ h1 h2 HS.out HT.out hg HR.out).mono ?_)
  rintro e w5 ⟨rfl, hb⟩
  clear eA eB eC
  replace A := A.on hb
  replace B := B.on hb
  replace C := C.on hb
  replace L := L.trans (hb.mono L.size)
  clear hb
  have eA := A.four
  have eB := B.four
  have eC := C.four
  go_wp2_with fail
  (with_reducible refine (cwithin _ a b _ hx).mono ?_)
  rintro e w6 ⟨rfl, hb⟩
  clear eA eB eC
  replace A := A.on hb
  replace B := B.on hb
  replace C := C.on hb
  replace L := L.trans (hb.mono L.size)
  clear hb
  have eA := A.four
  have eB := B.four
  have eC := C.four
  go_wp2_with fail
  (with_reducible refine (rwithin_is _ s t a b _ h1 h2 HS.out HT.out hx).mono ?_)
  rintro e w7 ⟨rfl, hb⟩
  clear eA eB eC
  replace A := A.on hb
  replace B := B.on hb
  replace C := C.on hb
  replace L := L.trans (hb.mono L.size)
  clear hb
  have eA := A.four
  have eB := B.four
  have eC := C.four
  go_upto_region 11 with (fail)
  clear eA eB eC
  have KEEP1 : ∀ u1 u2 : World, Below u1.heap.size u1 u2 → ((Below w.heap.size w u1 ∧ u1.cell? ⟨w.heap.size, 0, none⟩ = some (.int .u64 (uv a.vh)) ∧ u1.cell? ⟨w.heap.size, 1, none⟩ = some (.int .u64 (uv a.vl)) ∧ u1.cell? ⟨w.heap.size, 2, none⟩ = some (.int .u64 (uv a.ch)) ∧ u1.cell? ⟨w.heap.size, 3, none⟩ = some (.int .u64 (uv a.cl)) ∧ u1.cell? ⟨w.heap.size + 1, 0, none⟩ = some (.int .u64 (uv b.vh)) ∧ u1.cell? ⟨w.heap.size + 1, 1, none⟩ = some (.int .u64 (uv b.vl)) ∧ u1.cell? ⟨w.heap.size + 1, 2, none⟩ = some (.int .u64 (uv b.ch)) ∧ u1.cell? ⟨w.heap.size + 1, 3, none⟩ = some (.int .u64 (uv b.cl)) ∧ u1.cell? ⟨w1.heap.size, 0, none⟩ = some (.int .u64 (uv (a.vh ||| b.vh))) ∧ u1.cell? ⟨w1.heap.size, 1, none⟩ = some (.int .u64 (uv (a.vl ||| b.vl))) ∧ u1.cell? ⟨w1.heap.size, 2, none⟩ = some (.int .u64 (uv (a.ch ||| b.ch))) ∧ u1.cell? ⟨w1.heap.size, 3, none⟩ = some (.int .u64 (uv (a.cl ||| b.cl)))) ∧ Blk u1 (w.heap.size) 26 #[.int .u64 (uv a.vh), .int .u64 (uv a.vl), .int .u64 (uv a.ch), .int .u64 (uv a.cl)] ∧ Blk u1 (w.heap.size + 1) 26 #[.int .u64 (uv b.vh), .int .u64 (uv b.vl), .int .u64 (uv b.ch), .int .u64 (uv b.cl)] ∧ Blk u1 (w1.heap.size) 26 #[.int .u64 (uv (a.vh ||| b.vh)), .int .u64 (uv (a.vl ||| b.vl)), .int .u64 (uv (a.ch ||| b.ch)), .int .u64 (uv (a.cl ||| b.cl))]) → ((Below w.heap.size w u2 ∧ u2.cell? ⟨w.heap.size, 0, none⟩ = some (.int .u64 (uv a.vh)) ∧ u2.cell? ⟨w.heap.size, 1, none⟩ = some (.int .u64 (uv a.vl)) ∧ u2.cell? ⟨w.heap.size, 2, none⟩ = some (.int .u64 (uv a.ch)) ∧ u2.cell? ⟨w.heap.size, 3, none⟩ = some (.int .u64 (uv a.cl)) ∧ u2.cell? ⟨w.heap.size + 1, 0, none⟩ = some (.int .u64 (uv b.vh)) ∧ u2.cell? ⟨w.heap.size + 1, 1, none⟩ = some (.int .u64 (uv b.vl)) ∧ u2.cell? ⟨w.heap.size + 1, 2, none⟩ = some (.int .u64 (uv b.ch)) ∧ u2.cell? ⟨w.heap.size + 1, 3, none⟩ = some (.int .u64 (uv b.cl)) ∧ u2.cell? ⟨w1.heap.size, 0, none⟩ = some (.int .u64 (uv (a.vh ||| b.vh))) ∧ u2.cell? ⟨w1.heap.size, 1, none⟩ = some (.int .u64 (uv (a.vl ||| b.vl))) ∧ u2.cell? ⟨w1.heap.size, 2, none⟩ = some (.int .u64 (uv (a.ch ||| b.ch))) ∧ u2.cell? ⟨w1.heap.size, 3, none⟩ = some (.int .u64 (uv (a.cl ||| b.cl)))) ∧ Blk u2 (w.heap.size) 26 #[.int .u64 (uv a.vh), .int .u64 (uv a.vl), .int .u64 (uv a.ch), .int .u64 (uv a.cl)] ∧ Blk u2 (w.heap.size + 1) 26 #[.int .u64 (uv b.vh), .int .u64 (uv b.vl), .int .u64 (uv b.ch), .int .u64 (uv b.cl)] ∧ Blk u2 (w1.heap.size) 26 #[.int .u64 (uv (a.vh ||| b.vh)), .int .u64 (uv (a.vl ||| b.vl)), .int .u64 (uv (a.ch ||| b.ch)), .int .u64 (uv (a.cl ||| b.cl))]) := fun _ _ hb h => ⟨hold12 hb h.1, (h.2.1).on hb, (h.2.2.1).on hb, (h.2.2.2).on hb⟩
  have S0 : (Below w.heap.size w w7 ∧ w7.cell? ⟨w.heap.size, 0, none⟩ = some (.int .u64 (uv a.vh)) ∧ w7.cell? ⟨w.heap.size, 1, none⟩ = some (.int .u64 (uv a.vl)) ∧ w7.cell? ⟨w.heap.size, 2, none⟩ = some (.int .u64 (uv a.ch)) ∧ w7.cell? ⟨w.heap.size, 3, none⟩ = some (.int .u64 (uv a.cl)) ∧ w7.cell? ⟨w.heap.size + 1, 0, none⟩ = some (.int .u64 (uv b.vh)) ∧ w7.cell? ⟨w.heap.size + 1, 1, none⟩ = some (.int .u64 (uv b.vl)) ∧ w7.cell? ⟨w.heap.size + 1, 2, none⟩ = some (.int .u64 (uv b.ch)) ∧ w7.cell? ⟨w.heap.size + 1, 3, none⟩ = some (.int .u64 (uv b.cl)) ∧ w7.cell? ⟨w1.heap.size, 0, none⟩ = some (.int .u64 (uv (a.vh ||| b.vh))) ∧ w7.cell? ⟨w1.heap.size, 1, none⟩ = some (.int .u64 (uv (a.vl ||| b.vl))) ∧ w7.cell? ⟨w1.heap.size, 2, none⟩ = some (.int .u64 (uv (a.ch ||| b.ch))) ∧ w7.cell? ⟨w1.heap.size, 3, none⟩ = some (.int .u64 (uv (a.cl ||| b.cl)))) ∧ Blk w7 (w.heap.size) 26 #[.int .u64 (uv a.vh), .int .u64 (uv a.vl), .int .u64 (uv a.ch), .int .u64 (uv a.cl)] ∧ Blk w7 (w.heap.size + 1) 26 #[.int .u64 (uv b.vh), .int .u64 (uv b.vl), .int .u64 (uv b.ch), .int .u64 (uv b.cl)] ∧ Blk w7 (w1.heap.size) 26 #[.int .u64 (uv (a.vh ||| b.vh)), .int .u64 (uv (a.vl ||| b.vl)), .int .u64 (uv (a.ch ||| b.ch)), .int .u64 (uv (a.cl ||| b.cl))] := ⟨⟨L, A.cell 0, A.cell 1, A.cell 2, A.cell 3, B.cell 0, B.cell 1, B.cell 2, B.cell 3, C.cell 0, C.cell 1, C.cell 2, C.cell 3⟩, A, B, C⟩
  go_region_held3 (fun w' => (Below w.heap.size w w' ∧ w'.cell? ⟨w.heap.size, 0, none⟩ = some (.int .u64 (uv a.vh)) ∧ w'.cell? ⟨w.heap.size, 1, none⟩ = some (.int .u64 (uv a.vl)) ∧ w'.cell? ⟨w.heap.size, 2, none⟩ = some (.int .u64 (uv a.ch)) ∧ w'.cell? ⟨w.heap.size, 3, none⟩ = some (.int .u64 (uv a.cl)) ∧ w'.cell? ⟨w.heap.size + 1, 0, none⟩ = some (.int .u64 (uv b.vh)) ∧ w'.cell? ⟨w.heap.size + 1, 1, none⟩ = some (.int .u64 (uv b.vl)) ∧ w'.cell? ⟨w.heap.size + 1, 2, none⟩ = some (.int .u64 (uv b.ch)) ∧ w'.cell? ⟨w.heap.size + 1, 3, none⟩ = some (.int .u64 (uv b.cl)) ∧ w'.cell? ⟨w1.heap.size, 0, none⟩ = some (.int .u64 (uv (a.vh ||| b.vh))) ∧ w'.cell? ⟨w1.heap.size, 1, none⟩ = some (.int .u64 (uv (a.vl ||| b.vl))) ∧ w'.cell? ⟨w1.heap.size, 2, none⟩ = some (.int .u64 (uv (a.ch ||| b.ch))) ∧ w'.cell? ⟨w1.heap.size, 3, none⟩ = some (.int .u64 (uv (a.cl ||| b.cl)))) ∧ Blk w' (w.heap.size) 26 #[.int .u64 (uv a.vh), .int .u64 (uv a.vl), .int .u64 (uv a.ch), .int .u64 (uv a.cl)] ∧ Blk w' (w.heap.size + 1) 26 #[.int .u64 (uv b.vh), .int .u64 (uv b.vl), .int .u64 (uv b.ch), .int .u64 (uv b.cl)] ∧ Blk w' (w1.heap.size) 26 #[.int .u64 (uv (a.vh ||| b.vh)), .int .u64 (uv (a.vl ||| b.vl)), .int .u64 (uv (a.ch ||| b.ch)), .int .u64 (uv (a.cl ||| b.cl))])
    (first | exact KEEP1 _ _ (by assumption) (by assumption) | exact KEEP1 _ _ (Below.refl _ _).drew S0)
    (first
      | (go_at_call 11; (with_reducible refine (awake2_c _).mono ?_); rintro e wz8 ⟨rfl, hb⟩)
      | (go_at_call 20; (with_reducible refine (rcube_j r a b _ h1 h2 HR.out).mono ?_); rintro e wz8 ⟨rfl, hb⟩))
  clear S0 KEEP1 hb
  rename_i hS
  clear A B C L
  obtain ⟨⟨L, _, _, _, _, _, _, _, _, _, _, _, _⟩, A, B, C⟩ := hS
  have eA := A.four
  have eB := B.four
  have eC := C.four
  go_wp2
  go_ret
  exact ⟨rfl, L⟩

set_option maxHeartbeats 4000000 in
theorem meets_f (a b : Cb) (w : World) (h1 : a.snd = true) (h2 : b.snd = true) (s : ByteArray) (HS : Hid (txt a = s)) (t : ByteArray) (HT : Hid (txt b = t)) (hg : a.agr b = false) (hm : a.met b = false) (hx : a.wit b = false) :
    Calls Try.prog 4 #[.agg #[.int .u64 (uv a.vh), .int .u64 (uv a.vl), .int .u64 (uv a.ch), .int .u64 (uv a.cl)], .agg #[.int .u64 (uv b.vh), .int .u64 (uv b.vl), .int .u64 (uv b.ch), .int .u64 (uv b.cl)]] w fun e w' => e = .returned (.bool true) ∧ Below w.heap.size w w' := by
  have bx0 := below1 w (.cells #[.int .u64 (uv a.vh), .int .u64 (uv a.vl), .int .u64 (uv a.ch), .int .u64 (uv a.cl)] 26)
  have Ab0 : Blk (w.alloc (.cells #[.int .u64 (uv a.vh), .int .u64 (uv a.vl), .int .u64 (uv a.ch), .int .u64 (uv a.cl)] 26)) (w.heap.size) 26 #[.int .u64 (uv a.vh), .int .u64 (uv a.vl), .int .u64 (uv a.ch), .int .u64 (uv a.cl)] := Blk.new w _ _
  have L0 : Below w.heap.size w (w.alloc (.cells #[.int .u64 (uv a.vh), .int .u64 (uv a.vl), .int .u64 (uv a.ch), .int .u64 (uv a.cl)] 26)) := bx0
  have bx1 := below1 (w.alloc (.cells #[.int .u64 (uv a.vh), .int .u64 (uv a.vl), .int .u64 (uv a.ch), .int .u64 (uv a.cl)] 26)) (.cells #[.int .u64 (uv b.vh), .int .u64 (uv b.vl), .int .u64 (uv b.ch), .int .u64 (uv b.cl)] 26)
  have Ab1 := Ab0.on bx1
  have Bb1 : Blk ((w.alloc (.cells #[.int .u64 (uv a.vh), .int .u64 (uv a.vl), .int .u64 (uv a.ch), .int .u64 (uv a.cl)] 26)).alloc (.cells #[.int .u64 (uv b.vh), .int .u64 (uv b.vl), .int .u64 (uv b.ch), .int .u64 (uv b.cl)] 26)) (w.heap.size + 1) 26 #[.int .u64 (uv b.vh), .int .u64 (uv b.vl), .int .u64 (uv b.ch), .int .u64 (uv b.cl)] := by have h := Blk.new (w.alloc (.cells #[.int .u64 (uv a.vh), .int .u64 (uv a.vl), .int .u64 (uv a.ch), .int .u64 (uv a.cl)] 26)) 26 #[.int .u64 (uv b.vh), .int .u64 (uv b.vl), .int .u64 (uv b.ch), .int .u64 (uv b.cl)]; simpa only [World.size_alloc] using h
  have L1 : Below w.heap.size w ((w.alloc (.cells #[.int .u64 (uv a.vh), .int .u64 (uv a.vl), .int .u64 (uv a.ch), .int .u64 (uv a.cl)] 26)).alloc (.cells #[.int .u64 (uv b.vh), .int .u64 (uv b.vl), .int .u64 (uv b.ch), .int .u64 (uv b.cl)] 26)) := L0.trans (bx1.mono L0.size)
  have A := Ab1
  have B := Bb1
  have L := L1
  clear bx0 bx1 L0 L1 Ab0 Ab1 Bb1
  have eA := A.four
  have eB := B.four
  go_enter Try.func4, Try.ntmps4
  go_wp2_with fail
  (with_reducible refine (cmeet_f a b _ hm).mono ?_)
  rintro e w1 ⟨rfl, hb⟩
  clear eA eB
  replace A := A.on hb
  replace B := B.on hb
  replace L := L.trans (hb.mono L.size)
  clear hb
  have eA := A.four
  have eB := B.four
  go_upto_region 2 with (fail)
  have ltAC : w.heap.size < w1.heap.size := A.lt
  have ltBC : w.heap.size + 1 < w1.heap.size := B.lt
  have hb := below1 w1 (.cells #[.int .u64 0, .int .u64 0, .int .u64 0, .int .u64 0] 26)
  clear eA eB
  replace A := A.on hb
  replace B := B.on hb
  replace L := L.trans (hb.mono L.size)
  have C : Blk (w1.alloc (.cells #[.int .u64 0, .int .u64 0, .int .u64 0, .int .u64 0] 26)) w1.heap.size 26 #[.int .u64 0, .int .u64 0, .int .u64 0, .int .u64 0] := Blk.new w1 _ _
  clear hb
  generalize (w1.alloc (.cells #[.int .u64 0, .int .u64 0, .int .u64 0, .int .u64 0] 26)) = w2 at L A B C ⊢
  have eA := A.four
  have eB := B.four
  have eC := C.four
  go_wp2_with fail
  (with_reducible refine (text_s s a _ h1 HS.out).mono ?_)
  rintro e w3 ⟨rfl, hb⟩
  clear eA eB eC
  replace A := A.on hb
  replace B := B.on hb
  replace C := C.on hb
  replace L := L.trans (hb.mono L.size)
  clear hb
  have eA := A.four
  have eB := B.four
  have eC := C.four
  go_wp2_with fail
  (with_reducible refine (text_s t b _ h2 HT.out).mono ?_)
  rintro e w4 ⟨rfl, hb⟩
  clear eA eB eC
  replace A := A.on hb
  replace B := B.on hb
  replace C := C.on hb
  replace L := L.trans (hb.mono L.size)
  clear hb
  have eA := A.four
  have eB := B.four
  have eC := C.four
  go_wp2_with fail
  (with_reducible refine (rmeet_f s t a b _ h1 h2 HS.out HT.out hg).mono ?_)
  rintro e w5 ⟨rfl, hb⟩
  clear eA eB eC
  replace A := A.on hb
  replace B := B.on hb
  replace C := C.on hb
  replace L := L.trans (hb.mono L.size)
  clear hb
  have eA := A.four
  have eB := B.four
  have eC := C.four
  go_wp2_with fail
  (with_reducible refine (cwithin _ a b _ hx).mono ?_)
  rintro e w6 ⟨rfl, hb⟩
  clear eA eB eC
  replace A := A.on hb
  replace B := B.on hb
  replace C := C.on hb
  replace L := L.trans (hb.mono L.size)
  clear hb
  have eA := A.four
  have eB := B.four
  have eC := C.four
  go_wp2_with fail
  (with_reducible refine (rwithin_is _ s t a b _ h1 h2 HS.out HT.out hx).mono ?_)
  rintro e w7 ⟨rfl, hb⟩
  clear eA eB eC
  replace A := A.on hb
  replace B := B.on hb
  replace C := C.on hb
  replace L := L.trans (hb.mono L.size)
  clear hb
  have eA := A.four
  have eB := B.four
  have eC := C.four
  go_wp2_with fail
  (with_reducible refine (awake2_c _).mono ?_)
  rintro e w8 ⟨rfl, hb⟩
  clear eA eB eC
  replace A := A.on hb
  replace B := B.on hb
  replace C := C.on hb
  replace L := L.trans (hb.mono L.size)
  clear hb
  have eA := A.four
  have eB := B.four
  have eC := C.four
  go_wp2
  go_ret
  exact ⟨rfl, L⟩

theorem meets_c (a b : Cb) (w : World) : Calls Try.prog 4 #[.agg #[.int .u64 (uv a.vh), .int .u64 (uv a.vl), .int .u64 (uv a.ch), .int .u64 (uv a.cl)], .agg #[.int .u64 (uv b.vh), .int .u64 (uv b.vl), .int .u64 (uv b.ch), .int .u64 (uv b.cl)]] w fun e w' => e = .returned (.bool true) ∧ Below w.heap.size w w' := by
  cases h1 : a.snd with
  | false =>
    cases h2 : b.snd with
    | false => exact meets_nn a b w h1 h2
    | true => exact meets_ny a b w h1 h2 _ (Lib.hid rfl)
  | true =>
    cases h2 : b.snd with
    | false => exact meets_yn a b w h1 h2 _ (Lib.hid rfl)
    | true =>
      have hme := met_eq a b h1 h2
      cases hg : a.agr b with
      | true =>
        rw [hg] at hme
        cases hx : a.wit b with
        | false => exact meets_tf a b w h1 h2 _ (Lib.hid rfl) _ (Lib.hid rfl) _ (Lib.hid rfl) hg hme hx
        | true => exact meets_tt a b w h1 h2 _ (Lib.hid rfl) _ (Lib.hid rfl) _ (Lib.hid rfl) hg hme hx
      | false =>
        rw [hg] at hme
        refine meets_f a b w h1 h2 _ (Lib.hid rfl) _ (Lib.hid rfl) hg hme ?_
        cases e : a.wit b with
        | false => rfl
        | true => have := (Cb.agr_iff a b).2 ((Cb.wit_iff a b).1 e).2.2.2; rw [hg] at this; cases this
theorem meets_w (avh avl ach acl bvh bvl bch bcl : BitVec 64) (w : World) : Calls Try.prog 4 #[.agg #[.int .u64 (uv avh), .int .u64 (uv avl), .int .u64 (uv ach), .int .u64 (uv acl)], .agg #[.int .u64 (uv bvh), .int .u64 (uv bvl), .int .u64 (uv bch), .int .u64 (uv bcl)]] w fun e w' => e = .returned (.bool true) ∧ Below w.heap.size w w' :=
  meets_c ⟨avh, avl, ach, acl⟩ ⟨bvh, bvl, bch, bcl⟩ w
end Go.Proofs
