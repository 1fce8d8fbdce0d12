/-
  The law CubeSets returns true for all cubes and headers, and changes nothing that was there. No conditions.
-/
import Derived.Test.YtlhbkiobgppciaaCMeets
import Derived.Test.YtlhbkiobgppciaaRSet
namespace Go.Proofs
open Go.RowKit Go.Proofs.Hd
attribute [local go_sem] uv_nonneg eq4_self eq2_self
attribute [local go_sem high] run_eq2 run_eq4
def Cb.bef (c d : Cb) : Cb := ⟨c.vh &&& (c.ch &&& ~~~d.ch), c.vl &&& (c.cl &&& ~~~d.cl), c.ch &&& ~~~d.ch, c.cl &&& ~~~d.cl⟩
def Cb.aft (c d : Cb) : Cb := ⟨(c.vh &&& ~~~d.ch) ||| (d.vh &&& d.ch), (c.vl &&& ~~~d.cl) ||| (d.vl &&& d.cl), c.ch ||| d.ch, c.cl ||| d.cl⟩
theorem bef_V (c d : Cb) (j : Nat) (hj : j < 128) : (Cb.bef c d).V j = (c.V j && (c.K j && !d.K j)) := by
  unfold Cb.V Cb.bef; dsimp only; rw [hbit_and, hbit_andNot _ _ _ _ _ hj]; rfl
theorem bef_K (c d : Cb) (j : Nat) (hj : j < 128) : (Cb.bef c d).K j = (c.K j && !d.K j) := hbit_andNot _ _ _ _ _ hj
theorem aft_V (c d : Cb) (j : Nat) (hj : j < 128) : (Cb.aft c d).V j = ((c.V j && !d.K j) || (d.V j && d.K j)) := by
  unfold Cb.V Cb.aft; dsimp only; rw [hbit_or, hbit_andNot _ _ _ _ _ hj, hbit_and]; rfl
theorem aft_K (c d : Cb) (j : Nat) : (Cb.aft c d).K j = (c.K j || d.K j) := hbit_or _ _ _ _ _
theorem g_bit (d : Cb) (hh hl : BitVec 64) (j : Nat) (hj : j < 128) : hbit ((hh &&& ~~~d.ch) ||| (d.vh &&& d.ch)) ((hl &&& ~~~d.cl) ||| (d.vl &&& d.cl)) j = ((hbit hh hl j && !d.K j) || (d.V j && d.K j)) := by
  rw [hbit_or, hbit_andNot _ _ _ _ _ hj, hbit_and]; rfl
theorem bef_snd (c d : Cb) : (Cb.bef c d).snd = true := by
  rw [Cb.snd_iff]
  intro j hj h
  rw [bef_V c d j hj] at h
  rw [bef_K c d j hj]
  revert h
  cases c.V j <;> cases c.K j <;> cases d.K j <;> simp
theorem aft_snd (c d : Cb) (hc : c.snd = true) : (Cb.aft c d).snd = true := by
  rw [Cb.snd_iff] at *
  intro j hj h
  rw [aft_V c d j hj] at h
  rw [aft_K]
  have := hc j hj
  revert h this
  cases c.V j <;> cases c.K j <;> cases d.K j <;> cases d.V j <;> simp
theorem bef_has (c d : Cb) (hh hl : BitVec 64) (hc : c.snd = true) (hg : c.agr d = true) : c.has ((hh &&& ~~~d.ch) ||| (d.vh &&& d.ch)) ((hl &&& ~~~d.cl) ||| (d.vl &&& d.cl)) = (Cb.bef c d).has hh hl := by
  rw [Bool.eq_iff_iff, has_match c _ _ hc, has_match _ _ _ (bef_snd c d)]
  rw [Cb.agr_iff] at hg
  constructor
  · intro H j hj hk
    rw [bef_K c d j hj] at hk
    have h1 := H j hj
    rw [g_bit d hh hl j hj] at h1
    rw [bef_V c d j hj]
    revert hk h1
    cases c.V j <;> cases c.K j <;> cases d.K j <;> cases d.V j <;> cases hbit hh hl j <;> simp
  · intro H j hj hk
    have h1 := H j hj
    rw [bef_K c d j hj, bef_V c d j hj] at h1
    have h2 := hg j hj hk
    rw [g_bit d hh hl j hj]
    revert hk h1 h2
    cases c.V j <;> cases c.K j <;> cases d.K j <;> cases d.V j <;> cases hbit hh hl j <;> simp
theorem bef_none (c d : Cb) (hh hl : BitVec 64) (hc : c.snd = true) (hg : c.agr d = false) : c.has ((hh &&& ~~~d.ch) ||| (d.vh &&& d.ch)) ((hl &&& ~~~d.cl) ||| (d.vl &&& d.cl)) = false := by
  cases e : c.has ((hh &&& ~~~d.ch) ||| (d.vh &&& d.ch)) ((hl &&& ~~~d.cl) ||| (d.vl &&& d.cl)) with
  | false => rfl
  | true =>
    have H := (has_match c _ _ hc).1 e
    have : c.agr d = true := (Cb.agr_iff c d).2 (fun j hj h1 h2 => by
      have h3 := H j hj h1
      rw [g_bit d hh hl j hj, h2] at h3
      simpa using h3.symm)
    rw [hg] at this; cases this
theorem aft_has (c d : Cb) (hh hl : BitVec 64) (hc : c.snd = true) (hx : c.has hh hl = true) : (Cb.aft c d).has ((hh &&& ~~~d.ch) ||| (d.vh &&& d.ch)) ((hl &&& ~~~d.cl) ||| (d.vl &&& d.cl)) = true := by
  rw [has_match _ _ _ (aft_snd c d hc)]
  rw [has_match c _ _ hc] at hx
  rw [Cb.snd_iff] at hc
  intro j hj hk
  rw [aft_K] at hk
  rw [g_bit d hh hl j hj, aft_V c d j hj]
  have h1 := hx j hj
  have h2 := hc j hj
  revert hk h1 h2
  cases c.V j <;> cases c.K j <;> cases d.K j <;> cases d.V j <;> cases hbit hh hl j <;> simp
def Cb.zero : Cb := ⟨0#64, 0#64, 0#64, 0#64⟩
theorem zero_snd : Cb.zero.snd = true := by decide +kernel
theorem cbef_t (c d : Cb) (w : World) (h1 : c.snd = true) (h3 : c.agr d = true) : Calls Try.prog 30 #[.agg #[.int .u64 (uv c.vh), .int .u64 (uv c.vl), .int .u64 (uv c.ch), .int .u64 (uv c.cl)], .agg #[.int .u64 (uv d.vh), .int .u64 (uv d.vl), .int .u64 (uv d.ch), .int .u64 (uv d.cl)]] w fun e w' => e = .returned (.tuple #[.agg #[.int .u64 (uv (c.vh &&& (c.ch &&& ~~~d.ch))), .int .u64 (uv (c.vl &&& (c.cl &&& ~~~d.cl))), .int .u64 (uv (c.ch &&& ~~~d.ch)), .int .u64 (uv (c.cl &&& ~~~d.cl))], .bool true]) ∧ Below w.heap.size w w' := before_yes _ _ _ _ _ _ _ _ w h1 h3
theorem cbef_f (c d : Cb) (w : World) (h : c.snd = false ∨ (c.snd = true ∧ c.agr d = false)) : Calls Try.prog 30 #[.agg #[.int .u64 (uv c.vh), .int .u64 (uv c.vl), .int .u64 (uv c.ch), .int .u64 (uv c.cl)], .agg #[.int .u64 (uv d.vh), .int .u64 (uv d.vl), .int .u64 (uv d.ch), .int .u64 (uv d.cl)]] w fun e w' => e = .returned (.tuple #[.agg #[.int .u64 0, .int .u64 0, .int .u64 0, .int .u64 0], .bool false]) ∧ Below w.heap.size w w' := by
  rcases h with h | ⟨h1, h2⟩
  · exact before_no1 _ _ _ _ _ _ _ _ w h
  · exact before_no2 _ _ _ _ _ _ _ _ w h1 h2
theorem caft_t (c d : Cb) (w : World) (h1 : c.snd = true) : Calls Try.prog 31 #[.agg #[.int .u64 (uv c.vh), .int .u64 (uv c.vl), .int .u64 (uv c.ch), .int .u64 (uv c.cl)], .agg #[.int .u64 (uv d.vh), .int .u64 (uv d.vl), .int .u64 (uv d.ch), .int .u64 (uv d.cl)]] w fun e w' => e = .returned (.agg #[.int .u64 (uv ((c.vh &&& ~~~d.ch) ||| (d.vh &&& d.ch))), .int .u64 (uv ((c.vl &&& ~~~d.cl) ||| (d.vl &&& d.cl))), .int .u64 (uv (c.ch ||| d.ch)), .int .u64 (uv (c.cl ||| d.cl))]) ∧ Below w.heap.size w w' := after_yes _ _ _ _ _ _ _ _ w h1
theorem caft_f (c d : Cb) (w : World) (h1 : c.snd = false) : Calls Try.prog 31 #[.agg #[.int .u64 (uv c.vh), .int .u64 (uv c.vl), .int .u64 (uv c.ch), .int .u64 (uv c.cl)], .agg #[.int .u64 (uv d.vh), .int .u64 (uv d.vl), .int .u64 (uv d.ch), .int .u64 (uv d.cl)]] w fun e w' => e = .returned (.agg #[.int .u64 0, .int .u64 0, .int .u64 0, .int .u64 0]) ∧ Below w.heap.size w w' := after_no _ _ _ _ _ _ _ _ w h1
theorem text_b (t : ByteArray) (c d : Cb) (w : World) (h : txt (Cb.bef c d) = t) : Calls Try.prog 10 #[.agg #[.int .u64 (uv (c.vh &&& (c.ch &&& ~~~d.ch))), .int .u64 (uv (c.vl &&& (c.cl &&& ~~~d.cl))), .int .u64 (uv (c.ch &&& ~~~d.ch)), .int .u64 (uv (c.cl &&& ~~~d.cl))]] w fun e w' => e = .returned (.tuple #[.string t, .bool true]) ∧ Below w.heap.size w w' := text_s t (Cb.bef c d) w (bef_snd c d) h
theorem text_a (t : ByteArray) (c d : Cb) (w : World) (hc : c.snd = true) (h : txt (Cb.aft c d) = t) : Calls Try.prog 10 #[.agg #[.int .u64 (uv ((c.vh &&& ~~~d.ch) ||| (d.vh &&& d.ch))), .int .u64 (uv ((c.vl &&& ~~~d.cl) ||| (d.vl &&& d.cl))), .int .u64 (uv (c.ch ||| d.ch)), .int .u64 (uv (c.cl ||| d.cl))]] w fun e w' => e = .returned (.tuple #[.string t, .bool true]) ∧ Below w.heap.size w w' := text_s t (Cb.aft c d) w (aft_snd c d hc) h
theorem text_z (t : ByteArray) (w : World) (h : txt Cb.zero = t) : Calls Try.prog 10 #[.agg #[.int .u64 0, .int .u64 0, .int .u64 0, .int .u64 0]] w fun e w' => e = .returned (.tuple #[.string t, .bool true]) ∧ Below w.heap.size w w' := text_s t Cb.zero w zero_snd h
theorem cset (d : Cb) (hh hl : BitVec 64) (w : World) : Calls Try.prog 28 #[.agg #[.int .u64 (uv hh), .int .u64 (uv hl)], .agg #[.int .u64 (uv d.vh), .int .u64 (uv d.vl), .int .u64 (uv d.ch), .int .u64 (uv d.cl)]] w fun e w' => e = .returned (.agg #[.int .u64 (uv ((hh &&& ~~~d.ch) ||| (d.vh &&& d.ch))), .int .u64 (uv ((hl &&& ~~~d.cl) ||| (d.vl &&& d.cl)))]) ∧ Below w.heap.size w w' := set_c _ _ _ _ _ _ w
theorem crset (d : Cb) (hh hl : BitVec 64) (w : World) : Calls Try.prog 29 #[.agg #[.int .u64 (uv hh), .int .u64 (uv hl)], .agg #[.int .u64 (uv d.vh), .int .u64 (uv d.vl), .int .u64 (uv d.ch), .int .u64 (uv d.cl)]] w fun e w' => e = .returned (.agg #[.int .u64 (uv ((hh &&& ~~~d.ch) ||| (d.vh &&& d.ch))), .int .u64 (uv ((hl &&& ~~~d.cl) ||| (d.vl &&& d.cl)))]) ∧ Below w.heap.size w w' := rset_c _ _ _ _ _ _ w
theorem rhas_g (x : Bool) (s : ByteArray) (c d : Cb) (hh hl : BitVec 64) (w : World) (hc : c.snd = true) (hs : txt c = s) (hx : c.has ((hh &&& ~~~d.ch) ||| (d.vh &&& d.ch)) ((hl &&& ~~~d.cl) ||| (d.vl &&& d.cl)) = x) :
    Calls Try.prog 14 #[.string s, .agg #[.int .u64 (uv ((hh &&& ~~~d.ch) ||| (d.vh &&& d.ch))), .int .u64 (uv ((hl &&& ~~~d.cl) ||| (d.vl &&& d.cl)))]] w fun e w' => e = .returned (.bool x) ∧ Below w.heap.size w w' := rhas_is x s c _ _ w hc hs hx
set_option maxHeartbeats 4000000 in
theorem sets_no (c d : Cb) (hh hl : BitVec 64) (w : World) (h1 : c.snd = false) :
    Calls Try.prog 7 #[.agg #[.int .u64 (uv c.vh), .int .u64 (uv c.vl), .int .u64 (uv c.ch), .int .u64 (uv c.cl)], .agg #[.int .u64 (uv d.vh), .int .u64 (uv d.vl), .int .u64 (uv d.ch), .int .u64 (uv d.cl)], .agg #[.int .u64 (uv hh), .int .u64 (uv hl)]] w fun e w' => e = .returned (.bool true) ∧ Below w.heap.size w w' := by
  have bx0 := below1 w (.cells #[.int .u64 (uv c.vh), .int .u64 (uv c.vl), .int .u64 (uv c.ch), .int .u64 (uv c.cl)] 26)
  have Cb0 : Blk (w.alloc (.cells #[.int .u64 (uv c.vh), .int .u64 (uv c.vl), .int .u64 (uv c.ch), .int .u64 (uv c.cl)] 26)) (w.heap.size) 26 #[.int .u64 (uv c.vh), .int .u64 (uv c.vl), .int .u64 (uv c.ch), .int .u64 (uv c.cl)] := Blk.new w _ _
  have L0 : Below w.heap.size w (w.alloc (.cells #[.int .u64 (uv c.vh), .int .u64 (uv c.vl), .int .u64 (uv c.ch), .int .u64 (uv c.cl)] 26)) := bx0
  have bx1 := below1 (w.alloc (.cells #[.int .u64 (uv c.vh), .int .u64 (uv c.vl), .int .u64 (uv c.ch), .int .u64 (uv c.cl)] 26)) (.cells #[.int .u64 (uv d.vh), .int .u64 (uv d.vl), .int .u64 (uv d.ch), .int .u64 (uv d.cl)] 26)
  have Cb1 := Cb0.on bx1
  have Db1 : Blk ((w.alloc (.cells #[.int .u64 (uv c.vh), .int .u64 (uv c.vl), .int .u64 (uv c.ch), .int .u64 (uv c.cl)] 26)).alloc (.cells #[.int .u64 (uv d.vh), .int .u64 (uv d.vl), .int .u64 (uv d.ch), .int .u64 (uv d.cl)] 26)) (w.heap.size + 1) 26 #[.int .u64 (uv d.vh), .int .u64 (uv d.vl), .int .u64 (uv d.ch), .int .u64 (uv d.cl)] := by have h := Blk.new (w.alloc (.cells #[.int .u64 (uv c.vh), .int .u64 (uv c.vl), .int .u64 (uv c.ch), .int .u64 (uv c.cl)] 26)) 26 #[.int .u64 (uv d.vh), .int .u64 (uv d.vl), .int .u64 (uv d.ch), .int .u64 (uv d.cl)]; simpa only [World.size_alloc] using h
  have L1 : Below w.heap.size w ((w.alloc (.cells #[.int .u64 (uv c.vh), .int .u64 (uv c.vl), .int .u64 (uv c.ch), .int .u64 (uv c.cl)] 26)).alloc (.cells #[.int .u64 (uv d.vh), .int .u64 (uv d.vl), .int .u64 (uv d.ch), .int .u64 (uv d.cl)] 26)) := L0.trans (bx1.mono L0.size)
  have bx2 := below1 ((w.alloc (.cells #[.int .u64 (uv c.vh), .int .u64 (uv c.vl), .int .u64 (uv c.ch), .int .u64 (uv c.cl)] 26)).alloc (.cells #[.int .u64 (uv d.vh), .int .u64 (uv d.vl), .int .u64 (uv d.ch), .int .u64 (uv d.cl)] 26)) (.cells #[.int .u64 (uv hh), .int .u64 (uv hl)] 24)
  have Cb2 := Cb1.on bx2
  have Db2 := Db1.on bx2
  have Hb2 : Blk (((w.alloc (.cells #[.int .u64 (uv c.vh), .int .u64 (uv c.vl), .int .u64 (uv c.ch), .int .u64 (uv c.cl)] 26)).alloc (.cells #[.int .u64 (uv d.vh), .int .u64 (uv d.vl), .int .u64 (uv d.ch), .int .u64 (uv d.cl)] 26)).alloc (.cells #[.int .u64 (uv hh), .int .u64 (uv hl)] 24)) (w.heap.size + 1 + 1) 24 #[.int .u64 (uv hh), .int .u64 (uv hl)] := by have h := Blk.new ((w.alloc (.cells #[.int .u64 (uv c.vh), .int .u64 (uv c.vl), .int .u64 (uv c.ch), .int .u64 (uv c.cl)] 26)).alloc (.cells #[.int .u64 (uv d.vh), .int .u64 (uv d.vl), .int .u64 (uv d.ch), .int .u64 (uv d.cl)] 26)) 24 #[.int .u64 (uv hh), .int .u64 (uv hl)]; simpa only [World.size_alloc] using h
  have L2 : Below w.heap.size w (((w.alloc (.cells #[.int .u64 (uv c.vh), .int .u64 (uv c.vl), .int .u64 (uv c.ch), .int .u64 (uv c.cl)] 26)).alloc (.cells #[.int .u64 (uv d.vh), .int .u64 (uv d.vl), .int .u64 (uv d.ch), .int .u64 (uv d.cl)] 26)).alloc (.cells #[.int .u64 (uv hh), .int .u64 (uv hl)] 24)) := L1.trans (bx2.mono L1.size)
  have C := Cb2
  have D := Db2
  have H := Hb2
  have L := L2
  clear bx0 bx1 bx2 L0 L1 L2 Cb0 Cb1 Cb2 Db1 Db2 Hb2
  have eC := C.four
  have eD := D.four
  have eH := H.pair
  go_enter Try.func7, Try.ntmps7
  go_wp2_with fail
  (with_reducible refine (cset d hh hl _).mono ?_)
  rintro e w1 ⟨rfl, hb⟩
  clear eC eD eH
  replace C := C.on hb
  replace D := D.on hb
  replace H := H.on hb
  replace L := L.trans (hb.mono L.size)
  clear hb
  have eC := C.four
  have eD := D.four
  have eH := H.pair
  go_upto_region 2 with (fail)
  have ltCO : w.heap.size < w1.heap.size := C.lt
  have ltDO : w.heap.size + 1 < w1.heap.size := D.lt
  have ltHO : w.heap.size + 1 + 1 < w1.heap.size := H.lt
  have hb := below1 w1 (.cells #[.int .u64 (uv ((hh &&& ~~~d.ch) ||| (d.vh &&& d.ch))), .int .u64 (uv ((hl &&& ~~~d.cl) ||| (d.vl &&& d.cl)))] 24)
  clear eC eD eH
  replace C := C.on hb
  replace D := D.on hb
  replace H := H.on hb
  replace L := L.trans (hb.mono L.size)
  have O : Blk (w1.alloc (.cells #[.int .u64 (uv ((hh &&& ~~~d.ch) ||| (d.vh &&& d.ch))), .int .u64 (uv ((hl &&& ~~~d.cl) ||| (d.vl &&& d.cl)))] 24)) w1.heap.size 24 #[.int .u64 (uv ((hh &&& ~~~d.ch) ||| (d.vh &&& d.ch))), .int .u64 (uv ((hl &&& ~~~d.cl) ||| (d.vl &&& d.cl)))] := Blk.new w1 _ _
  clear hb
  generalize (w1.alloc (.cells #[.int .u64 (uv ((hh &&& ~~~d.ch) ||| (d.vh &&& d.ch))), .int .u64 (uv ((hl &&& ~~~d.cl) ||| (d.vl &&& d.cl)))] 24)) = w2 at L C D H O ⊢
  have eC := C.four
  have eD := D.four
  have eH := H.pair
  have eO := O.pair
  go_wp2_with fail
  clear eC eD eH eO
  have KEEP1 : ∀ u1 u2 : World, Below u1.heap.size u1 u2 → ((Below w.heap.size w u1 ∧ u1.cell? ⟨w.heap.size, 0, none⟩ = some (.int .u64 (uv c.vh)) ∧ u1.cell? ⟨w.heap.size, 1, none⟩ = some (.int .u64 (uv c.vl)) ∧ u1.cell? ⟨w.heap.size, 2, none⟩ = some (.int .u64 (uv c.ch)) ∧ u1.cell? ⟨w.heap.size, 3, none⟩ = some (.int .u64 (uv c.cl)) ∧ u1.cell? ⟨w.heap.size + 1, 0, none⟩ = some (.int .u64 (uv d.vh)) ∧ u1.cell? ⟨w.heap.size + 1, 1, none⟩ = some (.int .u64 (uv d.vl)) ∧ u1.cell? ⟨w.heap.size + 1, 2, none⟩ = some (.int .u64 (uv d.ch)) ∧ u1.cell? ⟨w.heap.size + 1, 3, none⟩ = some (.int .u64 (uv d.cl)) ∧ u1.cell? ⟨w.heap.size + 1 + 1, 0, none⟩ = some (.int .u64 (uv hh)) ∧ u1.cell? ⟨w.heap.size + 1 + 1, 1, none⟩ = some (.int .u64 (uv hl)) ∧ u1.cell? ⟨w1.heap.size, 0, none⟩ = some (.int .u64 (uv ((hh &&& ~~~d.ch) ||| (d.vh &&& d.ch)))) ∧ u1.cell? ⟨w1.heap.size, 1, none⟩ = some (.int .u64 (uv ((hl &&& ~~~d.cl) ||| (d.vl &&& d.cl))))) ∧ Blk u1 (w.heap.size) 26 #[.int .u64 (uv c.vh), .int .u64 (uv c.vl), .int .u64 (uv c.ch), .int .u64 (uv c.cl)] ∧ Blk u1 (w.heap.size + 1) 26 #[.int .u64 (uv d.vh), .int .u64 (uv d.vl), .int .u64 (uv d.ch), .int .u64 (uv d.cl)] ∧ Blk u1 (w.heap.size + 1 + 1) 24 #[.int .u64 (uv hh), .int .u64 (uv hl)] ∧ Blk u1 (w1.heap.size) 24 #[.int .u64 (uv ((hh &&& ~~~d.ch) ||| (d.vh &&& d.ch))), .int .u64 (uv ((hl &&& ~~~d.cl) ||| (d.vl &&& d.cl)))]) → ((Below w.heap.size w u2 ∧ u2.cell? ⟨w.heap.size, 0, none⟩ = some (.int .u64 (uv c.vh)) ∧ u2.cell? ⟨w.heap.size, 1, none⟩ = some (.int .u64 (uv c.vl)) ∧ u2.cell? ⟨w.heap.size, 2, none⟩ = some (.int .u64 (uv c.ch)) ∧ u2.cell? ⟨w.heap.size, 3, none⟩ = some (.int .u64 (uv c.cl)) ∧ u2.cell? ⟨w.heap.size + 1, 0, none⟩ = some (.int .u64 (uv d.vh)) ∧ u2.cell? ⟨w.heap.size + 1, 1, none⟩ = some (.int .u64 (uv d.vl)) ∧ u2.cell? ⟨w.heap.size + 1, 2, none⟩ = some (.int .u64 (uv d.ch)) ∧ u2.cell? ⟨w.heap.size + 1, 3, none⟩ = some (.int .u64 (uv d.cl)) ∧ u2.cell? ⟨w.heap.size + 1 + 1, 0, none⟩ = some (.int .u64 (uv hh)) ∧ u2.cell? ⟨w.heap.size + 1 + 1, 1, none⟩ = some (.int .u64 (uv hl)) ∧ u2.cell? ⟨w1.heap.size, 0, none⟩ = some (.int .u64 (uv ((hh &&& ~~~d.ch) ||| (d.vh &&& d.ch)))) ∧ u2.cell? ⟨w1.heap.size, 1, none⟩ = some (.int .u64 (uv ((hl &&& ~~~d.cl) ||| (d.vl &&& d.cl))))) ∧ Blk u2 (w.heap.size) 26 #[.int .u64 (uv c.vh), .int .u64 (uv c.vl), .int .u64 (uv c.ch), .int .u64 (uv c.cl)] ∧ Blk u2 (w.heap.size + 1) 26 #[.int .u64 (uv d.vh), .int .u64 (uv d.vl), .int .u64 (uv d.ch), .int .u64 (uv d.cl)] ∧ Blk u2 (w.heap.size + 1 + 1) 24 #[.int .u64 (uv hh), .int .u64 (uv hl)] ∧ Blk u2 (w1.heap.size) 24 #[.int .u64 (uv ((hh &&& ~~~d.ch) ||| (d.vh &&& d.ch))), .int .u64 (uv ((hl &&& ~~~d.cl) ||| (d.vl &&& d.cl)))]) := fun _ _ hb h => ⟨hold12 hb h.1, (h.2.1).on hb, (h.2.2.1).on hb, (h.2.2.2.1).on hb, (h.2.2.2.2).on hb⟩
  have S0 : (Below w.heap.size w w2 ∧ w2.cell? ⟨w.heap.size, 0, none⟩ = some (.int .u64 (uv c.vh)) ∧ w2.cell? ⟨w.heap.size, 1, none⟩ = some (.int .u64 (uv c.vl)) ∧ w2.cell? ⟨w.heap.size, 2, none⟩ = some (.int .u64 (uv c.ch)) ∧ w2.cell? ⟨w.heap.size, 3, none⟩ = some (.int .u64 (uv c.cl)) ∧ w2.cell? ⟨w.heap.size + 1, 0, none⟩ = some (.int .u64 (uv d.vh)) ∧ w2.cell? ⟨w.heap.size + 1, 1, none⟩ = some (.int .u64 (uv d.vl)) ∧ w2.cell? ⟨w.heap.size + 1, 2, none⟩ = some (.int .u64 (uv d.ch)) ∧ w2.cell? ⟨w.heap.size + 1, 3, none⟩ = some (.int .u64 (uv d.cl)) ∧ w2.cell? ⟨w.heap.size + 1 + 1, 0, none⟩ = some (.int .u64 (uv hh)) ∧ w2.cell? ⟨w.heap.size + 1 + 1, 1, none⟩ = some (.int .u64 (uv hl)) ∧ w2.cell? ⟨w1.heap.size, 0, none⟩ = some (.int .u64 (uv ((hh &&& ~~~d.ch) ||| (d.vh &&& d.ch)))) ∧ w2.cell? ⟨w1.heap.size, 1, none⟩ = some (.int .u64 (uv ((hl &&& ~~~d.cl) ||| (d.vl &&& d.cl))))) ∧ Blk w2 (w.heap.size) 26 #[.int .u64 (uv c.vh), .int .u64 (uv c.vl), .int .u64 (uv c.ch), .int .u64 (uv c.cl)] ∧ Blk w2 (w.heap.size + 1) 26 #[.int .u64 (uv d.vh), .int .u64 (uv d.vl), .int .u64 (uv d.ch), .int .u64 (uv d.cl)] ∧ Blk w2 (w.heap.size + 1 + 1) 24 #[.int .u64 (uv hh), .int .u64 (uv hl)] ∧ Blk w2 (w1.heap.size) 24 #[.int .u64 (uv ((hh &&& ~~~d.ch) ||| (d.vh &&& d.ch))), .int .u64 (uv ((hl &&& ~~~d.cl) ||| (d.vl &&& d.cl)))] := ⟨⟨L, C.cell 0, C.cell 1, C.cell 2, C.cell 3, D.cell 0, D.cell 1, D.cell 2, D.cell 3, H.cell 0, H.cell 1, O.cell 0, O.cell 1⟩, C, D, H, O⟩
  go_region_held3 (fun w' => (Below w.heap.size w w' ∧ w'.cell? ⟨w.heap.size, 0, none⟩ = some (.int .u64 (uv c.vh)) ∧ w'.cell? ⟨w.heap.size, 1, none⟩ = some (.int .u64 (uv c.vl)) ∧ w'.cell? ⟨w.heap.size, 2, none⟩ = some (.int .u64 (uv c.ch)) ∧ w'.cell? ⟨w.heap.size, 3, none⟩ = some (.int .u64 (uv c.cl)) ∧ w'.cell? ⟨w.heap.size + 1, 0, none⟩ = some (.int .u64 (uv d.vh)) ∧ w'.cell? ⟨w.heap.size + 1, 1, none⟩ = some (.int .u64 (uv d.vl)) ∧ w'.cell? ⟨w.heap.size + 1, 2, none⟩ = some (.int .u64 (uv d.ch)) ∧ w'.cell? ⟨w.heap.size + 1, 3, none⟩ = some (.int .u64 (uv d.cl)) ∧ w'.cell? ⟨w.heap.size + 1 + 1, 0, none⟩ = some (.int .u64 (uv hh)) ∧ w'.cell? ⟨w.heap.size + 1 + 1, 1, none⟩ = some (.int .u64 (uv hl)) ∧ w'.cell? ⟨w1.heap.size, 0, none⟩ = some (.int .u64 (uv ((hh &&& ~~~d.ch) ||| (d.vh &&& d.ch)))) ∧ w'.cell? ⟨w1.heap.size, 1, none⟩ = some (.int .u64 (uv ((hl &&& ~~~d.cl) ||| (d.vl &&& d.cl))))) ∧ Blk w' (w.heap.size) 26 #[.int .u64 (uv c.vh), .int .u64 (uv c.vl), .int .u64 (uv c.ch), .int .u64 (uv c.cl)] ∧ Blk w' (w.heap.size + 1) 26 #[.int .u64 (uv d.vh), .int .u64 (uv d.vl), .int .u64 (uv d.ch), .int .u64 (uv d.cl)] ∧ Blk w' (w.heap.size + 1 + 1) 24 #[.int .u64 (uv hh), .int .u64 (uv hl)] ∧ Blk w' (w1.heap.size) 24 #[.int .u64 (uv ((hh &&& ~~~d.ch) ||| (d.vh &&& d.ch))), .int .u64 (uv ((hl &&& ~~~d.cl) ||| (d.vl &&& d.cl)))])
    (first | exact KEEP1 _ _ (by assumption) (by assumption) | exact KEEP1 _ _ (Below.refl _ _).drew S0)
    (first
      | (go_at_call 29; (with_reducible refine (crset d hh hl _).mono ?_); rintro e wz3 ⟨rfl, hb⟩))
  clear S0 KEEP1 hb
  rename_i hS
  clear C D H O L
  obtain ⟨⟨L, _, _, _, _, _, _, _, _, _, _, _, _⟩, C, D, H, O⟩ := hS
  have eC := C.four
  have eD := D.four
  have eH := H.pair
  have eO := O.pair
  go_wp2_with fail
  (with_reducible refine (cbef_f c d _ (Or.inl h1)).mono ?_)
  rintro e w4 ⟨rfl, hb⟩
  clear eC eD eH eO
  replace C := C.on hb
  replace D := D.on hb
  replace H := H.on hb
  replace O := O.on hb
  replace L := L.trans (hb.mono L.size)
  clear hb
  have eC := C.four
  have eD := D.four
  have eH := H.pair
  have eO := O.pair
  go_upto_region 5 with (fail)
  have ltCX : w.heap.size < w4.heap.size := C.lt
  have ltDX : w.heap.size + 1 < w4.heap.size := D.lt
  have ltHX : w.heap.size + 1 + 1 < w4.heap.size := H.lt
  have ltOX : w1.heap.size < w4.heap.size := O.lt
  have hb := below1 w4 (.cells #[.int .u64 0, .int .u64 0, .int .u64 0, .int .u64 0] 26)
  clear eC eD eH eO
  replace C := C.on hb
  replace D := D.on hb
  replace H := H.on hb
  replace O := O.on hb
  replace L := L.trans (hb.mono L.size)
  have X : Blk (w4.alloc (.cells #[.int .u64 0, .int .u64 0, .int .u64 0, .int .u64 0] 26)) w4.heap.size 26 #[.int .u64 0, .int .u64 0, .int .u64 0, .int .u64 0] := Blk.new w4 _ _
  clear hb
  generalize (w4.alloc (.cells #[.int .u64 0, .int .u64 0, .int .u64 0, .int .u64 0] 26)) = w5 at L C D H O X ⊢
  have eC := C.four
  have eD := D.four
  have eH := H.pair
  have eO := O.pair
  have eX := X.four
  go_wp2_with fail
  (with_reducible refine (caft_f c d _ h1).mono ?_)
  rintro e w6 ⟨rfl, hb⟩
  clear eC eD eH eO eX
  replace C := C.on hb
  replace D := D.on hb
  replace H := H.on hb
  replace O := O.on hb
  replace X := X.on hb
  replace L := L.trans (hb.mono L.size)
  clear hb
  have eC := C.four
  have eD := D.four
  have eH := H.pair
  have eO := O.pair
  have eX := X.four
  go_upto_region 6 with (fail)
  have ltCY : w.heap.size < w6.heap.size := C.lt
  have ltDY : w.heap.size + 1 < w6.heap.size := D.lt
  have ltHY : w.heap.size + 1 + 1 < w6.heap.size := H.lt
  have ltOY : w1.heap.size < w6.heap.size := O.lt
  have ltXY : w4.heap.size < w6.heap.size := X.lt
  have hb := below1 w6 (.cells #[.int .u64 0, .int .u64 0, .int .u64 0, .int .u64 0] 26)
  clear eC eD eH eO eX
  replace C := C.on hb
  replace D := D.on hb
  replace H := H.on hb
  replace O := O.on hb
  replace X := X.on hb
  replace L := L.trans (hb.mono L.size)
  have Y : Blk (w6.alloc (.cells #[.int .u64 0, .int .u64 0, .int .u64 0, .int .u64 0] 26)) w6.heap.size 26 #[.int .u64 0, .int .u64 0, .int .u64 0, .int .u64 0] := Blk.new w6 _ _
  clear hb
  generalize (w6.alloc (.cells #[.int .u64 0, .int .u64 0, .int .u64 0, .int .u64 0] 26)) = w7 at L C D H O X Y ⊢
  have eC := C.four
  have eD := D.four
  have eH := H.pair
  have eO := O.pair
  have eX := X.four
  have eY := Y.four
  go_wp2_with fail
  (with_reducible refine (text_no c _ h1).mono ?_)
  rintro e w8 ⟨rfl, hb⟩
  clear eC eD eH eO eX eY
  replace C := C.on hb
  replace D := D.on hb
  replace H := H.on hb
  replace O := O.on hb
  replace X := X.on hb
  replace Y := Y.on hb
  replace L := L.trans (hb.mono L.size)
  clear hb
  have eC := C.four
  have eD := D.four
  have eH := H.pair
  have eO := O.pair
  have eX := X.four
  have eY := Y.four
  go_wp2_with fail
  (with_reducible refine (awake2_c _).mono ?_)
  rintro e w9 ⟨rfl, hb⟩
  clear eC eD eH eO eX eY
  replace C := C.on hb
  replace D := D.on hb
  replace H := H.on hb
  replace O := O.on hb
  replace X := X.on hb
  replace Y := Y.on hb
  replace L := L.trans (hb.mono L.size)
  clear hb
  have eC := C.four
  have eD := D.four
  have eH := H.pair
  have eO := O.pair
  have eX := X.four
  have eY := Y.four
  go_wp2
  go_ret
  exact ⟨rfl, L⟩

set_option maxHeartbeats 4000000 in
theorem sets_fff (c d : Cb) (hh hl : BitVec 64) (w : World) (h1 : c.snd = true) (s t r : ByteArray) (HS : Hid (txt c = s)) (HT : Hid (txt (Cb.aft c d) = t)) (HR : Hid (txt Cb.zero = r)) (hg : c.agr d = false) (hx : c.has ((hh &&& ~~~d.ch) ||| (d.vh &&& d.ch)) ((hl &&& ~~~d.cl) ||| (d.vl &&& d.cl)) = false) (hy : c.has hh hl = false) :
    Calls Try.prog 7 #[.agg #[.int .u64 (uv c.vh), .int .u64 (uv c.vl), .int .u64 (uv c.ch), .int .u64 (uv c.cl)], .agg #[.int .u64 (uv d.vh), .int .u64 (uv d.vl), .int .u64 (uv d.ch), .int .u64 (uv d.cl)], .agg #[.int .u64 (uv hh), .int .u64 (uv hl)]] w fun e w' => e = .returned (.bool true) ∧ Below w.heap.size w w' := by
  have bx0 := below1 w (.cells #[.int .u64 (uv c.vh), .int .u64 (uv c.vl), .int .u64 (uv c.ch), .int .u64 (uv c.cl)] 26)
  have Cb0 : Blk (w.alloc (.cells #[.int .u64 (uv c.vh), .int .u64 (uv c.vl), .int .u64 (uv c.ch), .int .u64 (uv c.cl)] 26)) (w.heap.size) 26 #[.int .u64 (uv c.vh), .int .u64 (uv c.vl), .int .u64 (uv c.ch), .int .u64 (uv c.cl)] := Blk.new w _ _
  have L0 : Below w.heap.size w (w.alloc (.cells #[.int .u64 (uv c.vh), .int .u64 (uv c.vl), .int .u64 (uv c.ch), .int .u64 (uv c.cl)] 26)) := bx0
  have bx1 := below1 (w.alloc (.cells #[.int .u64 (uv c.vh), .int .u64 (uv c.vl), .int .u64 (uv c.ch), .int .u64 (uv c.cl)] 26)) (.cells #[.int .u64 (uv d.vh), .int .u64 (uv d.vl), .int .u64 (uv d.ch), .int .u64 (uv d.cl)] 26)
  have Cb1 := Cb0.on bx1
  have Db1 : Blk ((w.alloc (.cells #[.int .u64 (uv c.vh), .int .u64 (uv c.vl), .int .u64 (uv c.ch), .int .u64 (uv c.cl)] 26)).alloc (.cells #[.int .u64 (uv d.vh), .int .u64 (uv d.vl), .int .u64 (uv d.ch), .int .u64 (uv d.cl)] 26)) (w.heap.size + 1) 26 #[.int .u64 (uv d.vh), .int .u64 (uv d.vl), .int .u64 (uv d.ch), .int .u64 (uv d.cl)] := by have h := Blk.new (w.alloc (.cells #[.int .u64 (uv c.vh), .int .u64 (uv c.vl), .int .u64 (uv c.ch), .int .u64 (uv c.cl)] 26)) 26 #[.int .u64 (uv d.vh), .int .u64 (uv d.vl), .int .u64 (uv d.ch), .int .u64 (uv d.cl)]; simpa only [World.size_alloc] using h
  have L1 : Below w.heap.size w ((w.alloc (.cells #[.int .u64 (uv c.vh), .int .u64 (uv c.vl), .int .u64 (uv c.ch), .int .u64 (uv c.cl)] 26)).alloc (.cells #[.int .u64 (uv d.vh), .int .u64 (uv d.vl), .int .u64 (uv d.ch), .int .u64 (uv d.cl)] 26)) := L0.trans (bx1.mono L0.size)
  have bx2 := below1 ((w.alloc (.cells #[.int .u64 (uv c.vh), .int .u64 (uv c.vl), .int .u64 (uv c.ch), .int .u64 (uv c.cl)] 26)).alloc (.cells #[.int .u64 (uv d.vh), .int .u64 (uv d.vl), .int .u64 (uv d.ch), .int .u64 (uv d.cl)] 26)) (.cells #[.int .u64 (uv hh), .int .u64 (uv hl)] 24)
  have Cb2 := Cb1.on bx2
  have Db2 := Db1.on bx2
  have Hb2 : Blk (((w.alloc (.cells #[.int .u64 (uv c.vh), .int .u64 (uv c.vl), .int .u64 (uv c.ch), .int .u64 (uv c.cl)] 26)).alloc (.cells #[.int .u64 (uv d.vh), .int .u64 (uv d.vl), .int .u64 (uv d.ch), .int .u64 (uv d.cl)] 26)).alloc (.cells #[.int .u64 (uv hh), .int .u64 (uv hl)] 24)) (w.heap.size + 1 + 1) 24 #[.int .u64 (uv hh), .int .u64 (uv hl)] := by have h := Blk.new ((w.alloc (.cells #[.int .u64 (uv c.vh), .int .u64 (uv c.vl), .int .u64 (uv c.ch), .int .u64 (uv c.cl)] 26)).alloc (.cells #[.int .u64 (uv d.vh), .int .u64 (uv d.vl), .int .u64 (uv d.ch), .int .u64 (uv d.cl)] 26)) 24 #[.int .u64 (uv hh), .int .u64 (uv hl)]; simpa only [World.size_alloc] using h
  have L2 : Below w.heap.size w (((w.alloc (.cells #[.int .u64 (uv c.vh), .int .u64 (uv c.vl), .int .u64 (uv c.ch), .int .u64 (uv c.cl)] 26)).alloc (.cells #[.int .u64 (uv d.vh), .int .u64 (uv d.vl), .int .u64 (uv d.ch), .int .u64 (uv d.cl)] 26)).alloc (.cells #[.int .u64 (uv hh), .int .u64 (uv hl)] 24)) := L1.trans (bx2.mono L1.size)
  have C := Cb2
  have D := Db2
  have H := Hb2
  have L := L2
  clear bx0 bx1 bx2 L0 L1 L2 Cb0 Cb1 Cb2 Db1 Db2 Hb2
  have eC := C.four
  have eD := D.four
  have eH := H.pair
  go_enter Try.func7, Try.ntmps7
  go_wp2_with fail
  (with_reducible refine (cset d hh hl _).mono ?_)
  rintro e w1 ⟨rfl, hb⟩
  clear eC eD eH
  replace C := C.on hb
  replace D := D.on hb
  replace H := H.on hb
  replace L := L.trans (hb.mono L.size)
  clear hb
  have eC := C.four
  have eD := D.four
  have eH := H.pair
  go_upto_region 2 with (fail)
  have ltCO : w.heap.size < w1.heap.size := C.lt
  have ltDO : w.heap.size + 1 < w1.heap.size := D.lt
  have ltHO : w.heap.size + 1 + 1 < w1.heap.size := H.lt
  have hb := below1 w1 (.cells #[.int .u64 (uv ((hh &&& ~~~d.ch) ||| (d.vh &&& d.ch))), .int .u64 (uv ((hl &&& ~~~d.cl) ||| (d.vl &&& d.cl)))] 24)
  clear eC eD eH
  replace C := C.on hb
  replace D := D.on hb
  replace H := H.on hb
  replace L := L.trans (hb.mono L.size)
  have O : Blk (w1.alloc (.cells #[.int .u64 (uv ((hh &&& ~~~d.ch) ||| (d.vh &&& d.ch))), .int .u64 (uv ((hl &&& ~~~d.cl) ||| (d.vl &&& d.cl)))] 24)) w1.heap.size 24 #[.int .u64 (uv ((hh &&& ~~~d.ch) ||| (d.vh &&& d.ch))), .int .u64 (uv ((hl &&& ~~~d.cl) ||| (d.vl &&& d.cl)))] := Blk.new w1 _ _
  clear hb
  generalize (w1.alloc (.cells #[.int .u64 (uv ((hh &&& ~~~d.ch) ||| (d.vh &&& d.ch))), .int .u64 (uv ((hl &&& ~~~d.cl) ||| (d.vl &&& d.cl)))] 24)) = w2 at L C D H O ⊢
  have eC := C.four
  have eD := D.four
  have eH := H.pair
  have eO := O.pair
  go_wp2_with fail
  clear eC eD eH eO
  have KEEP1 : ∀ u1 u2 : World, Below u1.heap.size u1 u2 → ((Below w.heap.size w u1 ∧ u1.cell? ⟨w.heap.size, 0, none⟩ = some (.int .u64 (uv c.vh)) ∧ u1.cell? ⟨w.heap.size, 1, none⟩ = some (.int .u64 (uv c.vl)) ∧ u1.cell? ⟨w.heap.size, 2, none⟩ = some (.int .u64 (uv c.ch)) ∧ u1.cell? ⟨w.heap.size, 3, none⟩ = some (.int .u64 (uv c.cl)) ∧ u1.cell? ⟨w.heap.size + 1, 0, none⟩ = some (.int .u64 (uv d.vh)) ∧ u1.cell? ⟨w.heap.size + 1, 1, none⟩ = some (.int .u64 (uv d.vl)) ∧ u1.cell? ⟨w.heap.size + 1, 2, none⟩ = some (.int .u64 (uv d.ch)) ∧ u1.cell? ⟨w.heap.size + 1, 3, none⟩ = some (.int .u64 (uv d.cl)) ∧ u1.cell? ⟨w.heap.size + 1 + 1, 0, none⟩ = some (.int .u64 (uv hh)) ∧ u1.cell? ⟨w.heap.size + 1 + 1, 1, none⟩ = some (.int .u64 (uv hl)) ∧ u1.cell? ⟨w1.heap.size, 0, none⟩ = some (.int .u64 (uv ((hh &&& ~~~d.ch) ||| (d.vh &&& d.ch)))) ∧ u1.cell? ⟨w1.heap.size, 1, none⟩ = some (.int .u64 (uv ((hl &&& ~~~d.cl) ||| (d.vl &&& d.cl))))) ∧ Blk u1 (w.heap.size) 26 #[.int .u64 (uv c.vh), .int .u64 (uv c.vl), .int .u64 (uv c.ch), .int .u64 (uv c.cl)] ∧ Blk u1 (w.heap.size + 1) 26 #[.int .u64 (uv d.vh), .int .u64 (uv d.vl), .int .u64 (uv d.ch), .int .u64 (uv d.cl)] ∧ Blk u1 (w.heap.size + 1 + 1) 24 #[.int .u64 (uv hh), .int .u64 (uv hl)] ∧ Blk u1 (w1.heap.size) 24 #[.int .u64 (uv ((hh &&& ~~~d.ch) ||| (d.vh &&& d.ch))), .int .u64 (uv ((hl &&& ~~~d.cl) ||| (d.vl &&& d.cl)))]) → ((Below w.heap.size w u2 ∧ u2.cell? ⟨w.heap.size, 0, none⟩ = some (.int .u64 (uv c.vh)) ∧ u2.cell? ⟨w.heap.size, 1, none⟩ = some (.int .u64 (uv c.vl)) ∧ u2.cell? ⟨w.heap.size, 2, none⟩ = some (.int .u64 (uv c.ch)) ∧ u2.cell? ⟨w.heap.size, 3, none⟩ = some (.int .u64 (uv c.cl)) ∧ u2.cell? ⟨w.heap.size + 1, 0, none⟩ = some (.int .u64 (uv d.vh)) ∧ u2.cell? ⟨w.heap.size + 1, 1, none⟩ = some (.int .u64 (uv d.vl)) ∧ u2.cell? ⟨w.heap.size + 1, 2, none⟩ = some (.int .u64 (uv d.ch)) ∧ u2.cell? ⟨w.heap.size + 1, 3, none⟩ = some (.int .u64 (uv d.cl)) ∧ u2.cell? ⟨w.heap.size + 1 + 1, 0, none⟩ = some (.int .u64 (uv hh)) ∧ u2.cell? ⟨w.heap.size + 1 + 1, 1, none⟩ = some (.int .u64 (uv hl)) ∧ u2.cell? ⟨w1.heap.size, 0, none⟩ = some (.int .u64 (uv ((hh &&& ~~~d.ch) ||| (d.vh &&& d.ch)))) ∧ u2.cell? ⟨w1.heap.size, 1, none⟩ = some (.int .u64 (uv ((hl &&& ~~~d.cl) ||| (d.vl &&& d.cl))))) ∧ Blk u2 (w.heap.size) 26 #[.int .u64 (uv c.vh), .int .u64 (uv c.vl), .int .u64 (uv c.ch), .int .u64 (uv c.cl)] ∧ Blk u2 (w.heap.size + 1) 26 #[.int .u64 (uv d.vh), .int .u64 (uv d.vl), .int .u64 (uv d.ch), .int .u64 (uv d.cl)] ∧ Blk u2 (w.heap.size + 1 + 1) 24 #[.int .u64 (uv hh), .int .u64 (uv hl)] ∧ Blk u2 (w1.heap.size) 24 #[.int .u64 (uv ((hh &&& ~~~d.ch) ||| (d.vh &&& d.ch))), .int .u64 (uv ((hl &&& ~~~d.cl) ||| (d.vl &&& d.cl)))]) := fun _ _ hb h => ⟨hold12 hb h.1, (h.2.1).on hb, (h.2.2.1).on hb, (h.2.2.2.1).on hb, (h.2.2.2.2).on hb⟩
  have S0 : (Below w.heap.size w w2 ∧ w2.cell? ⟨w.heap.size, 0, none⟩ = some (.int .u64 (uv c.vh)) ∧ w2.cell? ⟨w.heap.size, 1, none⟩ = some (.int .u64 (uv c.vl)) ∧ w2.cell? ⟨w.heap.size, 2, none⟩ = some (.int .u64 (uv c.ch)) ∧ w2.cell? ⟨w.heap.size, 3, none⟩ = some (.int .u64 (uv c.cl)) ∧ w2.cell? ⟨w.heap.size + 1, 0, none⟩ = some (.int .u64 (uv d.vh)) ∧ w2.cell? ⟨w.heap.size + 1, 1, none⟩ = some (.int .u64 (uv d.vl)) ∧ w2.cell? ⟨w.heap.size + 1, 2, none⟩ = some (.int .u64 (uv d.ch)) ∧ w2.cell? ⟨w.heap.size + 1, 3, none⟩ = some (.int .u64 (uv d.cl)) ∧ w2.cell? ⟨w.heap.size + 1 + 1, 0, none⟩ = some (.int .u64 (uv hh)) ∧ w2.cell? ⟨w.heap.size + 1 + 1, 1, none⟩ = some (.int .u64 (uv hl)) ∧ w2.cell? ⟨w1.heap.size, 0, none⟩ = some (.int .u64 (uv ((hh &&& ~~~d.ch) ||| (d.vh &&& d.ch)))) ∧ w2.cell? ⟨w1.heap.size, 1, none⟩ = some (.int .u64 (uv ((hl &&& ~~~d.cl) ||| (d.vl &&& d.cl))))) ∧ Blk w2 (w.heap.size) 26 #[.int .u64 (uv c.vh), .int .u64 (uv c.vl), .int .u64 (uv c.ch), .int .u64 (uv c.cl)] ∧ Blk w2 (w.heap.size + 1) 26 #[.int .u64 (uv d.vh), .int .u64 (uv d.vl), .int .u64 (uv d.ch), .int .u64 (uv d.cl)] ∧ Blk w2 (w.heap.size + 1 + 1) 24 #[.int .u64 (uv hh), .int .u64 (uv hl)] ∧ Blk w2 (w1.heap.size) 24 #[.int .u64 (uv ((hh &&& ~~~d.ch) ||| (d.vh &&& d.ch))), .int .u64 (uv ((hl &&& ~~~d.cl) ||| (d.vl &&& d.cl)))] := ⟨⟨L, C.cell 0, C.cell 1, C.cell 2, C.cell 3, D.cell 0, D.cell 1, D.cell 2, D.cell 3, H.cell 0, H.cell 1, O.cell 0, O.cell 1⟩, C, D, H, O⟩
  go_region_held3 (fun w' => (Below w.heap.size w w' ∧ w'.cell? ⟨w.heap.size, 0, none⟩ = some (.int .u64 (uv c.vh)) ∧ w'.cell? ⟨w.heap.size, 1, none⟩ = some (.int .u64 (uv c.vl)) ∧ w'.cell? ⟨w.heap.size, 2, none⟩ = some (.int .u64 (uv c.ch)) ∧ w'.cell? ⟨w.heap.size, 3, none⟩ = some (.int .u64 (uv c.cl)) ∧ w'.cell? ⟨w.heap.size + 1, 0, none⟩ = some (.int .u64 (uv d.vh)) ∧ w'.cell? ⟨w.heap.size + 1, 1, none⟩ = some (.int .u64 (uv d.vl)) ∧ w'.cell? ⟨w.heap.size + 1, 2, none⟩ = some (.int .u64 (uv d.ch)) ∧ w'.cell? ⟨w.heap.size + 1, 3, none⟩ = some (.int .u64 (uv d.cl)) ∧ w'.cell? ⟨w.heap.size + 1 + 1, 0, none⟩ = some (.int .u64 (uv hh)) ∧ w'.cell? ⟨w.heap.size + 1 + 1, 1, none⟩ = some (.int .u64 (uv hl)) ∧ w'.cell? ⟨w1.heap.size, 0, none⟩ = some (.int .u64 (uv ((hh &&& ~~~d.ch) ||| (d.vh &&& d.ch)))) ∧ w'.cell? ⟨w1.heap.size, 1, none⟩ = some (.int .u64 (uv ((hl &&& ~~~d.cl) ||| (d.vl &&& d.cl))))) ∧ Blk w' (w.heap.size) 26 #[.int .u64 (uv c.vh), .int .u64 (uv c.vl), .int .u64 (uv c.ch), .int .u64 (uv c.cl)] ∧ Blk w' (w.heap.size + 1) 26 #[.int .u64 (uv d.vh), .int .u64 (uv d.vl), .int .u64 (uv d.ch), .int .u64 (uv d.cl)] ∧ Blk w' (w.heap.size + 1 + 1) 24 #[.int .u64 (uv hh), .int .u64 (uv hl)] ∧ Blk w' (w1.heap.size) 24 #[.int .u64 (uv ((hh &&& ~~~d.ch) ||| (d.vh &&& d.ch))), .int .u64 (uv ((hl &&& ~~~d.cl) ||| (d.vl &&& d.cl)))])
    (first | exact KEEP1 _ _ (by assumption) (by assumption) | exact KEEP1 _ _ (Below.refl _ _).drew S0)
    (first
      | (go_at_call 29; (with_reducible refine (crset d hh hl _).mono ?_); rintro e wz3 ⟨rfl, hb⟩))
  clear S0 KEEP1 hb
  rename_i hS
  clear C D H O L
  obtain ⟨⟨L, _, _, _, _, _, _, _, _, _, _, _, _⟩, C, D, H, O⟩ := hS
  have eC := C.four
  have eD := D.four
  have eH := H.pair
  have eO := O.pair
  go_wp2_with fail
  (with_reducible refine (cbef_f c d _ (Or.inr ⟨h1, hg⟩)).mono ?_)
  rintro e w4 ⟨rfl, hb⟩
  clear eC eD eH eO
  replace C := C.on hb
  replace D := D.on hb
  replace H := H.on hb
  replace O := O.on hb
  replace L := L.trans (hb.mono L.size)
  clear hb
  have eC := C.four
  have eD := D.four
  have eH := H.pair
  have eO := O.pair
  go_upto_region 5 with (fail)
  have ltCX : w.heap.size < w4.heap.size := C.lt
  have ltDX : w.heap.size + 1 < w4.heap.size := D.lt
  have ltHX : w.heap.size + 1 + 1 < w4.heap.size := H.lt
  have ltOX : w1.heap.size < w4.heap.size := O.lt
  have hb := below1 w4 (.cells #[.int .u64 0, .int .u64 0, .int .u64 0, .int .u64 0] 26)
  clear eC eD eH eO
  replace C := C.on hb
  replace D := D.on hb
  replace H := H.on hb
  replace O := O.on hb
  replace L := L.trans (hb.mono L.size)
  have X : Blk (w4.alloc (.cells #[.int .u64 0, .int .u64 0, .int .u64 0, .int .u64 0] 26)) w4.heap.size 26 #[.int .u64 0, .int .u64 0, .int .u64 0, .int .u64 0] := Blk.new w4 _ _
  clear hb
  generalize (w4.alloc (.cells #[.int .u64 0, .int .u64 0, .int .u64 0, .int .u64 0] 26)) = w5 at L C D H O X ⊢
  have eC := C.four
  have eD := D.four
  have eH := H.pair
  have eO := O.pair
  have eX := X.four
  go_wp2_with fail
  (with_reducible refine (caft_t c d _ h1).mono ?_)
  rintro e w6 ⟨rfl, hb⟩
  clear eC eD eH eO eX
  replace C := C.on hb
  replace D := D.on hb
  replace H := H.on hb
  replace O := O.on hb
  replace X := X.on hb
  replace L := L.trans (hb.mono L.size)
  clear hb
  have eC := C.four
  have eD := D.four
  have eH := H.pair
  have eO := O.pair
  have eX := X.four
  go_upto_region 6 with (fail)
  have ltCY : w.heap.size < w6.heap.size := C.lt
  have ltDY : w.heap.size + 1 < w6.heap.size := D.lt
  have ltHY : w.heap.size + 1 + 1 < w6.heap.size := H.lt
  have ltOY : w1.heap.size < w6.heap.size := O.lt
  have ltXY : w4.heap.size < w6.heap.size := X.lt
  have hb := below1 w6 (.cells #[.int .u64 (uv ((c.vh &&& ~~~d.ch) ||| (d.vh &&& d.ch))), .int .u64 (uv ((c.vl &&& ~~~d.cl) ||| (d.vl &&& d.cl))), .int .u64 (uv (c.ch ||| d.ch)), .int .u64 (uv (c.cl ||| d.cl))] 26)
  clear eC eD eH eO eX
  replace C := C.on hb
  replace D := D.on hb
  replace H := H.on hb
  replace O := O.on hb
  replace X := X.on hb
  replace L := L.trans (hb.mono L.size)
  have Y : Blk (w6.alloc (.cells #[.int .u64 (uv ((c.vh &&& ~~~d.ch) ||| (d.vh &&& d.ch))), .int .u64 (uv ((c.vl &&& ~~~d.cl) ||| (d.vl &&& d.cl))), .int .u64 (uv (c.ch ||| d.ch)), .int .u64 (uv (c.cl ||| d.cl))] 26)) w6.heap.size 26 #[.int .u64 (uv ((c.vh &&& ~~~d.ch) ||| (d.vh &&& d.ch))), .int .u64 (uv ((c.vl &&& ~~~d.cl) ||| (d.vl &&& d.cl))), .int .u64 (uv (c.ch ||| d.ch)), .int .u64 (uv (c.cl ||| d.cl))] := Blk.new w6 _ _
  clear hb
  generalize (w6.alloc (.cells #[.int .u64 (uv ((c.vh &&& ~~~d.ch) ||| (d.vh &&& d.ch))), .int .u64 (uv ((c.vl &&& ~~~d.cl) ||| (d.vl &&& d.cl))), .int .u64 (uv (c.ch ||| d.ch)), .int .u64 (uv (c.cl ||| d.cl))] 26)) = w7 at L C D H O X Y ⊢
  have eC := C.four
  have eD := D.four
  have eH := H.pair
  have eO := O.pair
  have eX := X.four
  have eY := Y.four
  go_wp2_with fail
  (with_reducible refine (text_s s c _ h1 HS.out).mono ?_)
  rintro e w8 ⟨rfl, hb⟩
  clear eC eD eH eO eX eY
  replace C := C.on hb
  replace D := D.on hb
  replace H := H.on hb
  replace O := O.on hb
  replace X := X.on hb
  replace Y := Y.on hb
  replace L := L.trans (hb.mono L.size)
  clear hb
  have eC := C.four
  have eD := D.four
  have eH := H.pair
  have eO := O.pair
  have eX := X.four
  have eY := Y.four
  go_wp2_with fail
  (with_reducible refine (text_a t c d _ h1 HT.out).mono ?_)
  rintro e w9 ⟨rfl, hb⟩
  clear eC eD eH eO eX eY
  replace C := C.on hb
  replace D := D.on hb
  replace H := H.on hb
  replace O := O.on hb
  replace X := X.on hb
  replace Y := Y.on hb
  replace L := L.trans (hb.mono L.size)
  clear hb
  have eC := C.four
  have eD := D.four
  have eH := H.pair
  have eO := O.pair
  have eX := X.four
  have eY := Y.four
  go_wp2_with fail
  (with_reducible refine (text_z r _ HR.out).mono ?_)
  rintro e w10 ⟨rfl, hb⟩
  clear eC eD eH eO eX eY
  replace C := C.on hb
  replace D := D.on hb
  replace H := H.on hb
  replace O := O.on hb
  replace X := X.on hb
  replace Y := Y.on hb
  replace L := L.trans (hb.mono L.size)
  clear hb
  have eC := C.four
  have eD := D.four
  have eH := H.pair
  have eO := O.pair
  have eX := X.four
  have eY := Y.four
  go_wp2_with fail
  (with_reducible refine (rhas_g _ s c d hh hl _ h1 HS.out hx).mono ?_)
  rintro e w11 ⟨rfl, hb⟩
  clear eC eD eH eO eX eY
  replace C := C.on hb
  replace D := D.on hb
  replace H := H.on hb
  replace O := O.on hb
  replace X := X.on hb
  replace Y := Y.on hb
  replace L := L.trans (hb.mono L.size)
  clear hb
  have eC := C.four
  have eD := D.four
  have eH := H.pair
  have eO := O.pair
  have eX := X.four
  have eY := Y.four
  go_wp2_with fail
  (with_reducible refine (awake2_c _).mono ?_)
  rintro e w12 ⟨rfl, hb⟩
  clear eC eD eH eO eX eY
  replace C := C.on hb
  replace D := D.on hb
  replace H := H.on hb
  replace O := O.on hb
  replace X := X.on hb
  replace Y := Y.on hb
  replace L := L.trans (hb.mono L.size)
  clear hb
  have eC := C.four
  have eD := D.four
  have eH := H.pair
  have eO := O.pair
  have eX := X.four
  have eY := Y.four
  go_wp2_with fail
  (with_reducible refine (rhas_is _ s c hh hl _ h1 HS.out hy).mono ?_)
  rintro e w13 ⟨rfl, hb⟩
  clear eC eD eH eO eX eY
  replace C := C.on hb
  replace D := D.on hb
  replace H := H.on hb
  replace O := O.on hb
  replace X := X.on hb
  replace Y := Y.on hb
  replace L := L.trans (hb.mono L.size)
  clear hb
  have eC := C.four
  have eD := D.four
  have eH := H.pair
  have eO := O.pair
  have eX := X.four
  have eY := Y.four
  go_wp2
  go_ret
  exact ⟨rfl, L⟩

set_option maxHeartbeats 4000000 in
theorem sets_ftf (c d : Cb) (hh hl : BitVec 64) (w : World) (h1 : c.snd = true) (s t r : ByteArray) (HS : Hid (txt c = s)) (HT : Hid (txt (Cb.aft c d) = t)) (HR : Hid (txt Cb.zero = r)) (hg : c.agr d = false) (hx : c.has ((hh &&& ~~~d.ch) ||| (d.vh &&& d.ch)) ((hl &&& ~~~d.cl) ||| (d.vl &&& d.cl)) = false) (hy : c.has hh hl = true) (ha2 : (Cb.aft c d).has ((hh &&& ~~~d.ch) ||| (d.vh &&& d.ch)) ((hl &&& ~~~d.cl) ||| (d.vl &&& d.cl)) = true) :
    Calls Try.prog 7 #[.agg #[.int .u64 (uv c.vh), .int .u64 (uv c.vl), .int .u64 (uv c.ch), .int .u64 (uv c.cl)], .agg #[.int .u64 (uv d.vh), .int .u64 (uv d.vl), .int .u64 (uv d.ch), .int .u64 (uv d.cl)], .agg #[.int .u64 (uv hh), .int .u64 (uv hl)]] w fun e w' => e = .returned (.bool true) ∧ Below w.heap.size w w' := by
  have bx0 := below1 w (.cells #[.int .u64 (uv c.vh), .int .u64 (uv c.vl), .int .u64 (uv c.ch), .int .u64 (uv c.cl)] 26)
  have Cb0 : Blk (w.alloc (.cells #[.int .u64 (uv c.vh), .int .u64 (uv c.vl), .int .u64 (uv c.ch), .int .u64 (uv c.cl)] 26)) (w.heap.size) 26 #[.int .u64 (uv c.vh), .int .u64 (uv c.vl), .int .u64 (uv c.ch), .int .u64 (uv c.cl)] := Blk.new w _ _
  have L0 : Below w.heap.size w (w.alloc (.cells #[.int .u64 (uv c.vh), .int .u64 (uv c.vl), .int .u64 (uv c.ch), .int .u64 (uv c.cl)] 26)) := bx0
  have bx1 := below1 (w.alloc (.cells #[.int .u64 (uv c.vh), .int .u64 (uv c.vl), .int .u64 (uv c.ch), .int .u64 (uv c.cl)] 26)) (.cells #[.int .u64 (uv d.vh), .int .u64 (uv d.vl), .int .u64 (uv d.ch), .int .u64 (uv d.cl)] 26)
  have Cb1 := Cb0.on bx1
  have Db1 : Blk ((w.alloc (.cells #[.int .u64 (uv c.vh), .int .u64 (uv c.vl), .int .u64 (uv c.ch), .int .u64 (uv c.cl)] 26)).alloc (.cells #[.int .u64 (uv d.vh), .int .u64 (uv d.vl), .int .u64 (uv d.ch), .int .u64 (uv d.cl)] 26)) (w.heap.size + 1) 26 #[.int .u64 (uv d.vh), .int .u64 (uv d.vl), .int .u64 (uv d.ch), .int .u64 (uv d.cl)] := by have h := Blk.new (w.alloc (.cells #[.int .u64 (uv c.vh), .int .u64 (uv c.vl), .int .u64 (uv c.ch), .int .u64 (uv c.cl)] 26)) 26 #[.int .u64 (uv d.vh), .int .u64 (uv d.vl), .int .u64 (uv d.ch), .int .u64 (uv d.cl)]; simpa only [World.size_alloc] using h
  have L1 : Below w.heap.size w ((w.alloc (.cells #[.int .u64 (uv c.vh), .int .u64 (uv c.vl), .int .u64 (uv c.ch), .int .u64 (uv c.cl)] 26)).alloc (.cells #[.int .u64 (uv d.vh), .int .u64 (uv d.vl), .int .u64 (uv d.ch), .int .u64 (uv d.cl)] 26)) := L0.trans (bx1.mono L0.size)
  have bx2 := below1 ((w.alloc (.cells #[.int .u64 (uv c.vh), .int .u64 (uv c.vl), .int .u64 (uv c.ch), .int .u64 (uv c.cl)] 26)).alloc (.cells #[.int .u64 (uv d.vh), .int .u64 (uv d.vl), .int .u64 (uv d.ch), .int .u64 (uv d.cl)] 26)) (.cells #[.int .u64 (uv hh), .int .u64 (uv hl)] 24)
  have Cb2 := Cb1.on bx2
  have Db2 := Db1.on bx2
  have Hb2 : Blk (((w.alloc (.cells #[.int .u64 (uv c.vh), .int .u64 (uv c.vl), .int .u64 (uv c.ch), .int .u64 (uv c.cl)] 26)).alloc (.cells #[.int .u64 (uv d.vh), .int .u64 (uv d.vl), .int .u64 (uv d.ch), .int .u64 (uv d.cl)] 26)).alloc (.cells #[.int .u64 (uv hh), .int .u64 (uv hl)] 24)) (w.heap.size + 1 + 1) 24 #[.int .u64 (uv hh), .int .u64 (uv hl)] := by have h := Blk.new ((w.alloc (.cells #[.int .u64 (uv c.vh), .int .u64 (uv c.vl), .int .u64 (uv c.ch), .int .u64 (uv c.cl)] 26)).alloc (.cells #[.int .u64 (uv d.vh), .int .u64 (uv d.vl), .int .u64 (uv d.ch), .int .u64 (uv d.cl)] 26)) 24 #[.int .u64 (uv hh), .int .u64 (uv hl)]; simpa only [World.size_alloc] using h
  have L2 : Below w.heap.size w (((w.alloc (.cells #[.int .u64 (uv c.vh), .int .u64 (uv c.vl), .int .u64 (uv c.ch), .int .u64 (uv c.cl)] 26)).alloc (.cells #[.int .u64 (uv d.vh), .int .u64 (uv d.vl), .int .u64 (uv d.ch), .int .u64 (uv d.cl)] 26)).alloc (.cells #[.int .u64 (uv hh), .int .u64 (uv hl)] 24)) := L1.trans (bx2.mono L1.size)
  have C := Cb2
  have D := Db2
  have H := Hb2
  have L := L2
  clear bx0 bx1 bx2 L0 L1 L2 Cb0 Cb1 Cb2 Db1 Db2 Hb2
  have eC := C.four
  have eD := D.four
  have eH := H.pair
  go_enter Try.func7, Try.ntmps7
  go_wp2_with fail
  (with_reducible refine (cset d hh hl _).mono ?_)
  rintro e w1 ⟨rfl, hb⟩
  clear eC eD eH
  replace C := C.on hb
  replace D := D.on hb
  replace H := H.on hb
  replace L := L.trans (hb.mono L.size)
  clear hb
  have eC := C.four
  have eD := D.four
  have eH := H.pair
  go_upto_region 2 with (fail)
  have ltCO : w.heap.size < w1.heap.size := C.lt
  have ltDO : w.heap.size + 1 < w1.heap.size := D.lt
  have ltHO : w.heap.size + 1 + 1 < w1.heap.size := H.lt
  have hb := below1 w1 (.cells #[.int .u64 (uv ((hh &&& ~~~d.ch) ||| (d.vh &&& d.ch))), .int .u64 (uv ((hl &&& ~~~d.cl) ||| (d.vl &&& d.cl)))] 24)
  clear eC eD eH
  replace C := C.on hb
  replace D := D.on hb
  replace H := H.on hb
  replace L := L.trans (hb.mono L.size)
  have O : Blk (w1.alloc (.cells #[.int .u64 (uv ((hh &&& ~~~d.ch) ||| (d.vh &&& d.ch))), .int .u64 (uv ((hl &&& ~~~d.cl) ||| (d.vl &&& d.cl)))] 24)) w1.heap.size 24 #[.int .u64 (uv ((hh &&& ~~~d.ch) ||| (d.vh &&& d.ch))), .int .u64 (uv ((hl &&& ~~~d.cl) ||| (d.vl &&& d.cl)))] := Blk.new w1 _ _
  clear hb
  generalize (w1.alloc (.cells #[.int .u64 (uv ((hh &&& ~~~d.ch) ||| (d.vh &&& d.ch))), .int .u64 (uv ((hl &&& ~~~d.cl) ||| (d.vl &&& d.cl)))] 24)) = w2 at L C D H O ⊢
  have eC := C.four
  have eD := D.four
  have eH := H.pair
  have eO := O.pair
  go_wp2_with fail
  clear eC eD eH eO
  have KEEP1 : ∀ u1 u2 : World, Below u1.heap.size u1 u2 → ((Below w.heap.size w u1 ∧ u1.cell? ⟨w.heap.size, 0, none⟩ = some (.int .u64 (uv c.vh)) ∧ u1.cell? ⟨w.heap.size, 1, none⟩ = some (.int .u64 (uv c.vl)) ∧ u1.cell? ⟨w.heap.size, 2, none⟩ = some (.int .u64 (uv c.ch)) ∧ u1.cell? ⟨w.heap.size, 3, none⟩ = some (.int .u64 (uv c.cl)) ∧ u1.cell? ⟨w.heap.size + 1, 0, none⟩ = some (.int .u64 (uv d.vh)) ∧ u1.cell? ⟨w.heap.size + 1, 1, none⟩ = some (.int .u64 (uv d.vl)) ∧ u1.cell? ⟨w.heap.size + 1, 2, none⟩ = some (.int .u64 (uv d.ch)) ∧ u1.cell? ⟨w.heap.size + 1, 3, none⟩ = some (.int .u64 (uv d.cl)) ∧ u1.cell? ⟨w.heap.size + 1 + 1, 0, none⟩ = some (.int .u64 (uv hh)) ∧ u1.cell? ⟨w.heap.size + 1 + 1, 1, none⟩ = some (.int .u64 (uv hl)) ∧ u1.cell? ⟨w1.heap.size, 0, none⟩ = some (.int .u64 (uv ((hh &&& ~~~d.ch) ||| (d.vh &&& d.ch)))) ∧ u1.cell? ⟨w1.heap.size, 1, none⟩ = some (.int .u64 (uv ((hl &&& ~~~d.cl) ||| (d.vl &&& d.cl))))) ∧ Blk u1 (w.heap.size) 26 #[.int .u64 (uv c.vh), .int .u64 (uv c.vl), .int .u64 (uv c.ch), .int .u64 (uv c.cl)] ∧ Blk u1 (w.heap.size + 1) 26 #[.int .u64 (uv d.vh), .int .u64 (uv d.vl), .int .u64 (uv d.ch), .int .u64 (uv d.cl)] ∧ Blk u1 (w.heap.size + 1 + 1) 24 #[.int .u64 (uv hh), .int .u64 (uv hl)] ∧ Blk u1 (w1.heap.size) 24 #[.int .u64 (uv ((hh &&& ~~~d.ch) ||| (d.vh &&& d.ch))), .int .u64 (uv ((hl &&& ~~~d.cl) ||| (d.vl &&& d.cl)))]) → ((Below w.heap.size w u2 ∧ u2.cell? ⟨w.heap.size, 0, none⟩ = some (.int .u64 (uv c.vh)) ∧ u2.cell? ⟨w.heap.size, 1, none⟩ = some (.int .u64 (uv c.vl)) ∧ u2.cell? ⟨w.heap.size, 2, none⟩ = some (.int .u64 (uv c.ch)) ∧ u2.cell? ⟨w.heap.size, 3, none⟩ = some (.int .u64 (uv c.cl)) ∧ u2.cell? ⟨w.heap.size + 1, 0, none⟩ = some (.int .u64 (uv d.vh)) ∧ u2.cell? ⟨w.heap.size + 1, 1, none⟩ = some (.int .u64 (uv d.vl)) ∧ u2.cell? ⟨w.heap.size + 1, 2, none⟩ = some (.int .u64 (uv d.ch)) ∧ u2.cell? ⟨w.heap.size + 1, 3, none⟩ = some (.int .u64 (uv d.cl)) ∧ u2.cell? ⟨w.heap.size + 1 + 1, 0, none⟩ = some (.int .u64 (uv hh)) ∧ u2.cell? ⟨w.heap.size + 1 + 1, 1, none⟩ = some (.int .u64 (uv hl)) ∧ u2.cell? ⟨w1.heap.size, 0, none⟩ = some (.int .u64 (uv ((hh &&& ~~~d.ch) ||| (d.vh &&& d.ch)))) ∧ u2.cell? ⟨w1.heap.size, 1, none⟩ = some (.int .u64 (uv ((hl &&& ~~~d.cl) ||| (d.vl &&& d.cl))))) ∧ Blk u2 (w.heap.size) 26 #[.int .u64 (uv c.vh), .int .u64 (uv c.vl), .int .u64 (uv c.ch), .int .u64 (uv c.cl)] ∧ Blk u2 (w.heap.size + 1) 26 #[.int .u64 (uv d.vh), .int .u64 (uv d.vl), .int .u64 (uv d.ch), .int .u64 (uv d.cl)] ∧ Blk u2 (w.heap.size + 1 + 1) 24 #[.int .u64 (uv hh), .int .u64 (uv hl)] ∧ Blk u2 (w1.heap.size) 24 #[.int .u64 (uv ((hh &&& ~~~d.ch) ||| (d.vh &&& d.ch))), .int .u64 (uv ((hl &&& ~~~d.cl) ||| (d.vl &&& d.cl)))]) := fun _ _ hb h => ⟨hold12 hb h.1, (h.2.1).on hb, (h.2.2.1).on hb, (h.2.2.2.1).on hb, (h.2.2.2.2).on hb⟩
  have S0 : (Below w.heap.size w w2 ∧ w2.cell? ⟨w.heap.size, 0, none⟩ = some (.int .u64 (uv c.vh)) ∧ w2.cell? ⟨w.heap.size, 1, none⟩ = some (.int .u64 (uv c.vl)) ∧ w2.cell? ⟨w.heap.size, 2, none⟩ = some (.int .u64 (uv c.ch)) ∧ w2.cell? ⟨w.heap.size, 3, none⟩ = some (.int .u64 (uv c.cl)) ∧ w2.cell? ⟨w.heap.size + 1, 0, none⟩ = some (.int .u64 (uv d.vh)) ∧ w2.cell? ⟨w.heap.size + 1, 1, none⟩ = some (.int .u64 (uv d.vl)) ∧ w2.cell? ⟨w.heap.size + 1, 2, none⟩ = some (.int .u64 (uv d.ch)) ∧ w2.cell? ⟨w.heap.size + 1, 3, none⟩ = some (.int .u64 (uv d.cl)) ∧ w2.cell? ⟨w.heap.size + 1 + 1, 0, none⟩ = some (.int .u64 (uv hh)) ∧ w2.cell? ⟨w.heap.size + 1 + 1, 1, none⟩ = some (.int .u64 (uv hl)) ∧ w2.cell? ⟨w1.heap.size, 0, none⟩ = some (.int .u64 (uv ((hh &&& ~~~d.ch) ||| (d.vh &&& d.ch)))) ∧ w2.cell? ⟨w1.heap.size, 1, none⟩ = some (.int .u64 (uv ((hl &&& ~~~d.cl) ||| (d.vl &&& d.cl))))) ∧ Blk w2 (w.heap.size) 26 #[.int .u64 (uv c.vh), .int .u64 (uv c.vl), .int .u64 (uv c.ch), .int .u64 (uv c.cl)] ∧ Blk w2 (w.heap.size + 1) 26 #[.int .u64 (uv d.vh), .int .u64 (uv d.vl), .int .u64 (uv d.ch), .int .u64 (uv d.cl)] ∧ Blk w2 (w.heap.size + 1 + 1) 24 #[.int .u64 (uv hh), .int .u64 (uv hl)] ∧ Blk w2 (w1.heap.size) 24 #[.int .u64 (uv ((hh &&& ~~~d.ch) ||| (d.vh &&& d.ch))), .int .u64 (uv ((hl &&& ~~~d.cl) ||| (d.vl &&& d.cl)))] := ⟨⟨L, C.cell 0, C.cell 1, C.cell 2, C.cell 3, D.cell 0, D.cell 1, D.cell 2, D.cell 3, H.cell 0, H.cell 1, O.cell 0, O.cell 1⟩, C, D, H, O⟩
  go_region_held3 (fun w' => (Below w.heap.size w w' ∧ w'.cell? ⟨w.heap.size, 0, none⟩ = some (.int .u64 (uv c.vh)) ∧ w'.cell? ⟨w.heap.size, 1, none⟩ = some (.int .u64 (uv c.vl)) ∧ w'.cell? ⟨w.heap.size, 2, none⟩ = some (.int .u64 (uv c.ch)) ∧ w'.cell? ⟨w.heap.size, 3, none⟩ = some (.int .u64 (uv c.cl)) ∧ w'.cell? ⟨w.heap.size + 1, 0, none⟩ = some (.int .u64 (uv d.vh)) ∧ w'.cell? ⟨w.heap.size + 1, 1, none⟩ = some (.int .u64 (uv d.vl)) ∧ w'.cell? ⟨w.heap.size + 1, 2, none⟩ = some (.int .u64 (uv d.ch)) ∧ w'.cell? ⟨w.heap.size + 1, 3, none⟩ = some (.int .u64 (uv d.cl)) ∧ w'.cell? ⟨w.heap.size + 1 + 1, 0, none⟩ = some (.int .u64 (uv hh)) ∧ w'.cell? ⟨w.heap.size + 1 + 1, 1, none⟩ = some (.int .u64 (uv hl)) ∧ w'.cell? ⟨w1.heap.size, 0, none⟩ = some (.int .u64 (uv ((hh &&& ~~~d.ch) ||| (d.vh &&& d.ch)))) ∧ w'.cell? ⟨w1.heap.size, 1, none⟩ = some (.int .u64 (uv ((hl &&& ~~~d.cl) ||| (d.vl &&& d.cl))))) ∧ Blk w' (w.heap.size) 26 #[.int .u64 (uv c.vh), .int .u64 (uv c.vl), .int .u64 (uv c.ch), .int .u64 (uv c.cl)] ∧ Blk w' (w.heap.size + 1) 26 #[.int .u64 (uv d.vh), .int .u64 (uv d.vl), .int .u64 (uv d.ch), .int .u64 (uv d.cl)] ∧ Blk w' (w.heap.size + 1 + 1) 24 #[.int .u64 (uv hh), .int .u64 (uv hl)] ∧ Blk w' (w1.heap.size) 24 #[.int .u64 (uv ((hh &&& ~~~d.ch) ||| (d.vh &&& d.ch))), .int .u64 (uv ((hl &&& ~~~d.cl) ||| (d.vl &&& d.cl)))])
    (first | exact KEEP1 _ _ (by assumption) (by assumption) | exact KEEP1 _ _ (Below.refl _ _).drew S0)
    (first
      | (go_at_call 29; (with_reducible refine (crset d hh hl _).mono ?_); rintro e wz3 ⟨rfl, hb⟩))
  clear S0 KEEP1 hb
  rename_i hS
  clear C D H O L
  obtain ⟨⟨L, _, _, _, _, _, _, _, _, _, _, _, _⟩, C, D, H, O⟩ := hS
  have eC := C.four
  have eD := D.four
  have eH := H.pair
  have eO := O.pair
  go_wp2_with fail
  (with_reducible refine (cbef_f c d _ (Or.inr ⟨h1, hg⟩)).mono ?_)
  rintro e w4 ⟨rfl, hb⟩
  clear eC eD eH eO
  replace C := C.on hb
  replace D := D.on hb
  replace H := H.on hb
  replace O := O.on hb
  replace L := L.trans (hb.mono L.size)
  clear hb
  have eC := C.four
  have eD := D.four
  have eH := H.pair
  have eO := O.pair
  go_upto_region 5 with (fail)
  have ltCX : w.heap.size < w4.heap.size := C.lt
  have ltDX : w.heap.size + 1 < w4.heap.size := D.lt
  have ltHX : w.heap.size + 1 + 1 < w4.heap.size := H.lt
  have ltOX : w1.heap.size < w4.heap.size := O.lt
  have hb := below1 w4 (.cells #[.int .u64 0, .int .u64 0, .int .u64 0, .int .u64 0] 26)
  clear eC eD eH eO
  replace C := C.on hb
  replace D := D.on hb
  replace H := H.on hb
  replace O := O.on hb
  replace L := L.trans (hb.mono L.size)
  have X : Blk (w4.alloc (.cells #[.int .u64 0, .int .u64 0, .int .u64 0, .int .u64 0] 26)) w4.heap.size 26 #[.int .u64 0, .int .u64 0, .int .u64 0, .int .u64 0] := Blk.new w4 _ _
  clear hb
  generalize (w4.alloc (.cells #[.int .u64 0, .int .u64 0, .int .u64 0, .int .u64 0] 26)) = w5 at L C D H O X ⊢
  have eC := C.four
  have eD := D.four
  have eH := H.pair
  have eO := O.pair
  have eX := X.four
  go_wp2_with fail
  (with_reducible refine (caft_t c d _ h1).mono ?_)
  rintro e w6 ⟨rfl, hb⟩
  clear eC eD eH eO eX
  replace C := C.on hb
  replace D := D.on hb
  replace H := H.on hb
  replace O := O.on hb
  replace X := X.on hb
  replace L := L.trans (hb.mono L.size)
  clear hb
  have eC := C.four
  have eD := D.four
  have eH := H.pair
  have eO := O.pair
  have eX := X.four
  go_upto_region 6 with (fail)
  have ltCY : w.heap.size < w6.heap.size := C.lt
  have ltDY : w.heap.size + 1 < w6.heap.size := D.lt
  have ltHY : w.heap.size + 1 + 1 < w6.heap.size := H.lt
  have ltOY : w1.heap.size < w6.heap.size := O.lt
  have ltXY : w4.heap.size < w6.heap.size := X.lt
  have hb := below1 w6 (.cells #[.int .u64 (uv ((c.vh &&& ~~~d.ch) ||| (d.vh &&& d.ch))), .int .u64 (uv ((c.vl &&& ~~~d.cl) ||| (d.vl &&& d.cl))), .int .u64 (uv (c.ch ||| d.ch)), .int .u64 (uv (c.cl ||| d.cl))] 26)
  clear eC eD eH eO eX
  replace C := C.on hb
  replace D := D.on hb
  replace H := H.on hb
  replace O := O.on hb
  replace X := X.on hb
  replace L := L.trans (hb.mono L.size)
  have Y : Blk (w6.alloc (.cells #[.int .u64 (uv ((c.vh &&& ~~~d.ch) ||| (d.vh &&& d.ch))), .int .u64 (uv ((c.vl &&& ~~~d.cl) ||| (d.vl &&& d.cl))), .int .u64 (uv (c.ch ||| d.ch)), .int .u64 (uv (c.cl ||| d.cl))] 26)) w6.heap.size 26 #[.int .u64 (uv ((c.vh &&& ~~~d.ch) ||| (d.vh &&& d.ch))), .int .u64 (uv ((c.vl &&& ~~~d.cl) ||| (d.vl &&& d.cl))), .int .u64 (uv (c.ch ||| d.ch)), .int .u64 (uv (c.cl ||| d.cl))] := Blk.new w6 _ _
  clear hb
  generalize (w6.alloc (.cells #[.int .u64 (uv ((c.vh &&& ~~~d.ch) ||| (d.vh &&& d.ch))), .int .u64 (uv ((c.vl &&& ~~~d.cl) ||| (d.vl &&& d.cl))), .int .u64 (uv (c.ch ||| d.ch)), .int .u64 (uv (c.cl ||| d.cl))] 26)) = w7 at L C D H O X Y ⊢
  have eC := C.four
  have eD := D.four
  have eH := H.pair
  have eO := O.pair
  have eX := X.four
  have eY := Y.four
  go_wp2_with fail
  (with_reducible refine (text_s s c _ h1 HS.out).mono ?_)
  rintro e w8 ⟨rfl, hb⟩
  clear eC eD eH eO eX eY
  replace C := C.on hb
  replace D := D.on hb
  replace H := H.on hb
  replace O := O.on hb
  replace X := X.on hb
  replace Y := Y.on hb
  replace L := L.trans (hb.mono L.size)
  clear hb
  have eC := C.four
  have eD := D.four
  have eH := H.pair
  have eO := O.pair
  have eX := X.four
  have eY := Y.four
  go_wp2_with fail
  (with_reducible refine (text_a t c d _ h1 HT.out).mono ?_)
  rintro e w9 ⟨rfl, hb⟩
  clear eC eD eH eO eX eY
  replace C := C.on hb
  replace D := D.on hb
  replace H := H.on hb
  replace O := O.on hb
  replace X := X.on hb
  replace Y := Y.on hb
  replace L := L.trans (hb.mono L.size)
  clear hb
  have eC := C.four
  have eD := D.four
  have eH := H.pair
  have eO := O.pair
  have eX := X.four
  have eY := Y.four
  go_wp2_with fail
  (with_reducible refine (text_z r _ HR.out).mono ?_)
  rintro e w10 ⟨rfl, hb⟩
  clear eC eD eH eO eX eY
  replace C := C.on hb
  replace D := D.on hb
  replace H := H.on hb
  replace O := O.on hb
  replace X := X.on hb
  replace Y := Y.on hb
  replace L := L.trans (hb.mono L.size)
  clear hb
  have eC := C.four
  have eD := D.four
  have eH := H.pair
  have eO := O.pair
  have eX := X.four
  have eY := Y.four
  go_wp2_with fail
  (with_reducible refine (rhas_g _ s c d hh hl _ h1 HS.out hx).mono ?_)
  rintro e w11 ⟨rfl, hb⟩
  clear eC eD eH eO eX eY
  replace C := C.on hb
  replace D := D.on hb
  replace H := H.on hb
  replace O := O.on hb
  replace X := X.on hb
  replace Y := Y.on hb
  replace L := L.trans (hb.mono L.size)
  clear hb
  have eC := C.four
  have eD := D.four
  have eH := H.pair
  have eO := O.pair
  have eX := X.four
  have eY := Y.four
  go_wp2_with fail
  (with_reducible refine (awake2_c _).mono ?_)
  rintro e w12 ⟨rfl, hb⟩
  clear eC eD eH eO eX eY
  replace C := C.on hb
  replace D := D.on hb
  replace H := H.on hb
  replace O := O.on hb
  replace X := X.on hb
  replace Y := Y.on hb
  replace L := L.trans (hb.mono L.size)
  clear hb
  have eC := C.four
  have eD := D.four
  have eH := H.pair
  have eO := O.pair
  have eX := X.four
  have eY := Y.four
  go_wp2_with fail
  (with_reducible refine (rhas_is _ s c hh hl _ h1 HS.out hy).mono ?_)
  rintro e w13 ⟨rfl, hb⟩
  clear eC eD eH eO eX eY
  replace C := C.on hb
  replace D := D.on hb
  replace H := H.on hb
  replace O := O.on hb
  replace X := X.on hb
  replace Y := Y.on hb
  replace L := L.trans (hb.mono L.size)
  clear hb
  have eC := C.four
  have eD := D.four
  have eH := H.pair
  have eO := O.pair
  have eX := X.four
  have eY := Y.four
  go_wp2_with fail
  (with_reducible refine (rhas_g _ t (Cb.aft c d) d hh hl _ (aft_snd c d h1) HT.out ha2).mono ?_)
  rintro e w14 ⟨rfl, hb⟩
  clear eC eD eH eO eX eY
  replace C := C.on hb
  replace D := D.on hb
  replace H := H.on hb
  replace O := O.on hb
  replace X := X.on hb
  replace Y := Y.on hb
  replace L := L.trans (hb.mono L.size)
  clear hb
  have eC := C.four
  have eD := D.four
  have eH := H.pair
  have eO := O.pair
  have eX := X.four
  have eY := Y.four
  go_wp2
  go_ret
  exact ⟨rfl, L⟩

set_option maxHeartbeats 4000000 in
theorem sets_tff (c d : Cb) (hh hl : BitVec 64) (w : World) (h1 : c.snd = true) (s t r : ByteArray) (HS : Hid (txt c = s)) (HT : Hid (txt (Cb.aft c d) = t)) (HR : Hid (txt (Cb.bef c d) = r)) (hg : c.agr d = true) (hx : c.has ((hh &&& ~~~d.ch) ||| (d.vh &&& d.ch)) ((hl &&& ~~~d.cl) ||| (d.vl &&& d.cl)) = false) (hb2 : (Cb.bef c d).has hh hl = false) (hy : c.has hh hl = false) :
    Calls Try.prog 7 #[.agg #[.int .u64 (uv c.vh), .int .u64 (uv c.vl), .int .u64 (uv c.ch), .int .u64 (uv c.cl)], .agg #[.int .u64 (uv d.vh), .int .u64 (uv d.vl), .int .u64 (uv d.ch), .int .u64 (uv d.cl)], .agg #[.int .u64 (uv hh), .int .u64 (uv hl)]] w fun e w' => e = .returned (.bool true) ∧ Below w.heap.size w w' := by
  have bx0 := below1 w (.cells #[.int .u64 (uv c.vh), .int .u64 (uv c.vl), .int .u64 (uv c.ch), .int .u64 (uv c.cl)] 26)
  have Cb0 : Blk (w.alloc (.cells #[.int .u64 (uv c.vh), .int .u64 (uv c.vl), .int .u64 (uv c.ch), .int .u64 (uv c.cl)] 26)) (w.heap.size) 26 #[.int .u64 (uv c.vh), .int .u64 (uv c.vl), .int .u64 (uv c.ch), .int .u64 (uv c.cl)] := Blk.new w _ _
  have L0 : Below w.heap.size w (w.alloc (.cells #[.int .u64 (uv c.vh), .int .u64 (uv c.vl), .int .u64 (uv c.ch), .int .u64 (uv c.cl)] 26)) := bx0
  have bx1 := below1 (w.alloc (.cells #[.int .u64 (uv c.vh), .int .u64 (uv c.vl), .int .u64 (uv c.ch), .int .u64 (uv c.cl)] 26)) (.cells #[.int .u64 (uv d.vh), .int .u64 (uv d.vl), .int .u64 (uv d.ch), .int .u64 (uv d.cl)] 26)
  have Cb1 := Cb0.on bx1
  have Db1 : Blk ((w.alloc (.cells #[.int .u64 (uv c.vh), .int .u64 (uv c.vl), .int .u64 (uv c.ch), .int .u64 (uv c.cl)] 26)).alloc (.cells #[.int .u64 (uv d.vh), .int .u64 (uv d.vl), .int .u64 (uv d.ch), .int .u64 (uv d.cl)] 26)) (w.heap.size + 1) 26 #[.int .u64 (uv d.vh), .int .u64 (uv d.vl), .int .u64 (uv d.ch), .int .u64 (uv d.cl)] := by have h := Blk.new (w.alloc (.cells #[.int .u64 (uv c.vh), .int .u64 (uv c.vl), .int .u64 (uv c.ch), .int .u64 (uv c.cl)] 26)) 26 #[.int .u64 (uv d.vh), .int .u64 (uv d.vl), .int .u64 (uv d.ch), .int .u64 (uv d.cl)]; simpa only [World.size_alloc] using h
  have L1 : Below w.heap.size w ((w.alloc (.cells #[.int .u64 (uv c.vh), .int .u64 (uv c.vl), .int .u64 (uv c.ch), .int .u64 (uv c.cl)] 26)).alloc (.cells #[.int .u64 (uv d.vh), .int .u64 (uv d.vl), .int .u64 (uv d.ch), .int .u64 (uv d.cl)] 26)) := L0.trans (bx1.mono L0.size)
  have bx2 := below1 ((w.alloc (.cells #[.int .u64 (uv c.vh), .int .u64 (uv c.vl), .int .u64 (uv c.ch), .int .u64 (uv c.cl)] 26)).alloc (.cells #[.int .u64 (uv d.vh), .int .u64 (uv d.vl), .int .u64 (uv d.ch), .int .u64 (uv d.cl)] 26)) (.cells #[.int .u64 (uv hh), .int .u64 (uv hl)] 24)
  have Cb2 := Cb1.on bx2
  have Db2 := Db1.on bx2
  have Hb2 : Blk (((w.alloc (.cells #[.int .u64 (uv c.vh), .int .u64 (uv c.vl), .int .u64 (uv c.ch), .int .u64 (uv c.cl)] 26)).alloc (.cells #[.int .u64 (uv d.vh), .int .u64 (uv d.vl), .int .u64 (uv d.ch), .int .u64 (uv d.cl)] 26)).alloc (.cells #[.int .u64 (uv hh), .int .u64 (uv hl)] 24)) (w.heap.size + 1 + 1) 24 #[.int .u64 (uv hh), .int .u64 (uv hl)] := by have h := Blk.new ((w.alloc (.cells #[.int .u64 (uv c.vh), .int .u64 (uv c.vl), .int .u64 (uv c.ch), .int .u64 (uv c.cl)] 26)).alloc (.cells #[.int .u64 (uv d.vh), .int .u64 (uv d.vl), .int .u64 (uv d.ch), .int .u64 (uv d.cl)] 26)) 24 #[.int .u64 (uv hh), .int .u64 (uv hl)]; simpa only [World.size_alloc] using h
  have L2 : Below w.heap.size w (((w.alloc (.cells #[.int .u64 (uv c.vh), .int .u64 (uv c.vl), .int .u64 (uv c.ch), .int .u64 (uv c.cl)] 26)).alloc (.cells #[.int .u64 (uv d.vh), .int .u64 (uv d.vl), .int .u64 (uv d.ch), .int .u64 (uv d.cl)] 26)).alloc (.cells #[.int .u64 (uv hh), .int .u64 (uv hl)] 24)) := L1.trans (bx2.mono L1.size)
  have C := Cb2
  have D := Db2
  have H := Hb2
  have L := L2
  clear bx0 bx1 bx2 L0 L1 L2 Cb0 Cb1 Cb2 Db1 Db2 Hb2
  have eC := C.four
  have eD := D.four
  have eH := H.pair
  go_enter Try.func7, Try.ntmps7
  go_wp2_with fail
  (with_reducible refine (cset d hh hl _).mono ?_)
  rintro e w1 ⟨rfl, hb⟩
  clear eC eD eH
  replace C := C.on hb
  replace D := D.on hb
  replace H := H.on hb
  replace L := L.trans (hb.mono L.size)
  clear hb
  have eC := C.four
  have eD := D.four
  have eH := H.pair
  go_upto_region 2 with (fail)
  have ltCO : w.heap.size < w1.heap.size := C.lt
  have ltDO : w.heap.size + 1 < w1.heap.size := D.lt
  have ltHO : w.heap.size + 1 + 1 < w1.heap.size := H.lt
  have hb := below1 w1 (.cells #[.int .u64 (uv ((hh &&& ~~~d.ch) ||| (d.vh &&& d.ch))), .int .u64 (uv ((hl &&& ~~~d.cl) ||| (d.vl &&& d.cl)))] 24)
  clear eC eD eH
  replace C := C.on hb
  replace D := D.on hb
  replace H := H.on hb
  replace L := L.trans (hb.mono L.size)
  have O : Blk (w1.alloc (.cells #[.int .u64 (uv ((hh &&& ~~~d.ch) ||| (d.vh &&& d.ch))), .int .u64 (uv ((hl &&& ~~~d.cl) ||| (d.vl &&& d.cl)))] 24)) w1.heap.size 24 #[.int .u64 (uv ((hh &&& ~~~d.ch) ||| (d.vh &&& d.ch))), .int .u64 (uv ((hl &&& ~~~d.cl) ||| (d.vl &&& d.cl)))] := Blk.new w1 _ _
  clear hb
  generalize (w1.alloc (.cells #[.int .u64 (uv ((hh &&& ~~~d.ch) ||| (d.vh &&& d.ch))), .int .u64 (uv ((hl &&& ~~~d.cl) ||| (d.vl &&& d.cl)))] 24)) = w2 at L C D H O ⊢
  have eC := C.four
  have eD := D.four
  have eH := H.pair
  have eO := O.pair
  go_wp2_with fail
  clear eC eD eH eO
  have KEEP1 : ∀ u1 u2 : World, Below u1.heap.size u1 u2 → ((Below w.heap.size w u1 ∧ u1.cell? ⟨w.heap.size, 0, none⟩ = some (.int .u64 (uv c.vh)) ∧ u1.cell? ⟨w.heap.size, 1, none⟩ = some (.int .u64 (uv c.vl)) ∧ u1.cell? ⟨w.heap.size, 2, none⟩ = some (.int .u64 (uv c.ch)) ∧ u1.cell? ⟨w.heap.size, 3, none⟩ = some (.int .u64 (uv c.cl)) ∧ u1.cell? ⟨w.heap.size + 1, 0, none⟩ = some (.int .u64 (uv d.vh)) ∧ u1.cell? ⟨w.heap.size + 1, 1, none⟩ = some (.int .u64 (uv d.vl)) ∧ u1.cell? ⟨w.heap.size + 1, 2, none⟩ = some (.int .u64 (uv d.ch)) ∧ u1.cell? ⟨w.heap.size + 1, 3, none⟩ = some (.int .u64 (uv d.cl)) ∧ u1.cell? ⟨w.heap.size + 1 + 1, 0, none⟩ = some (.int .u64 (uv hh)) ∧ u1.cell? ⟨w.heap.size + 1 + 1, 1, none⟩ = some (.int .u64 (uv hl)) ∧ u1.cell? ⟨w1.heap.size, 0, none⟩ = some (.int .u64 (uv ((hh &&& ~~~d.ch) ||| (d.vh &&& d.ch)))) ∧ u1.cell? ⟨w1.heap.size, 1, none⟩ = some (.int .u64 (uv ((hl &&& ~~~d.cl) ||| (d.vl &&& d.cl))))) ∧ Blk u1 (w.heap.size) 26 #[.int .u64 (uv c.vh), .int .u64 (uv c.vl), .int .u64 (uv c.ch), .int .u64 (uv c.cl)] ∧ Blk u1 (w.heap.size + 1) 26 #[.int .u64 (uv d.vh), .int .u64 (uv d.vl), .int .u64 (uv d.ch), .int .u64 (uv d.cl)] ∧ Blk u1 (w.heap.size + 1 + 1) 24 #[.int .u64 (uv hh), .int .u64 (uv hl)] ∧ Blk u1 (w1.heap.size) 24 #[.int .u64 (uv ((hh &&& ~~~d.ch) ||| (d.vh &&& d.ch))), .int .u64 (uv ((hl &&& ~~~d.cl) ||| (d.vl &&& d.cl)))]) → ((Below w.heap.size w u2 ∧ u2.cell? ⟨w.heap.size, 0, none⟩ = some (.int .u64 (uv c.vh)) ∧ u2.cell? ⟨w.heap.size, 1, none⟩ = some (.int .u64 (uv c.vl)) ∧ u2.cell? ⟨w.heap.size, 2, none⟩ = some (.int .u64 (uv c.ch)) ∧ u2.cell? ⟨w.heap.size, 3, none⟩ = some (.int .u64 (uv c.cl)) ∧ u2.cell? ⟨w.heap.size + 1, 0, none⟩ = some (.int .u64 (uv d.vh)) ∧ u2.cell? ⟨w.heap.size + 1, 1, none⟩ = some (.int .u64 (uv d.vl)) ∧ u2.cell? ⟨w.heap.size + 1, 2, none⟩ = some (.int .u64 (uv d.ch)) ∧ u2.cell? ⟨w.heap.size + 1, 3, none⟩ = some (.int .u64 (uv d.cl)) ∧ u2.cell? ⟨w.heap.size + 1 + 1, 0, none⟩ = some (.int .u64 (uv hh)) ∧ u2.cell? ⟨w.heap.size + 1 + 1, 1, none⟩ = some (.int .u64 (uv hl)) ∧ u2.cell? ⟨w1.heap.size, 0, none⟩ = some (.int .u64 (uv ((hh &&& ~~~d.ch) ||| (d.vh &&& d.ch)))) ∧ u2.cell? ⟨w1.heap.size, 1, none⟩ = some (.int .u64 (uv ((hl &&& ~~~d.cl) ||| (d.vl &&& d.cl))))) ∧ Blk u2 (w.heap.size) 26 #[.int .u64 (uv c.vh), .int .u64 (uv c.vl), .int .u64 (uv c.ch), .int .u64 (uv c.cl)] ∧ Blk u2 (w.heap.size + 1) 26 #[.int .u64 (uv d.vh), .int .u64 (uv d.vl), .int .u64 (uv d.ch), .int .u64 (uv d.cl)] ∧ Blk u2 (w.heap.size + 1 + 1) 24 #[.int .u64 (uv hh), .int .u64 (uv hl)] ∧ Blk u2 (w1.heap.size) 24 #[.int .u64 (uv ((hh &&& ~~~d.ch) ||| (d.vh &&& d.ch))), .int .u64 (uv ((hl &&& ~~~d.cl) ||| (d.vl &&& d.cl)))]) := fun _ _ hb h => ⟨hold12 hb h.1, (h.2.1).on hb, (h.2.2.1).on hb, (h.2.2.2.1).on hb, (h.2.2.2.2).on hb⟩
  have S0 : (Below w.heap.size w w2 ∧ w2.cell? ⟨w.heap.size, 0, none⟩ = some (.int .u64 (uv c.vh)) ∧ w2.cell? ⟨w.heap.size, 1, none⟩ = some (.int .u64 (uv c.vl)) ∧ w2.cell? ⟨w.heap.size, 2, none⟩ = some (.int .u64 (uv c.ch)) ∧ w2.cell? ⟨w.heap.size, 3, none⟩ = some (.int .u64 (uv c.cl)) ∧ w2.cell? ⟨w.heap.size + 1, 0, none⟩ = some (.int .u64 (uv d.vh)) ∧ w2.cell? ⟨w.heap.size + 1, 1, none⟩ = some (.int .u64 (uv d.vl)) ∧ w2.cell? ⟨w.heap.size + 1, 2, none⟩ = some (.int .u64 (uv d.ch)) ∧ w2.cell? ⟨w.heap.size + 1, 3, none⟩ = some (.int .u64 (uv d.cl)) ∧ w2.cell? ⟨w.heap.size + 1 + 1, 0, none⟩ = some (.int .u64 (uv hh)) ∧ w2.cell? ⟨w.heap.size + 1 + 1, 1, none⟩ = some (.int .u64 (uv hl)) ∧ w2.cell? ⟨w1.heap.size, 0, none⟩ = some (.int .u64 (uv ((hh &&& ~~~d.ch) ||| (d.vh &&& d.ch)))) ∧ w2.cell? ⟨w1.heap.size, 1, none⟩ = some (.int .u64 (uv ((hl &&& ~~~d.cl) ||| (d.vl &&& d.cl))))) ∧ Blk w2 (w.heap.size) 26 #[.int .u64 (uv c.vh), .int .u64 (uv c.vl), .int .u64 (uv c.ch), .int .u64 (uv c.cl)] ∧ Blk w2 (w.heap.size + 1) 26 #[.int .u64 (uv d.vh), .int .u64 (uv d.vl), .int .u64 (uv d.ch), .int .u64 (uv d.cl)] ∧ Blk w2 (w.heap.size + 1 + 1) 24 #[.int .u64 (uv hh), .int .u64 (uv hl)] ∧ Blk w2 (w1.heap.size) 24 #[.int .u64 (uv ((hh &&& ~~~d.ch) ||| (d.vh &&& d.ch))), .int .u64 (uv ((hl &&& ~~~d.cl) ||| (d.vl &&& d.cl)))] := ⟨⟨L, C.cell 0, C.cell 1, C.cell 2, C.cell 3, D.cell 0, D.cell 1, D.cell 2, D.cell 3, H.cell 0, H.cell 1, O.cell 0, O.cell 1⟩, C, D, H, O⟩
  go_region_held3 (fun w' => (Below w.heap.size w w' ∧ w'.cell? ⟨w.heap.size, 0, none⟩ = some (.int .u64 (uv c.vh)) ∧ w'.cell? ⟨w.heap.size, 1, none⟩ = some (.int .u64 (uv c.vl)) ∧ w'.cell? ⟨w.heap.size, 2, none⟩ = some (.int .u64 (uv c.ch)) ∧ w'.cell? ⟨w.heap.size, 3, none⟩ = some (.int .u64 (uv c.cl)) ∧ w'.cell? ⟨w.heap.size + 1, 0, none⟩ = some (.int .u64 (uv d.vh)) ∧ w'.cell? ⟨w.heap.size + 1, 1, none⟩ = some (.int .u64 (uv d.vl)) ∧ w'.cell? ⟨w.heap.size + 1, 2, none⟩ = some (.int .u64 (uv d.ch)) ∧ w'.cell? ⟨w.heap.size + 1, 3, none⟩ = some (.int .u64 (uv d.cl)) ∧ w'.cell? ⟨w.heap.size + 1 + 1, 0, none⟩ = some (.int .u64 (uv hh)) ∧ w'.cell? ⟨w.heap.size + 1 + 1, 1, none⟩ = some (.int .u64 (uv hl)) ∧ w'.cell? ⟨w1.heap.size, 0, none⟩ = some (.int .u64 (uv ((hh &&& ~~~d.ch) ||| (d.vh &&& d.ch)))) ∧ w'.cell? ⟨w1.heap.size, 1, none⟩ = some (.int .u64 (uv ((hl &&& ~~~d.cl) ||| (d.vl &&& d.cl))))) ∧ Blk w' (w.heap.size) 26 #[.int .u64 (uv c.vh), .int .u64 (uv c.vl), .int .u64 (uv c.ch), .int .u64 (uv c.cl)] ∧ Blk w' (w.heap.size + 1) 26 #[.int .u64 (uv d.vh), .int .u64 (uv d.vl), .int .u64 (uv d.ch), .int .u64 (uv d.cl)] ∧ Blk w' (w.heap.size + 1 + 1) 24 #[.int .u64 (uv hh), .int .u64 (uv hl)] ∧ Blk w' (w1.heap.size) 24 #[.int .u64 (uv ((hh &&& ~~~d.ch) ||| (d.vh &&& d.ch))), .int .u64 (uv ((hl &&& ~~~d.cl) ||| (d.vl &&& d.cl)))])
    (first | exact KEEP1 _ _ (by assumption) (by assumption) | exact KEEP1 _ _ (Below.refl _ _).drew S0)
    (first
      | (go_at_call 29; (with_reducible refine (crset d hh hl _).mono ?_); rintro e wz3 ⟨rfl, hb⟩))
  clear S0 KEEP1 hb
  rename_i hS
  clear C D H O L
  obtain ⟨⟨L, _, _, _, _, _, _, _, _, _, _, _, _⟩, C, D, H, O⟩ := hS
  have eC := C.four
  have eD := D.four
  have eH := H.pair
  have eO := O.pair
  go_wp2_with fail
  (with_reducible refine (cbef_t c d _ h1 hg).mono ?_)
  rintro e w4 ⟨rfl, hb⟩
  clear eC eD eH eO
  replace C := C.on hb
  replace D := D.on hb
  replace H := H.on hb
  replace O := O.on hb
  replace L := L.trans (hb.mono L.size)
  clear hb
  have eC := C.four
  have eD := D.four
  have eH := H.pair
  have eO := O.pair
  go_upto_region 5 with (fail)
  have ltCX : w.heap.size < w4.heap.size := C.lt
  have ltDX : w.heap.size + 1 < w4.heap.size := D.lt
  have ltHX : w.heap.size + 1 + 1 < w4.heap.size := H.lt
  have ltOX : w1.heap.size < w4.heap.size := O.lt
  have hb := below1 w4 (.cells #[.int .u64 (uv (c.vh &&& (c.ch &&& ~~~d.ch))), .int .u64 (uv (c.vl &&& (c.cl &&& ~~~d.cl))), .int .u64 (uv (c.ch &&& ~~~d.ch)), .int .u64 (uv (c.cl &&& ~~~d.cl))] 26)
  clear eC eD eH eO
  replace C := C.on hb
  replace D := D.on hb
  replace H := H.on hb
  replace O := O.on hb
  replace L := L.trans (hb.mono L.size)
  have X : Blk (w4.alloc (.cells #[.int .u64 (uv (c.vh &&& (c.ch &&& ~~~d.ch))), .int .u64 (uv (c.vl &&& (c.cl &&& ~~~d.cl))), .int .u64 (uv (c.ch &&& ~~~d.ch)), .int .u64 (uv (c.cl &&& ~~~d.cl))] 26)) w4.heap.size 26 #[.int .u64 (uv (c.vh &&& (c.ch &&& ~~~d.ch))), .int .u64 (uv (c.vl &&& (c.cl &&& ~~~d.cl))), .int .u64 (uv (c.ch &&& ~~~d.ch)), .int .u64 (uv (c.cl &&& ~~~d.cl))] := Blk.new w4 _ _
  clear hb
  generalize (w4.alloc (.cells #[.int .u64 (uv (c.vh &&& (c.ch &&& ~~~d.ch))), .int .u64 (uv (c.vl &&& (c.cl &&& ~~~d.cl))), .int .u64 (uv (c.ch &&& ~~~d.ch)), .int .u64 (uv (c.cl &&& ~~~d.cl))] 26)) = w5 at L C D H O X ⊢
  have eC := C.four
  have eD := D.four
  have eH := H.pair
  have eO := O.pair
  have eX := X.four
  go_wp2_with fail
  (with_reducible refine (caft_t c d _ h1).mono ?_)
  rintro e w6 ⟨rfl, hb⟩
  clear eC eD eH eO eX
  replace C := C.on hb
  replace D := D.on hb
  replace H := H.on hb
  replace O := O.on hb
  replace X := X.on hb
  replace L := L.trans (hb.mono L.size)
  clear hb
  have eC := C.four
  have eD := D.four
  have eH := H.pair
  have eO := O.pair
  have eX := X.four
  go_upto_region 6 with (fail)
  have ltCY : w.heap.size < w6.heap.size := C.lt
  have ltDY : w.heap.size + 1 < w6.heap.size := D.lt
  have ltHY : w.heap.size + 1 + 1 < w6.heap.size := H.lt
  have ltOY : w1.heap.size < w6.heap.size := O.lt
  have ltXY : w4.heap.size < w6.heap.size := X.lt
  have hb := below1 w6 (.cells #[.int .u64 (uv ((c.vh &&& ~~~d.ch) ||| (d.vh &&& d.ch))), .int .u64 (uv ((c.vl &&& ~~~d.cl) ||| (d.vl &&& d.cl))), .int .u64 (uv (c.ch ||| d.ch)), .int .u64 (uv (c.cl ||| d.cl))] 26)
  clear eC eD eH eO eX
  replace C := C.on hb
  replace D := D.on hb
  replace H := H.on hb
  replace O := O.on hb
  replace X := X.on hb
  replace L := L.trans (hb.mono L.size)
  have Y : Blk (w6.alloc (.cells #[.int .u64 (uv ((c.vh &&& ~~~d.ch) ||| (d.vh &&& d.ch))), .int .u64 (uv ((c.vl &&& ~~~d.cl) ||| (d.vl &&& d.cl))), .int .u64 (uv (c.ch ||| d.ch)), .int .u64 (uv (c.cl ||| d.cl))] 26)) w6.heap.size 26 #[.int .u64 (uv ((c.vh &&& ~~~d.ch) ||| (d.vh &&& d.ch))), .int .u64 (uv ((c.vl &&& ~~~d.cl) ||| (d.vl &&& d.cl))), .int .u64 (uv (c.ch ||| d.ch)), .int .u64 (uv (c.cl ||| d.cl))] := Blk.new w6 _ _
  clear hb
  generalize (w6.alloc (.cells #[.int .u64 (uv ((c.vh &&& ~~~d.ch) ||| (d.vh &&& d.ch))), .int .u64 (uv ((c.vl &&& ~~~d.cl) ||| (d.vl &&& d.cl))), .int .u64 (uv (c.ch ||| d.ch)), .int .u64 (uv (c.cl ||| d.cl))] 26)) = w7 at L C D H O X Y ⊢
  have eC := C.four
  have eD := D.four
  have eH := H.pair
  have eO := O.pair
  have eX := X.four
  have eY := Y.four
  go_wp2_with fail
  (with_reducible refine (text_s s c _ h1 HS.out).mono ?_)
  rintro e w8 ⟨rfl, hb⟩
  clear eC eD eH eO eX eY
  replace C := C.on hb
  replace D := D.on hb
  replace H := H.on hb
  replace O := O.on hb
  replace X := X.on hb
  replace Y := Y.on hb
  replace L := L.trans (hb.mono L.size)
  clear hb
  have eC := C.four
  have eD := D.four
  have eH := H.pair
  have eO := O.pair
  have eX := X.four
  have eY := Y.four
  go_wp2_with fail
  (with_reducible refine (text_a t c d _ h1 HT.out).mono ?_)
  rintro e w9 ⟨rfl, hb⟩
  clear eC eD eH eO eX eY
  replace C := C.on hb
  replace D := D.on hb
  replace H := H.on hb
  replace O := O.on hb
  replace X := X.on hb
  replace Y := Y.on hb
  replace L := L.trans (hb.mono L.size)
  clear hb
  have eC := C.four
  have eD := D.four
  have eH := H.pair
  have eO := O.pair
  have eX := X.four
  have eY := Y.four
  go_wp2_with fail
  (with_reducible refine (text_b r c d _ HR.out).mono ?_)
  rintro e w10 ⟨rfl, hb⟩
  clear eC eD eH eO eX eY
  replace C := C.on hb
  replace D := D.on hb
  replace H := H.on hb
  replace O := O.on hb
  replace X := X.on hb
  replace Y := Y.on hb
  replace L := L.trans (hb.mono L.size)
  clear hb
  have eC := C.four
  have eD := D.four
  have eH := H.pair
  have eO := O.pair
  have eX := X.four
  have eY := Y.four
  go_wp2_with fail
  (with_reducible refine (rhas_g _ s c d hh hl _ h1 HS.out hx).mono ?_)
  rintro e w11 ⟨rfl, hb⟩
  clear eC eD eH eO eX eY
  replace C := C.on hb
  replace D := D.on hb
  replace H := H.on hb
  replace O := O.on hb
  replace X := X.on hb
  replace Y := Y.on hb
  replace L := L.trans (hb.mono L.size)
  clear hb
  have eC := C.four
  have eD := D.four
  have eH := H.pair
  have eO := O.pair
  have eX := X.four
  have eY := Y.four
  go_wp2_with fail
  (with_reducible refine (rhas_is _ r (Cb.bef c d) hh hl _ (bef_snd c d) HR.out hb2).mono ?_)
  rintro e w12 ⟨rfl, hb⟩
  clear eC eD eH eO eX eY
  replace C := C.on hb
  replace D := D.on hb
  replace H := H.on hb
  replace O := O.on hb
  replace X := X.on hb
  replace Y := Y.on hb
  replace L := L.trans (hb.mono L.size)
  clear hb
  have eC := C.four
  have eD := D.four
  have eH := H.pair
  have eO := O.pair
  have eX := X.four
  have eY := Y.four
  go_wp2_with fail
  (with_reducible refine (awake2_c _).mono ?_)
  rintro e w13 ⟨rfl, hb⟩
  clear eC eD eH eO eX eY
  replace C := C.on hb
  replace D := D.on hb
  replace H := H.on hb
  replace O := O.on hb
  replace X := X.on hb
  replace Y := Y.on hb
  replace L := L.trans (hb.mono L.size)
  clear hb
  have eC := C.four
  have eD := D.four
  have eH := H.pair
  have eO := O.pair
  have eX := X.four
  have eY := Y.four
  go_wp2_with fail
  (with_reducible refine (rhas_is _ s c hh hl _ h1 HS.out hy).mono ?_)
  rintro e w14 ⟨rfl, hb⟩
  clear eC eD eH eO eX eY
  replace C := C.on hb
  replace D := D.on hb
  replace H := H.on hb
  replace O := O.on hb
  replace X := X.on hb
  replace Y := Y.on hb
  replace L := L.trans (hb.mono L.size)
  clear hb
  have eC := C.four
  have eD := D.four
  have eH := H.pair
  have eO := O.pair
  have eX := X.four
  have eY := Y.four
  go_wp2
  go_ret
  exact ⟨rfl, L⟩

set_option maxHeartbeats 4000000 in
theorem sets_tft (c d : Cb) (hh hl : BitVec 64) (w : World) (h1 : c.snd = true) (s t r : ByteArray) (HS : Hid (txt c = s)) (HT : Hid (txt (Cb.aft c d) = t)) (HR : Hid (txt (Cb.bef c d) = r)) (hg : c.agr d = true) (hx : c.has ((hh &&& ~~~d.ch) ||| (d.vh &&& d.ch)) ((hl &&& ~~~d.cl) ||| (d.vl &&& d.cl)) = true) (hb2 : (Cb.bef c d).has hh hl = true) (hy : c.has hh hl = false) :
    Calls Try.prog 7 #[.agg #[.int .u64 (uv c.vh), .int .u64 (uv c.vl), .int .u64 (uv c.ch), .int .u64 (uv c.cl)], .agg #[.int .u64 (uv d.vh), .int .u64 (uv d.vl), .int .u64 (uv d.ch), .int .u64 (uv d.cl)], .agg #[.int .u64 (uv hh), .int .u64 (uv hl)]] w fun e w' => e = .returned (.bool true) ∧ Below w.heap.size w w' := by
  have bx0 := below1 w (.cells #[.int .u64 (uv c.vh), .int .u64 (uv c.vl), .int .u64 (uv c.ch), .int .u64 (uv c.cl)] 26)
  have Cb0 : Blk (w.alloc (.cells #[.int .u64 (uv c.vh), .int .u64 (uv c.vl), .int .u64 (uv c.ch), .int .u64 (uv c.cl)] 26)) (w.heap.size) 26 #[.int .u64 (uv c.vh), .int .u64 (uv c.vl), .int .u64 (uv c.ch), .int .u64 (uv c.cl)] := Blk.new w _ _
  have L0 : Below w.heap.size w (w.alloc (.cells #[.int .u64 (uv c.vh), .int .u64 (uv c.vl), .int .u64 (uv c.ch), .int .u64 (uv c.cl)] 26)) := bx0
  have bx1 := below1 (w.alloc (.cells #[.int .u64 (uv c.vh), .int .u64 (uv c.vl), .int .u64 (uv c.ch), .int .u64 (uv c.cl)] 26)) (.cells #[.int .u64 (uv d.vh), .int .u64 (uv d.vl), .int .u64 (uv d.ch), .int .u64 (uv d.cl)] 26)
  have Cb1 := Cb0.on bx1
  have Db1 : Blk ((w.alloc (.cells #[.int .u64 (uv c.vh), .int .u64 (uv c.vl), .int .u64 (uv c.ch), .int .u64 (uv c.cl)] 26)).alloc (.cells #[.int .u64 (uv d.vh), .int .u64 (uv d.vl), .int .u64 (uv d.ch), .int .u64 (uv d.cl)] 26)) (w.heap.size + 1) 26 #[.int .u64 (uv d.vh), .int .u64 (uv d.vl), .int .u64 (uv d.ch), .int .u64 (uv d.cl)] := by have h := Blk.new (w.alloc (.cells #[.int .u64 (uv c.vh), .int .u64 (uv c.vl), .int .u64 (uv c.ch), .int .u64 (uv c.cl)] 26)) 26 #[.int .u64 (uv d.vh), .int .u64 (uv d.vl), .int .u64 (uv d.ch), .int .u64 (uv d.cl)]; simpa only [World.size_alloc] using h
  have L1 : Below w.heap.size w ((w.alloc (.cells #[.int .u64 (uv c.vh), .int .u64 (uv c.vl), .int .u64 (uv c.ch), .int .u64 (uv c.cl)] 26)).alloc (.cells #[.int .u64 (uv d.vh), .int .u64 (uv d.vl), .int .u64 (uv d.ch), .int .u64 (uv d.cl)] 26)) := L0.trans (bx1.mono L0.size)
  have bx2 := below1 ((w.alloc (.cells #[.int .u64 (uv c.vh), .int .u64 (uv c.vl), .int .u64 (uv c.ch), .int .u64 (uv c.cl)] 26)).alloc (.cells #[.int .u64 (uv d.vh), .int .u64 (uv d.vl), .int .u64 (uv d.ch), .int .u64 (uv d.cl)] 26)) (.cells #[.int .u64 (uv hh), .int .u64 (uv hl)] 24)
  have Cb2 := Cb1.on bx2
  have Db2 := Db1.on bx2
  have Hb2 : Blk (((w.alloc (.cells #[.int .u64 (uv c.vh), .int .u64 (uv c.vl), .int .u64 (uv c.ch), .int .u64 (uv c.cl)] 26)).alloc (.cells #[.int .u64 (uv d.vh), .int .u64 (uv d.vl), .int .u64 (uv d.ch), .int .u64 (uv d.cl)] 26)).alloc (.cells #[.int .u64 (uv hh), .int .u64 (uv hl)] 24)) (w.heap.size + 1 + 1) 24 #[.int .u64 (uv hh), .int .u64 (uv hl)] := by have h := Blk.new ((w.alloc (.cells #[.int .u64 (uv c.vh), .int .u64 (uv c.vl), .int .u64 (uv c.ch), .int .u64 (uv c.cl)] 26)).alloc (.cells #[.int .u64 (uv d.vh), .int .u64 (uv d.vl), .int .u64 (uv d.ch), .int .u64 (uv d.cl)] 26)) 24 #[.int .u64 (uv hh), .int .u64 (uv hl)]; simpa only [World.size_alloc] using h
  have L2 : Below w.heap.size w (((w.alloc (.cells #[.int .u64 (uv c.vh), .int .u64 (uv c.vl), .int .u64 (uv c.ch), .int .u64 (uv c.cl)] 26)).alloc (.cells #[.int .u64 (uv d.vh), .int .u64 (uv d.vl), .int .u64 (uv d.ch), .int .u64 (uv d.cl)] 26)).alloc (.cells #[.int .u64 (uv hh), .int .u64 (uv hl)] 24)) := L1.trans (bx2.mono L1.size)
  have C := Cb2
  have D := Db2
  have H := Hb2
  have L := L2
  clear bx0 bx1 bx2 L0 L1 L2 Cb0 Cb1 Cb2 Db1 Db2 Hb2
  have eC := C.four
  have eD := D.four
  have eH := H.pair
  go_enter Try.func7, Try.ntmps7
  go_wp2_with fail
  (with_reducible refine (cset d hh hl _).mono ?_)
  rintro e w1 ⟨rfl, hb⟩
  clear eC eD eH
  replace C := C.on hb
  replace D := D.on hb
  replace H := H.on hb
  replace L := L.trans (hb.mono L.size)
  clear hb
  have eC := C.four
  have eD := D.four
  have eH := H.pair
  go_upto_region 2 with (fail)
  have ltCO : w.heap.size < w1.heap.size := C.lt
  have ltDO : w.heap.size + 1 < w1.heap.size := D.lt
  have ltHO : w.heap.size + 1 + 1 < w1.heap.size := H.lt
  have hb := below1 w1 (.cells #[.int .u64 (uv ((hh &&& ~~~d.ch) ||| (d.vh &&& d.ch))), .int .u64 (uv ((hl &&& ~~~d.cl) ||| (d.vl &&& d.cl)))] 24)
  clear eC eD eH
  replace C := C.on hb
  replace D := D.on hb
  replace H := H.on hb
  replace L := L.trans (hb.mono L.size)
  have O : Blk (w1.alloc (.cells #[.int .u64 (uv ((hh &&& ~~~d.ch) ||| (d.vh &&& d.ch))), .int .u64 (uv ((hl &&& ~~~d.cl) ||| (d.vl &&& d.cl)))] 24)) w1.heap.size 24 #[.int .u64 (uv ((hh &&& ~~~d.ch) ||| (d.vh &&& d.ch))), .int .u64 (uv ((hl &&& ~~~d.cl) ||| (d.vl &&& d.cl)))] := Blk.new w1 _ _
  clear hb
  generalize (w1.alloc (.cells #[.int .u64 (uv ((hh &&& ~~~d.ch) ||| (d.vh &&& d.ch))), .int .u64 (uv ((hl &&& ~~~d.cl) ||| (d.vl &&& d.cl)))] 24)) = w2 at L C D H O ⊢
  have eC := C.four
  have eD := D.four
  have eH := H.pair
  have eO := O.pair
  go_wp2_with fail
  clear eC eD eH eO
  have KEEP1 : ∀ u1 u2 : World, Below u1.heap.size u1 u2 → ((Below w.heap.size w u1 ∧ u1.cell? ⟨w.heap.size, 0, none⟩ = some (.int .u64 (uv c.vh)) ∧ u1.cell? ⟨w.heap.size, 1, none⟩ = some (.int .u64 (uv c.vl)) ∧ u1.cell? ⟨w.heap.size, 2, none⟩ = some (.int .u64 (uv c.ch)) ∧ u1.cell? ⟨w.heap.size, 3, none⟩ = some (.int .u64 (uv c.cl)) ∧ u1.cell? ⟨w.heap.size + 1, 0, none⟩ = some (.int .u64 (uv d.vh)) ∧ u1.cell? ⟨w.heap.size + 1, 1, none⟩ = some (.int .u64 (uv d.vl)) ∧ u1.cell? ⟨w.heap.size + 1, 2, none⟩ = some (.int .u64 (uv d.ch)) ∧ u1.cell? ⟨w.heap.size + 1, 3, none⟩ = some (.int .u64 (uv d.cl)) ∧ u1.cell? ⟨w.heap.size + 1 + 1, 0, none⟩ = some (.int .u64 (uv hh)) ∧ u1.cell? ⟨w.heap.size + 1 + 1, 1, none⟩ = some (.int .u64 (uv hl)) ∧ u1.cell? ⟨w1.heap.size, 0, none⟩ = some (.int .u64 (uv ((hh &&& ~~~d.ch) ||| (d.vh &&& d.ch)))) ∧ u1.cell? ⟨w1.heap.size, 1, none⟩ = some (.int .u64 (uv ((hl &&& ~~~d.cl) ||| (d.vl &&& d.cl))))) ∧ Blk u1 (w.heap.size) 26 #[.int .u64 (uv c.vh), .int .u64 (uv c.vl), .int .u64 (uv c.ch), .int .u64 (uv c.cl)] ∧ Blk u1 (w.heap.size + 1) 26 #[.int .u64 (uv d.vh), .int .u64 (uv d.vl), .int .u64 (uv d.ch), .int .u64 (uv d.cl)] ∧ Blk u1 (w.heap.size + 1 + 1) 24 #[.int .u64 (uv hh), .int .u64 (uv hl)] ∧ Blk u1 (w1.heap.size) 24 #[.int .u64 (uv ((hh &&& ~~~d.ch) ||| (d.vh &&& d.ch))), .int .u64 (uv ((hl &&& ~~~d.cl) ||| (d.vl &&& d.cl)))]) → ((Below w.heap.size w u2 ∧ u2.cell? ⟨w.heap.size, 0, none⟩ = some (.int .u64 (uv c.vh)) ∧ u2.cell? ⟨w.heap.size, 1, none⟩ = some (.int .u64 (uv c.vl)) ∧ u2.cell? ⟨w.heap.size, 2, none⟩ = some (.int .u64 (uv c.ch)) ∧ u2.cell? ⟨w.heap.size, 3, none⟩ = some (.int .u64 (uv c.cl)) ∧ u2.cell? ⟨w.heap.size + 1, 0, none⟩ = some (.int .u64 (uv d.vh)) ∧ u2.cell? ⟨w.heap.size + 1, 1, none⟩ = some (.int .u64 (uv d.vl)) ∧ u2.cell? ⟨w.heap.size + 1, 2, none⟩ = some (.int .u64 (uv d.ch)) ∧ u2.cell? ⟨w.heap.size + 1, 3, none⟩ = some (.int .u64 (uv d.cl)) ∧ u2.cell? ⟨w.heap.size + 1 + 1, 0, none⟩ = some (.int .u64 (uv hh)) ∧ u2.cell? ⟨w.heap.size + 1 + 1, 1, none⟩ = some (.int .u64 (uv hl)) ∧ u2.cell? ⟨w1.heap.size, 0, none⟩ = some (.int .u64 (uv ((hh &&& ~~~d.ch) ||| (d.vh &&& d.ch)))) ∧ u2.cell? ⟨w1.heap.size, 1, none⟩ = some (.int .u64 (uv ((hl &&& ~~~d.cl) ||| (d.vl &&& d.cl))))) ∧ Blk u2 (w.heap.size) 26 #[.int .u64 (uv c.vh), .int .u64 (uv c.vl), .int .u64 (uv c.ch), .int .u64 (uv c.cl)] ∧ Blk u2 (w.heap.size + 1) 26 #[.int .u64 (uv d.vh), .int .u64 (uv d.vl), .int .u64 (uv d.ch), .int .u64 (uv d.cl)] ∧ Blk u2 (w.heap.size + 1 + 1) 24 #[.int .u64 (uv hh), .int .u64 (uv hl)] ∧ Blk u2 (w1.heap.size) 24 #[.int .u64 (uv ((hh &&& ~~~d.ch) ||| (d.vh &&& d.ch))), .int .u64 (uv ((hl &&& ~~~d.cl) ||| (d.vl &&& d.cl)))]) := fun _ _ hb h => ⟨hold12 hb h.1, (h.2.1).on hb, (h.2.2.1).on hb, (h.2.2.2.1).on hb, (h.2.2.2.2).on hb⟩
  have S0 : (Below w.heap.size w w2 ∧ w2.cell? ⟨w.heap.size, 0, none⟩ = some (.int .u64 (uv c.vh)) ∧ w2.cell? ⟨w.heap.size, 1, none⟩ = some (.int .u64 (uv c.vl)) ∧ w2.cell? ⟨w.heap.size, 2, none⟩ = some (.int .u64 (uv c.ch)) ∧ w2.cell? ⟨w.heap.size, 3, none⟩ = some (.int .u64 (uv c.cl)) ∧ w2.cell? ⟨w.heap.size + 1, 0, none⟩ = some (.int .u64 (uv d.vh)) ∧ w2.cell? ⟨w.heap.size + 1, 1, none⟩ = some (.int .u64 (uv d.vl)) ∧ w2.cell? ⟨w.heap.size + 1, 2, none⟩ = some (.int .u64 (uv d.ch)) ∧ w2.cell? ⟨w.heap.size + 1, 3, none⟩ = some (.int .u64 (uv d.cl)) ∧ w2.cell? ⟨w.heap.size + 1 + 1, 0, none⟩ = some (.int .u64 (uv hh)) ∧ w2.cell? ⟨w.heap.size + 1 + 1, 1, none⟩ = some (.int .u64 (uv hl)) ∧ w2.cell? ⟨w1.heap.size, 0, none⟩ = some (.int .u64 (uv ((hh &&& ~~~d.ch) ||| (d.vh &&& d.ch)))) ∧ w2.cell? ⟨w1.heap.size, 1, none⟩ = some (.int .u64 (uv ((hl &&& ~~~d.cl) ||| (d.vl &&& d.cl))))) ∧ Blk w2 (w.heap.size) 26 #[.int .u64 (uv c.vh), .int .u64 (uv c.vl), .int .u64 (uv c.ch), .int .u64 (uv c.cl)] ∧ Blk w2 (w.heap.size + 1) 26 #[.int .u64 (uv d.vh), .int .u64 (uv d.vl), .int .u64 (uv d.ch), .int .u64 (uv d.cl)] ∧ Blk w2 (w.heap.size + 1 + 1) 24 #[.int .u64 (uv hh), .int .u64 (uv hl)] ∧ Blk w2 (w1.heap.size) 24 #[.int .u64 (uv ((hh &&& ~~~d.ch) ||| (d.vh &&& d.ch))), .int .u64 (uv ((hl &&& ~~~d.cl) ||| (d.vl &&& d.cl)))] := ⟨⟨L, C.cell 0, C.cell 1, C.cell 2, C.cell 3, D.cell 0, D.cell 1, D.cell 2, D.cell 3, H.cell 0, H.cell 1, O.cell 0, O.cell 1⟩, C, D, H, O⟩
  go_region_held3 (fun w' => (Below w.heap.size w w' ∧ w'.cell? ⟨w.heap.size, 0, none⟩ = some (.int .u64 (uv c.vh)) ∧ w'.cell? ⟨w.heap.size, 1, none⟩ = some (.int .u64 (uv c.vl)) ∧ w'.cell? ⟨w.heap.size, 2, none⟩ = some (.int .u64 (uv c.ch)) ∧ w'.cell? ⟨w.heap.size, 3, none⟩ = some (.int .u64 (uv c.cl)) ∧ w'.cell? ⟨w.heap.size + 1, 0, none⟩ = some (.int .u64 (uv d.vh)) ∧ w'.cell? ⟨w.heap.size + 1, 1, none⟩ = some (.int .u64 (uv d.vl)) ∧ w'.cell? ⟨w.heap.size + 1, 2, none⟩ = some (.int .u64 (uv d.ch)) ∧ w'.cell? ⟨w.heap.size + 1, 3, none⟩ = some (.int .u64 (uv d.cl)) ∧ w'.cell? ⟨w.heap.size + 1 + 1, 0, none⟩ = some (.int .u64 (uv hh)) ∧ w'.cell? ⟨w.heap.size + 1 + 1, 1, none⟩ = some (.int .u64 (uv hl)) ∧ w'.cell? ⟨w1.heap.size, 0, none⟩ = some (.int .u64 (uv ((hh &&& ~~~d.ch) ||| (d.vh &&& d.ch)))) ∧ w'.cell? ⟨w1.heap.size, 1, none⟩ = some (.int .u64 (uv ((hl &&& ~~~d.cl) ||| (d.vl &&& d.cl))))) ∧ Blk w' (w.heap.size) 26 #[.int .u64 (uv c.vh), .int .u64 (uv c.vl), .int .u64 (uv c.ch), .int .u64 (uv c.cl)] ∧ Blk w' (w.heap.size + 1) 26 #[.int .u64 (uv d.vh), .int .u64 (uv d.vl), .int .u64 (uv d.ch), .int .u64 (uv d.cl)] ∧ Blk w' (w.heap.size + 1 + 1) 24 #[.int .u64 (uv hh), .int .u64 (uv hl)] ∧ Blk w' (w1.heap.size) 24 #[.int .u64 (uv ((hh &&& ~~~d.ch) ||| (d.vh &&& d.ch))), .int .u64 (uv ((hl &&& ~~~d.cl) ||| (d.vl &&& d.cl)))])
    (first | exact KEEP1 _ _ (by assumption) (by assumption) | exact KEEP1 _ _ (Below.refl _ _).drew S0)
    (first
      | (go_at_call 29; (with_reducible refine (crset d hh hl _).mono ?_); rintro e wz3 ⟨rfl, hb⟩))
  clear S0 KEEP1 hb
  rename_i hS
  clear C D H O L
  obtain ⟨⟨L, _, _, _, _, _, _, _, _, _, _, _, _⟩, C, D, H, O⟩ := hS
  have eC := C.four
  have eD := D.four
  have eH := H.pair
  have eO := O.pair
  go_wp2_with fail
  (with_reducible refine (cbef_t c d _ h1 hg).mono ?_)
  rintro e w4 ⟨rfl, hb⟩
  clear eC eD eH eO
  replace C := C.on hb
  replace D := D.on hb
  replace H := H.on hb
  replace O := O.on hb
  replace L := L.trans (hb.mono L.size)
  clear hb
  have eC := C.four
  have eD := D.four
  have eH := H.pair
  have eO := O.pair
  go_upto_region 5 with (fail)
  have ltCX : w.heap.size < w4.heap.size := C.lt
  have ltDX : w.heap.size + 1 < w4.heap.size := D.lt
  have ltHX : w.heap.size + 1 + 1 < w4.heap.size := H.lt
  have ltOX : w1.heap.size < w4.heap.size := O.lt
  have hb := below1 w4 (.cells #[.int .u64 (uv (c.vh &&& (c.ch &&& ~~~d.ch))), .int .u64 (uv (c.vl &&& (c.cl &&& ~~~d.cl))), .int .u64 (uv (c.ch &&& ~~~d.ch)), .int .u64 (uv (c.cl &&& ~~~d.cl))] 26)
  clear eC eD eH eO
  replace C := C.on hb
  replace D := D.on hb
  replace H := H.on hb
  replace O := O.on hb
  replace L := L.trans (hb.mono L.size)
  have X : Blk (w4.alloc (.cells #[.int .u64 (uv (c.vh &&& (c.ch &&& ~~~d.ch))), .int .u64 (uv (c.vl &&& (c.cl &&& ~~~d.cl))), .int .u64 (uv (c.ch &&& ~~~d.ch)), .int .u64 (uv (c.cl &&& ~~~d.cl))] 26)) w4.heap.size 26 #[.int .u64 (uv (c.vh &&& (c.ch &&& ~~~d.ch))), .int .u64 (uv (c.vl &&& (c.cl &&& ~~~d.cl))), .int .u64 (uv (c.ch &&& ~~~d.ch)), .int .u64 (uv (c.cl &&& ~~~d.cl))] := Blk.new w4 _ _
  clear hb
  generalize (w4.alloc (.cells #[.int .u64 (uv (c.vh &&& (c.ch &&& ~~~d.ch))), .int .u64 (uv (c.vl &&& (c.cl &&& ~~~d.cl))), .int .u64 (uv (c.ch &&& ~~~d.ch)), .int .u64 (uv (c.cl &&& ~~~d.cl))] 26)) = w5 at L C D H O X ⊢
  have eC := C.four
  have eD := D.four
  have eH := H.pair
  have eO := O.pair
  have eX := X.four
  go_wp2_with fail
  (with_reducible refine (caft_t c d _ h1).mono ?_)
  rintro e w6 ⟨rfl, hb⟩
  clear eC eD eH eO eX
  replace C := C.on hb
  replace D := D.on hb
  replace H := H.on hb
  replace O := O.on hb
  replace X := X.on hb
  replace L := L.trans (hb.mono L.size)
  clear hb
  have eC := C.four
  have eD := D.four
  have eH := H.pair
  have eO := O.pair
  have eX := X.four
  go_upto_region 6 with (fail)
  have ltCY : w.heap.size < w6.heap.size := C.lt
  have ltDY : w.heap.size + 1 < w6.heap.size := D.lt
  have ltHY : w.heap.size + 1 + 1 < w6.heap.size := H.lt
  have ltOY : w1.heap.size < w6.heap.size := O.lt
  have ltXY : w4.heap.size < w6.heap.size := X.lt
  have hb := below1 w6 (.cells #[.int .u64 (uv ((c.vh &&& ~~~d.ch) ||| (d.vh &&& d.ch))), .int .u64 (uv ((c.vl &&& ~~~d.cl) ||| (d.vl &&& d.cl))), .int .u64 (uv (c.ch ||| d.ch)), .int .u64 (uv (c.cl ||| d.cl))] 26)
  clear eC eD eH eO eX
  replace C := C.on hb
  replace D := D.on hb
  replace H := H.on hb
  replace O := O.on hb
  replace X := X.on hb
  replace L := L.trans (hb.mono L.size)
  have Y : Blk (w6.alloc (.cells #[.int .u64 (uv ((c.vh &&& ~~~d.ch) ||| (d.vh &&& d.ch))), .int .u64 (uv ((c.vl &&& ~~~d.cl) ||| (d.vl &&& d.cl))), .int .u64 (uv (c.ch ||| d.ch)), .int .u64 (uv (c.cl ||| d.cl))] 26)) w6.heap.size 26 #[.int .u64 (uv ((c.vh &&& ~~~d.ch) ||| (d.vh &&& d.ch))), .int .u64 (uv ((c.vl &&& ~~~d.cl) ||| (d.vl &&& d.cl))), .int .u64 (uv (c.ch ||| d.ch)), .int .u64 (uv (c.cl ||| d.cl))] := Blk.new w6 _ _
  clear hb
  generalize (w6.alloc (.cells #[.int .u64 (uv ((c.vh &&& ~~~d.ch) ||| (d.vh &&& d.ch))), .int .u64 (uv ((c.vl &&& ~~~d.cl) ||| (d.vl &&& d.cl))), .int .u64 (uv (c.ch ||| d.ch)), .int .u64 (uv (c.cl ||| d.cl))] 26)) = w7 at L C D H O X Y ⊢
  have eC := C.four
  have eD := D.four
  have eH := H.pair
  have eO := O.pair
  have eX := X.four
  have eY := Y.four
  go_wp2_with fail
  (with_reducible refine (text_s s c _ h1 HS.out).mono ?_)
  rintro e w8 ⟨rfl, hb⟩
  clear eC eD eH eO eX eY
  replace C := C.on hb
  replace D := D.on hb
  replace H := H.on hb
  replace O := O.on hb
  replace X := X.on hb
  replace Y := Y.on hb
  replace L := L.trans (hb.mono L.size)
  clear hb
  have eC := C.four
  have eD := D.four
  have eH := H.pair
  have eO := O.pair
  have eX := X.four
  have eY := Y.four
  go_wp2_with fail
  (with_reducible refine (text_a t c d _ h1 HT.out).mono ?_)
  rintro e w9 ⟨rfl, hb⟩
  clear eC eD eH eO eX eY
  replace C := C.on hb
  replace D := D.on hb
  replace H := H.on hb
  replace O := O.on hb
  replace X := X.on hb
  replace Y := Y.on hb
  replace L := L.trans (hb.mono L.size)
  clear hb
  have eC := C.four
  have eD := D.four
  have eH := H.pair
  have eO := O.pair
  have eX := X.four
  have eY := Y.four
  go_wp2_with fail
  (with_reducible refine (text_b r c d _ HR.out).mono ?_)
  rintro e w10 ⟨rfl, hb⟩
  clear eC eD eH eO eX eY
  replace C := C.on hb
  replace D := D.on hb
  replace H := H.on hb
  replace O := O.on hb
  replace X := X.on hb
  replace Y := Y.on hb
  replace L := L.trans (hb.mono L.size)
  clear hb
  have eC := C.four
  have eD := D.four
  have eH := H.pair
  have eO := O.pair
  have eX := X.four
  have eY := Y.four
  go_wp2_with fail
  (with_reducible refine (rhas_g _ s c d hh hl _ h1 HS.out hx).mono ?_)
  rintro e w11 ⟨rfl, hb⟩
  clear eC eD eH eO eX eY
  replace C := C.on hb
  replace D := D.on hb
  replace H := H.on hb
  replace O := O.on hb
  replace X := X.on hb
  replace Y := Y.on hb
  replace L := L.trans (hb.mono L.size)
  clear hb
  have eC := C.four
  have eD := D.four
  have eH := H.pair
  have eO := O.pair
  have eX := X.four
  have eY := Y.four
  go_wp2_with fail
  (with_reducible refine (rhas_is _ r (Cb.bef c d) hh hl _ (bef_snd c d) HR.out hb2).mono ?_)
  rintro e w12 ⟨rfl, hb⟩
  clear eC eD eH eO eX eY
  replace C := C.on hb
  replace D := D.on hb
  replace H := H.on hb
  replace O := O.on hb
  replace X := X.on hb
  replace Y := Y.on hb
  replace L := L.trans (hb.mono L.size)
  clear hb
  have eC := C.four
  have eD := D.four
  have eH := H.pair
  have eO := O.pair
  have eX := X.four
  have eY := Y.four
  go_wp2_with fail
  (with_reducible refine (awake2_c _).mono ?_)
  rintro e w13 ⟨rfl, hb⟩
  clear eC eD eH eO eX eY
  replace C := C.on hb
  replace D := D.on hb
  replace H := H.on hb
  replace O := O.on hb
  replace X := X.on hb
  replace Y := Y.on hb
  replace L := L.trans (hb.mono L.size)
  clear hb
  have eC := C.four
  have eD := D.four
  have eH := H.pair
  have eO := O.pair
  have eX := X.four
  have eY := Y.four
  go_wp2_with fail
  (with_reducible refine (rhas_is _ s c hh hl _ h1 HS.out hy).mono ?_)
  rintro e w14 ⟨rfl, hb⟩
  clear eC eD eH eO eX eY
  replace C := C.on hb
  replace D := D.on hb
  replace H := H.on hb
  replace O := O.on hb
  replace X := X.on hb
  replace Y := Y.on hb
  replace L := L.trans (hb.mono L.size)
  clear hb
  have eC := C.four
  have eD := D.four
  have eH := H.pair
  have eO := O.pair
  have eX := X.four
  have eY := Y.four
  go_wp2
  go_ret
  exact ⟨rfl, L⟩

set_option maxHeartbeats 4000000 in
theorem sets_ttf (c d : Cb) (hh hl : BitVec 64) (w : World) (h1 : c.snd = true) (s t r : ByteArray) (HS : Hid (txt c = s)) (HT : Hid (txt (Cb.aft c d) = t)) (HR : Hid (txt (Cb.bef c d) = r)) (hg : c.agr d = true) (hx : c.has ((hh &&& ~~~d.ch) ||| (d.vh &&& d.ch)) ((hl &&& ~~~d.cl) ||| (d.vl &&& d.cl)) = false) (hb2 : (Cb.bef c d).has hh hl = false) (hy : c.has hh hl = true) (ha2 : (Cb.aft c d).has ((hh &&& ~~~d.ch) ||| (d.vh &&& d.ch)) ((hl &&& ~~~d.cl) ||| (d.vl &&& d.cl)) = true) :
    Calls Try.prog 7 #[.agg #[.int .u64 (uv c.vh), .int .u64 (uv c.vl), .int .u64 (uv c.ch), .int .u64 (uv c.cl)], .agg #[.int .u64 (uv d.vh), .int .u64 (uv d.vl), .int .u64 (uv d.ch), .int .u64 (uv d.cl)], .agg #[.int .u64 (uv hh), .int .u64 (uv hl)]] w fun e w' => e = .returned (.bool true) ∧ Below w.heap.size w w' := by
  have bx0 := below1 w (.cells #[.int .u64 (uv c.vh), .int .u64 (uv c.vl), .int .u64 (uv c.ch), .int .u64 (uv c.cl)] 26)
  have Cb0 : Blk (w.alloc (.cells #[.int .u64 (uv c.vh), .int .u64 (uv c.vl), .int .u64 (uv c.ch), .int .u64 (uv c.cl)] 26)) (w.heap.size) 26 #[.int .u64 (uv c.vh), .int .u64 (uv c.vl), .int .u64 (uv c.ch), .int .u64 (uv c.cl)] := Blk.new w _ _
  have L0 : Below w.heap.size w (w.alloc (.cells #[.int .u64 (uv c.vh), .int .u64 (uv c.vl), .int .u64 (uv c.ch), .int .u64 (uv c.cl)] 26)) := bx0
  have bx1 := below1 (w.alloc (.cells #[.int .u64 (uv c.vh), .int .u64 (uv c.vl), .int .u64 (uv c.ch), .int .u64 (uv c.cl)] 26)) (.cells #[.int .u64 (uv d.vh), .int .u64 (uv d.vl), .int .u64 (uv d.ch), .int .u64 (uv d.cl)] 26)
  have Cb1 := Cb0.on bx1
  have Db1 : Blk ((w.alloc (.cells #[.int .u64 (uv c.vh), .int .u64 (uv c.vl), .int .u64 (uv c.ch), .int .u64 (uv c.cl)] 26)).alloc (.cells #[.int .u64 (uv d.vh), .int .u64 (uv d.vl), .int .u64 (uv d.ch), .int .u64 (uv d.cl)] 26)) (w.heap.size + 1) 26 #[.int .u64 (uv d.vh), .int .u64 (uv d.vl), .int .u64 (uv d.ch), .int .u64 (uv d.cl)] := by have h := Blk.new (w.alloc (.cells #[.int .u64 (uv c.vh), .int .u64 (uv c.vl), .int .u64 (uv c.ch), .int .u64 (uv c.cl)] 26)) 26 #[.int .u64 (uv d.vh), .int .u64 (uv d.vl), .int .u64 (uv d.ch), .int .u64 (uv d.cl)]; simpa only [World.size_alloc] using h
  have L1 : Below w.heap.size w ((w.alloc (.cells #[.int .u64 (uv c.vh), .int .u64 (uv c.vl), .int .u64 (uv c.ch), .int .u64 (uv c.cl)] 26)).alloc (.cells #[.int .u64 (uv d.vh), .int .u64 (uv d.vl), .int .u64 (uv d.ch), .int .u64 (uv d.cl)] 26)) := L0.trans (bx1.mono L0.size)
  have bx2 := below1 ((w.alloc (.cells #[.int .u64 (uv c.vh), .int .u64 (uv c.vl), .int .u64 (uv c.ch), .int .u64 (uv c.cl)] 26)).alloc (.cells #[.int .u64 (uv d.vh), .int .u64 (uv d.vl), .int .u64 (uv d.ch), .int .u64 (uv d.cl)] 26)) (.cells #[.int .u64 (uv hh), .int .u64 (uv hl)] 24)
  have Cb2 := Cb1.on bx2
  have Db2 := Db1.on bx2
  have Hb2 : Blk (((w.alloc (.cells #[.int .u64 (uv c.vh), .int .u64 (uv c.vl), .int .u64 (uv c.ch), .int .u64 (uv c.cl)] 26)).alloc (.cells #[.int .u64 (uv d.vh), .int .u64 (uv d.vl), .int .u64 (uv d.ch), .int .u64 (uv d.cl)] 26)).alloc (.cells #[.int .u64 (uv hh), .int .u64 (uv hl)] 24)) (w.heap.size + 1 + 1) 24 #[.int .u64 (uv hh), .int .u64 (uv hl)] := by have h := Blk.new ((w.alloc (.cells #[.int .u64 (uv c.vh), .int .u64 (uv c.vl), .int .u64 (uv c.ch), .int .u64 (uv c.cl)] 26)).alloc (.cells #[.int .u64 (uv d.vh), .int .u64 (uv d.vl), .int .u64 (uv d.ch), .int .u64 (uv d.cl)] 26)) 24 #[.int .u64 (uv hh), .int .u64 (uv hl)]; simpa only [World.size_alloc] using h
  have L2 : Below w.heap.size w (((w.alloc (.cells #[.int .u64 (uv c.vh), .int .u64 (uv c.vl), .int .u64 (uv c.ch), .int .u64 (uv c.cl)] 26)).alloc (.cells #[.int .u64 (uv d.vh), .int .u64 (uv d.vl), .int .u64 (uv d.ch), .int .u64 (uv d.cl)] 26)).alloc (.cells #[.int .u64 (uv hh), .int .u64 (uv hl)] 24)) := L1.trans (bx2.mono L1.size)
  have C := Cb2
  have D := Db2
  have H := Hb2
  have L := L2
  clear bx0 bx1 bx2 L0 L1 L2 Cb0 Cb1 Cb2 Db1 Db2 Hb2
  have eC := C.four
  have eD := D.four
  have eH := H.pair
  go_enter Try.func7, Try.ntmps7
  go_wp2_with fail
  (with_reducible refine (cset d hh hl _).mono ?_)
  rintro e w1 ⟨rfl, hb⟩
  clear eC eD eH
  replace C := C.on hb
  replace D := D.on hb
  replace H := H.on hb
  replace L := L.trans (hb.mono L.size)
  clear hb
  have eC := C.four
  have eD := D.four
  have eH := H.pair
  go_upto_region 2 with (fail)
  have ltCO : w.heap.size < w1.heap.size := C.lt
  have ltDO : w.heap.size + 1 < w1.heap.size := D.lt
  have ltHO : w.heap.size + 1 + 1 < w1.heap.size := H.lt
  have hb := below1 w1 (.cells #[.int .u64 (uv ((hh &&& ~~~d.ch) ||| (d.vh &&& d.ch))), .int .u64 (uv ((hl &&& ~~~d.cl) ||| (d.vl &&& d.cl)))] 24)
  clear eC eD eH
  replace C := C.on hb
  replace D := D.on hb
  replace H := H.on hb
  replace L := L.trans (hb.mono L.size)
  have O : Blk (w1.alloc (.cells #[.int .u64 (uv ((hh &&& ~~~d.ch) ||| (d.vh &&& d.ch))), .int .u64 (uv ((hl &&& ~~~d.cl) ||| (d.vl &&& d.cl)))] 24)) w1.heap.size 24 #[.int .u64 (uv ((hh &&& ~~~d.ch) ||| (d.vh &&& d.ch))), .int .u64 (uv ((hl &&& ~~~d.cl) ||| (d.vl &&& d.cl)))] := Blk.new w1 _ _
  clear hb
  generalize (w1.alloc (.cells #[.int .u64 (uv ((hh &&& ~~~d.ch) ||| (d.vh &&& d.ch))), .int .u64 (uv ((hl &&& ~~~d.cl) ||| (d.vl &&& d.cl)))] 24)) = w2 at L C D H O ⊢
  have eC := C.four
  have eD := D.four
  have eH := H.pair
  have eO := O.pair
  go_wp2_with fail
  clear eC eD eH eO
  have KEEP1 : ∀ u1 u2 : World, Below u1.heap.size u1 u2 → ((Below w.heap.size w u1 ∧ u1.cell? ⟨w.heap.size, 0, none⟩ = some (.int .u64 (uv c.vh)) ∧ u1.cell? ⟨w.heap.size, 1, none⟩ = some (.int .u64 (uv c.vl)) ∧ u1.cell? ⟨w.heap.size, 2, none⟩ = some (.int .u64 (uv c.ch)) ∧ u1.cell? ⟨w.heap.size, 3, none⟩ = some (.int .u64 (uv c.cl)) ∧ u1.cell? ⟨w.heap.size + 1, 0, none⟩ = some (.int .u64 (uv d.vh)) ∧ u1.cell? ⟨w.heap.size + 1, 1, none⟩ = some (.int .u64 (uv d.vl)) ∧ u1.cell? ⟨w.heap.size + 1, 2, none⟩ = some (.int .u64 (uv d.ch)) ∧ u1.cell? ⟨w.heap.size + 1, 3, none⟩ = some (.int .u64 (uv d.cl)) ∧ u1.cell? ⟨w.heap.size + 1 + 1, 0, none⟩ = some (.int .u64 (uv hh)) ∧ u1.cell? ⟨w.heap.size + 1 + 1, 1, none⟩ = some (.int .u64 (uv hl)) ∧ u1.cell? ⟨w1.heap.size, 0, none⟩ = some (.int .u64 (uv ((hh &&& ~~~d.ch) ||| (d.vh &&& d.ch)))) ∧ u1.cell? ⟨w1.heap.size, 1, none⟩ = some (.int .u64 (uv ((hl &&& ~~~d.cl) ||| (d.vl &&& d.cl))))) ∧ Blk u1 (w.heap.size) 26 #[.int .u64 (uv c.vh), .int .u64 (uv c.vl), .int .u64 (uv c.ch), .int .u64 (uv c.cl)] ∧ Blk u1 (w.heap.size + 1) 26 #[.int .u64 (uv d.vh), .int .u64 (uv d.vl), .int .u64 (uv d.ch), .int .u64 (uv d.cl)] ∧ Blk u1 (w.heap.size + 1 + 1) 24 #[.int .u64 (uv hh), .int .u64 (uv hl)] ∧ Blk u1 (w1.heap.size) 24 #[.int .u64 (uv ((hh &&& ~~~d.ch) ||| (d.vh &&& d.ch))), .int .u64 (uv ((hl &&& ~~~d.cl) ||| (d.vl &&& d.cl)))]) → ((Below w.heap.size w u2 ∧ u2.cell? ⟨w.heap.size, 0, none⟩ = some (.int .u64 (uv c.vh)) ∧ u2.cell? ⟨w.heap.size, 1, none⟩ = some (.int .u64 (uv c.vl)) ∧ u2.cell? ⟨w.heap.size, 2, none⟩ = some (.int .u64 (uv c.ch)) ∧ u2.cell? ⟨w.heap.size, 3, none⟩ = some (.int .u64 (uv c.cl)) ∧ u2.cell? ⟨w.heap.size + 1, 0, none⟩ = some (.int .u64 (uv d.vh)) ∧ u2.cell? ⟨w.heap.size + 1, 1, none⟩ = some (.int .u64 (uv d.vl)) ∧ u2.cell? ⟨w.heap.size + 1, 2, none⟩ = some (.int .u64 (uv d.ch)) ∧ u2.cell? ⟨w.heap.size + 1, 3, none⟩ = some (.int .u64 (uv d.cl)) ∧ u2.cell? ⟨w.heap.size + 1 + 1, 0, none⟩ = some (.int .u64 (uv hh)) ∧ u2.cell? ⟨w.heap.size + 1 + 1, 1, none⟩ = some (.int .u64 (uv hl)) ∧ u2.cell? ⟨w1.heap.size, 0, none⟩ = some (.int .u64 (uv ((hh &&& ~~~d.ch) ||| (d.vh &&& d.ch)))) ∧ u2.cell? ⟨w1.heap.size, 1, none⟩ = some (.int .u64 (uv ((hl &&& ~~~d.cl) ||| (d.vl &&& d.cl))))) ∧ Blk u2 (w.heap.size) 26 #[.int .u64 (uv c.vh), .int .u64 (uv c.vl), .int .u64 (uv c.ch), .int .u64 (uv c.cl)] ∧ Blk u2 (w.heap.size + 1) 26 #[.int .u64 (uv d.vh), .int .u64 (uv d.vl), .int .u64 (uv d.ch), .int .u64 (uv d.cl)] ∧ Blk u2 (w.heap.size + 1 + 1) 24 #[.int .u64 (uv hh), .int .u64 (uv hl)] ∧ Blk u2 (w1.heap.size) 24 #[.int .u64 (uv ((hh &&& ~~~d.ch) ||| (d.vh &&& d.ch))), .int .u64 (uv ((hl &&& ~~~d.cl) ||| (d.vl &&& d.cl)))]) := fun _ _ hb h => ⟨hold12 hb h.1, (h.2.1).on hb, (h.2.2.1).on hb, (h.2.2.2.1).on hb, (h.2.2.2.2).on hb⟩
  have S0 : (Below w.heap.size w w2 ∧ w2.cell? ⟨w.heap.size, 0, none⟩ = some (.int .u64 (uv c.vh)) ∧ w2.cell? ⟨w.heap.size, 1, none⟩ = some (.int .u64 (uv c.vl)) ∧ w2.cell? ⟨w.heap.size, 2, none⟩ = some (.int .u64 (uv c.ch)) ∧ w2.cell? ⟨w.heap.size, 3, none⟩ = some (.int .u64 (uv c.cl)) ∧ w2.cell? ⟨w.heap.size + 1, 0, none⟩ = some (.int .u64 (uv d.vh)) ∧ w2.cell? ⟨w.heap.size + 1, 1, none⟩ = some (.int .u64 (uv d.vl)) ∧ w2.cell? ⟨w.heap.size + 1, 2, none⟩ = some (.int .u64 (uv d.ch)) ∧ w2.cell? ⟨w.heap.size + 1, 3, none⟩ = some (.int .u64 (uv d.cl)) ∧ w2.cell? ⟨w.heap.size + 1 + 1, 0, none⟩ = some (.int .u64 (uv hh)) ∧ w2.cell? ⟨w.heap.size + 1 + 1, 1, none⟩ = some (.int .u64 (uv hl)) ∧ w2.cell? ⟨w1.heap.size, 0, none⟩ = some (.int .u64 (uv ((hh &&& ~~~d.ch) ||| (d.vh &&& d.ch)))) ∧ w2.cell? ⟨w1.heap.size, 1, none⟩ = some (.int .u64 (uv ((hl &&& ~~~d.cl) ||| (d.vl &&& d.cl))))) ∧ Blk w2 (w.heap.size) 26 #[.int .u64 (uv c.vh), .int .u64 (uv c.vl), .int .u64 (uv c.ch), .int .u64 (uv c.cl)] ∧ Blk w2 (w.heap.size + 1) 26 #[.int .u64 (uv d.vh), .int .u64 (uv d.vl), .int .u64 (uv d.ch), .int .u64 (uv d.cl)] ∧ Blk w2 (w.heap.size + 1 + 1) 24 #[.int .u64 (uv hh), .int .u64 (uv hl)] ∧ Blk w2 (w1.heap.size) 24 #[.int .u64 (uv ((hh &&& ~~~d.ch) ||| (d.vh &&& d.ch))), .int .u64 (uv ((hl &&& ~~~d.cl) ||| (d.vl &&& d.cl)))] := ⟨⟨L, C.cell 0, C.cell 1, C.cell 2, C.cell 3, D.cell 0, D.cell 1, D.cell 2, D.cell 3, H.cell 0, H.cell 1, O.cell 0, O.cell 1⟩, C, D, H, O⟩
  go_region_held3 (fun w' => (Below w.heap.size w w' ∧ w'.cell? ⟨w.heap.size, 0, none⟩ = some (.int .u64 (uv c.vh)) ∧ w'.cell? ⟨w.heap.size, 1, none⟩ = some (.int .u64 (uv c.vl)) ∧ w'.cell? ⟨w.heap.size, 2, none⟩ = some (.int .u64 (uv c.ch)) ∧ w'.cell? ⟨w.heap.size, 3, none⟩ = some (.int .u64 (uv c.cl)) ∧ w'.cell? ⟨w.heap.size + 1, 0, none⟩ = some (.int .u64 (uv d.vh)) ∧ w'.cell? ⟨w.heap.size + 1, 1, none⟩ = some (.int .u64 (uv d.vl)) ∧ w'.cell? ⟨w.heap.size + 1, 2, none⟩ = some (.int .u64 (uv d.ch)) ∧ w'.cell? ⟨w.heap.size + 1, 3, none⟩ = some (.int .u64 (uv d.cl)) ∧ w'.cell? ⟨w.heap.size + 1 + 1, 0, none⟩ = some (.int .u64 (uv hh)) ∧ w'.cell? ⟨w.heap.size + 1 + 1, 1, none⟩ = some (.int .u64 (uv hl)) ∧ w'.cell? ⟨w1.heap.size, 0, none⟩ = some (.int .u64 (uv ((hh &&& ~~~d.ch) ||| (d.vh &&& d.ch)))) ∧ w'.cell? ⟨w1.heap.size, 1, none⟩ = some (.int .u64 (uv ((hl &&& ~~~d.cl) ||| (d.vl &&& d.cl))))) ∧ Blk w' (w.heap.size) 26 #[.int .u64 (uv c.vh), .int .u64 (uv c.vl), .int .u64 (uv c.ch), .int .u64 (uv c.cl)] ∧ Blk w' (w.heap.size + 1) 26 #[.int .u64 (uv d.vh), .int .u64 (uv d.vl), .int .u64 (uv d.ch), .int .u64 (uv d.cl)] ∧ Blk w' (w.heap.size + 1 + 1) 24 #[.int .u64 (uv hh), .int .u64 (uv hl)] ∧ Blk w' (w1.heap.size) 24 #[.int .u64 (uv ((hh &&& ~~~d.ch) ||| (d.vh &&& d.ch))), .int .u64 (uv ((hl &&& ~~~d.cl) ||| (d.vl &&& d.cl)))])
    (first | exact KEEP1 _ _ (by assumption) (by assumption) | exact KEEP1 _ _ (Below.refl _ _).drew S0)
    (first
      | (go_at_call 29; (with_reducible refine (crset d hh hl _).mono ?_); rintro e wz3 ⟨rfl, hb⟩))
  clear S0 KEEP1 hb
  rename_i hS
  clear C D H O L
  obtain ⟨⟨L, _, _, _, _, _, _, _, _, _, _, _, _⟩, C, D, H, O⟩ := hS
  have eC := C.four
  have eD := D.four
  have eH := H.pair
  have eO := O.pair
  go_wp2_with fail
  (with_reducible refine (cbef_t c d _ h1 hg).mono ?_)
  rintro e w4 ⟨rfl, hb⟩
  clear eC eD eH eO
  replace C := C.on hb
  replace D := D.on hb
  replace H := H.on hb
  replace O := O.on hb
  replace L := L.trans (hb.mono L.size)
  clear hb
  have eC := C.four
  have eD := D.four
  have eH := H.pair
  have eO := O.pair
  go_upto_region 5 with (fail)
  have ltCX : w.heap.size < w4.heap.size := C.lt
  have ltDX : w.heap.size + 1 < w4.heap.size := D.lt
  have ltHX : w.heap.size + 1 + 1 < w4.heap.size := H.lt
  have ltOX : w1.heap.size < w4.heap.size := O.lt
  have hb := below1 w4 (.cells #[.int .u64 (uv (c.vh &&& (c.ch &&& ~~~d.ch))), .int .u64 (uv (c.vl &&& (c.cl &&& ~~~d.cl))), .int .u64 (uv (c.ch &&& ~~~d.ch)), .int .u64 (uv (c.cl &&& ~~~d.cl))] 26)
  clear eC eD eH eO
  replace C := C.on hb
  replace D := D.on hb
  replace H := H.on hb
  replace O := O.on hb
  replace L := L.trans (hb.mono L.size)
  have X : Blk (w4.alloc (.cells #[.int .u64 (uv (c.vh &&& (c.ch &&& ~~~d.ch))), .int .u64 (uv (c.vl &&& (c.cl &&& ~~~d.cl))), .int .u64 (uv (c.ch &&& ~~~d.ch)), .int .u64 (uv (c.cl &&& ~~~d.cl))] 26)) w4.heap.size 26 #[.int .u64 (uv (c.vh &&& (c.ch &&& ~~~d.ch))), .int .u64 (uv (c.vl &&& (c.cl &&& ~~~d.cl))), .int .u64 (uv (c.ch &&& ~~~d.ch)), .int .u64 (uv (c.cl &&& ~~~d.cl))] := Blk.new w4 _ _
  clear hb
  generalize (w4.alloc (.cells #[.int .u64 (uv (c.vh &&& (c.ch &&& ~~~d.ch))), .int .u64 (uv (c.vl &&& (c.cl &&& ~~~d.cl))), .int .u64 (uv (c.ch &&& ~~~d.ch)), .int .u64 (uv (c.cl &&& ~~~d.cl))] 26)) = w5 at L C D H O X ⊢
  have eC := C.four
  have eD := D.four
  have eH := H.pair
  have eO := O.pair
  have eX := X.four
  go_wp2_with fail
  (with_reducible refine (caft_t c d _ h1).mono ?_)
  rintro e w6 ⟨rfl, hb⟩
  clear eC eD eH eO eX
  replace C := C.on hb
  replace D := D.on hb
  replace H := H.on hb
  replace O := O.on hb
  replace X := X.on hb
  replace L := L.trans (hb.mono L.size)
  clear hb
  have eC := C.four
  have eD := D.four
  have eH := H.pair
  have eO := O.pair
  have eX := X.four
  go_upto_region 6 with (fail)
  have ltCY : w.heap.size < w6.heap.size := C.lt
  have ltDY : w.heap.size + 1 < w6.heap.size := D.lt
  have ltHY : w.heap.size + 1 + 1 < w6.heap.size := H.lt
  have ltOY : w1.heap.size < w6.heap.size := O.lt
  have ltXY : w4.heap.size < w6.heap.size := X.lt
  have hb := below1 w6 (.cells #[.int .u64 (uv ((c.vh &&& ~~~d.ch) ||| (d.vh &&& d.ch))), .int .u64 (uv ((c.vl &&& ~~~d.cl) ||| (d.vl &&& d.cl))), .int .u64 (uv (c.ch ||| d.ch)), .int .u64 (uv (c.cl ||| d.cl))] 26)
  clear eC eD eH eO eX
  replace C := C.on hb
  replace D := D.on hb
  replace H := H.on hb
  replace O := O.on hb
  replace X := X.on hb
  replace L := L.trans (hb.mono L.size)
  have Y : Blk (w6.alloc (.cells #[.int .u64 (uv ((c.vh &&& ~~~d.ch) ||| (d.vh &&& d.ch))), .int .u64 (uv ((c.vl &&& ~~~d.cl) ||| (d.vl &&& d.cl))), .int .u64 (uv (c.ch ||| d.ch)), .int .u64 (uv (c.cl ||| d.cl))] 26)) w6.heap.size 26 #[.int .u64 (uv ((c.vh &&& ~~~d.ch) ||| (d.vh &&& d.ch))), .int .u64 (uv ((c.vl &&& ~~~d.cl) ||| (d.vl &&& d.cl))), .int .u64 (uv (c.ch ||| d.ch)), .int .u64 (uv (c.cl ||| d.cl))] := Blk.new w6 _ _
  clear hb
  generalize (w6.alloc (.cells #[.int .u64 (uv ((c.vh &&& ~~~d.ch) ||| (d.vh &&& d.ch))), .int .u64 (uv ((c.vl &&& ~~~d.cl) ||| (d.vl &&& d.cl))), .int .u64 (uv (c.ch ||| d.ch)), .int .u64 (uv (c.cl ||| d.cl))] 26)) = w7 at L C D H O X Y ⊢
  have eC := C.four
  have eD := D.four
  have eH := H.pair
  have eO := O.pair
  have eX := X.four
  have eY := Y.four
  go_wp2_with fail
  (with_reducible refine (text_s s c _ h1 HS.out).mono ?_)
  rintro e w8 ⟨rfl, hb⟩
  clear eC eD eH eO eX eY
  replace C := C.on hb
  replace D := D.on hb
  replace H := H.on hb
  replace O := O.on hb
  replace X := X.on hb
  replace Y := Y.on hb
  replace L := L.trans (hb.mono L.size)
  clear hb
  have eC := C.four
  have eD := D.four
  have eH := H.pair
  have eO := O.pair
  have eX := X.four
  have eY := Y.four
  go_wp2_with fail
  (with_reducible refine (text_a t c d _ h1 HT.out).mono ?_)
  rintro e w9 ⟨rfl, hb⟩
  clear eC eD eH eO eX eY
  replace C := C.on hb
  replace D := D.on hb
  replace H := H.on hb
  replace O := O.on hb
  replace X := X.on hb
  replace Y := Y.on hb
  replace L := L.trans (hb.mono L.size)
  clear hb
  have eC := C.four
  have eD := D.four
  have eH := H.pair
  have eO := O.pair
  have eX := X.four
  have eY := Y.four
  go_wp2_with fail
  (with_reducible refine (text_b r c d _ HR.out).mono ?_)
  rintro e w10 ⟨rfl, hb⟩
  clear eC eD eH eO eX eY
  replace C := C.on hb
  replace D := D.on hb
  replace H := H.on hb
  replace O := O.on hb
  replace X := X.on hb
  replace Y := Y.on hb
  replace L := L.trans (hb.mono L.size)
  clear hb
  have eC := C.four
  have eD := D.four
  have eH := H.pair
  have eO := O.pair
  have eX := X.four
  have eY := Y.four
  go_wp2_with fail
  (with_reducible refine (rhas_g _ s c d hh hl _ h1 HS.out hx).mono ?_)
  rintro e w11 ⟨rfl, hb⟩
  clear eC eD eH eO eX eY
  replace C := C.on hb
  replace D := D.on hb
  replace H := H.on hb
  replace O := O.on hb
  replace X := X.on hb
  replace Y := Y.on hb
  replace L := L.trans (hb.mono L.size)
  clear hb
  have eC := C.four
  have eD := D.four
  have eH := H.pair
  have eO := O.pair
  have eX := X.four
  have eY := Y.four
  go_wp2_with fail
  (with_reducible refine (rhas_is _ r (Cb.bef c d) hh hl _ (bef_snd c d) HR.out hb2).mono ?_)
  rintro e w12 ⟨rfl, hb⟩
  clear eC eD eH eO eX eY
  replace C := C.on hb
  replace D := D.on hb
  replace H := H.on hb
  replace O := O.on hb
  replace X := X.on hb
  replace Y := Y.on hb
  replace L := L.trans (hb.mono L.size)
  clear hb
  have eC := C.four
  have eD := D.four
  have eH := H.pair
  have eO := O.pair
  have eX := X.four
  have eY := Y.four
  go_wp2_with fail
  (with_reducible refine (awake2_c _).mono ?_)
  rintro e w13 ⟨rfl, hb⟩
  clear eC eD eH eO eX eY
  replace C := C.on hb
  replace D := D.on hb
  replace H := H.on hb
  replace O := O.on hb
  replace X := X.on hb
  replace Y := Y.on hb
  replace L := L.trans (hb.mono L.size)
  clear hb
  have eC := C.four
  have eD := D.four
  have eH := H.pair
  have eO := O.pair
  have eX := X.four
  have eY := Y.four
  go_wp2_with fail
  (with_reducible refine (rhas_is _ s c hh hl _ h1 HS.out hy).mono ?_)
  rintro e w14 ⟨rfl, hb⟩
  clear eC eD eH eO eX eY
  replace C := C.on hb
  replace D := D.on hb
  replace H := H.on hb
  replace O := O.on hb
  replace X := X.on hb
  replace Y := Y.on hb
  replace L := L.trans (hb.mono L.size)
  clear hb
  have eC := C.four
  have eD := D.four
  have eH := H.pair
  have eO := O.pair
  have eX := X.four
  have eY := Y.four
  go_wp2_with fail
  (with_reducible refine (rhas_g _ t (Cb.aft c d) d hh hl _ (aft_snd c d h1) HT.out ha2).mono ?_)
  rintro e w15 ⟨rfl, hb⟩
  clear eC eD eH eO eX eY
  replace C := C.on hb
  replace D := D.on hb
  replace H := H.on hb
  replace O := O.on hb
  replace X := X.on hb
  replace Y := Y.on hb
  replace L := L.trans (hb.mono L.size)
  clear hb
  have eC := C.four
  have eD := D.four
  have eH := H.pair
  have eO := O.pair
  have eX := X.four
  have eY := Y.four
  go_wp2
  go_ret
  exact ⟨rfl, L⟩

set_option maxHeartbeats 4000000 in
theorem sets_ttt (c d : Cb) (hh hl : BitVec 64) (w : World) (h1 : c.snd = true) (s t r : ByteArray) (HS : Hid (txt c = s)) (HT : Hid (txt (Cb.aft c d) = t)) (HR : Hid (txt (Cb.bef c d) = r)) (hg : c.agr d = true) (hx : c.has ((hh &&& ~~~d.ch) ||| (d.vh &&& d.ch)) ((hl &&& ~~~d.cl) ||| (d.vl &&& d.cl)) = true) (hb2 : (Cb.bef c d).has hh hl = true) (hy : c.has hh hl = true) (ha2 : (Cb.aft c d).has ((hh &&& ~~~d.ch) ||| (d.vh &&& d.ch)) ((hl &&& ~~~d.cl) ||| (d.vl &&& d.cl)) = true) :
    Calls Try.prog 7 #[.agg #[.int .u64 (uv c.vh), .int .u64 (uv c.vl), .int .u64 (uv c.ch), .int .u64 (uv c.cl)], .agg #[.int .u64 (uv d.vh), .int .u64 (uv d.vl), .int .u64 (uv d.ch), .int .u64 (uv d.cl)], .agg #[.int .u64 (uv hh), .int .u64 (uv hl)]] w fun e w' => e = .returned (.bool true) ∧ Below w.heap.size w w' := by
  have bx0 := below1 w (.cells #[.int .u64 (uv c.vh), .int .u64 (uv c.vl), .int .u64 (uv c.ch), .int .u64 (uv c.cl)] 26)
  have Cb0 : Blk (w.alloc (.cells #[.int .u64 (uv c.vh), .int .u64 (uv c.vl), .int .u64 (uv c.ch), .int .u64 (uv c.cl)] 26)) (w.heap.size) 26 #[.int .u64 (uv c.vh), .int .u64 (uv c.vl), .int .u64 (uv c.ch), .int .u64 (uv c.cl)] := Blk.new w _ _
  have L0 : Below w.heap.size w (w.alloc (.cells #[.int .u64 (uv c.vh), .int .u64 (uv c.vl), .int .u64 (uv c.ch), .int .u64 (uv c.cl)] 26)) := bx0
  have bx1 := below1 (w.alloc (.cells #[.int .u64 (uv c.vh), .int .u64 (uv c.vl), .int .u64 (uv c.ch), .int .u64 (uv c.cl)] 26)) (.cells #[.int .u64 (uv d.vh), .int .u64 (uv d.vl), .int .u64 (uv d.ch), .int .u64 (uv d.cl)] 26)
  have Cb1 := Cb0.on bx1
  have Db1 : Blk ((w.alloc (.cells #[.int .u64 (uv c.vh), .int .u64 (uv c.vl), .int .u64 (uv c.ch), .int .u64 (uv c.cl)] 26)).alloc (.cells #[.int .u64 (uv d.vh), .int .u64 (uv d.vl), .int .u64 (uv d.ch), .int .u64 (uv d.cl)] 26)) (w.heap.size + 1) 26 #[.int .u64 (uv d.vh), .int .u64 (uv d.vl), .int .u64 (uv d.ch), .int .u64 (uv d.cl)] := by have h := Blk.new (w.alloc (.cells #[.int .u64 (uv c.vh), .int .u64 (uv c.vl), .int .u64 (uv c.ch), .int .u64 (uv c.cl)] 26)) 26 #[.int .u64 (uv d.vh), .int .u64 (uv d.vl), .int .u64 (uv d.ch), .int .u64 (uv d.cl)]; simpa only [World.size_alloc] using h
  have L1 : Below w.heap.size w ((w.alloc (.cells #[.int .u64 (uv c.vh), .int .u64 (uv c.vl), .int .u64 (uv c.ch), .int .u64 (uv c.cl)] 26)).alloc (.cells #[.int .u64 (uv d.vh), .int .u64 (uv d.vl), .int .u64 (uv d.ch), .int .u64 (uv d.cl)] 26)) := L0.trans (bx1.mono L0.size)
  have bx2 := below1 ((w.alloc (.cells #[.int .u64 (uv c.vh), .int .u64 (uv c.vl), .int .u64 (uv c.ch), .int .u64 (uv c.cl)] 26)).alloc (.cells #[.int .u64 (uv d.vh), .int .u64 (uv d.vl), .int .u64 (uv d.ch), .int .u64 (uv d.cl)] 26)) (.cells #[.int .u64 (uv hh), .int .u64 (uv hl)] 24)
  have Cb2 := Cb1.on bx2
  have Db2 := Db1.on bx2
  have Hb2 : Blk (((w.alloc (.cells #[.int .u64 (uv c.vh), .int .u64 (uv c.vl), .int .u64 (uv c.ch), .int .u64 (uv c.cl)] 26)).alloc (.cells #[.int .u64 (uv d.vh), .int .u64 (uv d.vl), .int .u64 (uv d.ch), .int .u64 (uv d.cl)] 26)).alloc (.cells #[.int .u64 (uv hh), .int .u64 (uv hl)] 24)) (w.heap.size + 1 + 1) 24 #[.int .u64 (uv hh), .int .u64 (uv hl)] := by have h := Blk.new ((w.alloc (.cells #[.int .u64 (uv c.vh), .int .u64 (uv c.vl), .int .u64 (uv c.ch), .int .u64 (uv c.cl)] 26)).alloc (.cells #[.int .u64 (uv d.vh), .int .u64 (uv d.vl), .int .u64 (uv d.ch), .int .u64 (uv d.cl)] 26)) 24 #[.int .u64 (uv hh), .int .u64 (uv hl)]; simpa only [World.size_alloc] using h
  have L2 : Below w.heap.size w (((w.alloc (.cells #[.int .u64 (uv c.vh), .int .u64 (uv c.vl), .int .u64 (uv c.ch), .int .u64 (uv c.cl)] 26)).alloc (.cells #[.int .u64 (uv d.vh), .int .u64 (uv d.vl), .int .u64 (uv d.ch), .int .u64 (uv d.cl)] 26)).alloc (.cells #[.int .u64 (uv hh), .int .u64 (uv hl)] 24)) := L1.trans (bx2.mono L1.size)
  have C := Cb2
  have D := Db2
  have H := Hb2
  have L := L2
  clear bx0 bx1 bx2 L0 L1 L2 Cb0 Cb1 Cb2 Db1 Db2 Hb2
  have eC := C.four
  have eD := D.four
  have eH := H.pair
  go_enter Try.func7, Try.ntmps7
  go_wp2_with fail
  (with_reducible refine (cset d hh hl _).mono ?_)
  rintro e w1 ⟨rfl, hb⟩
  clear eC eD eH
  replace C := C.on hb
  replace D := D.on hb
  replace H := H.on hb
  replace L := L.trans (hb.mono L.size)
  clear hb
  have eC := C.four
  have eD := D.four
  have eH := H.pair
  go_upto_region 2 with (fail)
  have ltCO : w.heap.size < w1.heap.size := C.lt
  have ltDO : w.heap.size + 1 < w1.heap.size := D.lt
  have ltHO : w.heap.size + 1 + 1 < w1.heap.size := H.lt
  have hb := below1 w1 (.cells #[.int .u64 (uv ((hh &&& ~~~d.ch) ||| (d.vh &&& d.ch))), .int .u64 (uv ((hl &&& ~~~d.cl) ||| (d.vl &&& d.cl)))] 24)
  clear eC eD eH
  replace C := C.on hb
  replace D := D.on hb
  replace H := H.on hb
  replace L := L.trans (hb.mono L.size)
  have O : Blk (w1.alloc (.cells #[.int .u64 (uv ((hh &&& ~~~d.ch) ||| (d.vh &&& d.ch))), .int .u64 (uv ((hl &&& ~~~d.cl) ||| (d.vl &&& d.cl)))] 24)) w1.heap.size 24 #[.int .u64 (uv ((hh &&& ~~~d.ch) ||| (d.vh &&& d.ch))), .int .u64 (uv ((hl &&& ~~~d.cl) ||| (d.vl &&& d.cl)))] := Blk.new w1 _ _
  clear hb
  generalize (w1.alloc (.cells #[.int .u64 (uv ((hh &&& ~~~d.ch) ||| (d.vh &&& d.ch))), .int .u64 (uv ((hl &&& ~~~d.cl) ||| (d.vl &&& d.cl)))] 24)) = w2 at L C D H O ⊢
  have eC := C.four
  have eD := D.four
  have eH := H.pair
  have eO := O.pair
  go_wp2_with fail
  clear eC eD eH eO
  have KEEP1 : ∀ u1 u2 : World, Below u1.heap.size u1 u2 → ((Below w.heap.size w u1 ∧ u1.cell? ⟨w.heap.size, 0, none⟩ = some (.int .u64 (uv c.vh)) ∧ u1.cell? ⟨w.heap.size, 1, none⟩ = some (.int .u64 (uv c.vl)) ∧ u1.cell? ⟨w.heap.size, 2, none⟩ = some (.int .u64 (uv c.ch)) ∧ u1.cell? ⟨w.heap.size, 3, none⟩ = some (.int .u64 (uv c.cl)) ∧ u1.cell? ⟨w.heap.size + 1, 0, none⟩ = some (.int .u64 (uv d.vh)) ∧ u1.cell? ⟨w.heap.size + 1, 1, none⟩ = some (.int .u64 (uv d.vl)) ∧ u1.cell? ⟨w.heap.size + 1, 2, none⟩ = some (.int .u64 (uv d.ch)) ∧ u1.cell? ⟨w.heap.size + 1, 3, none⟩ = some (.int .u64 (uv d.cl)) ∧ u1.cell? ⟨w.heap.size + 1 + 1, 0, none⟩ = some (.int .u64 (uv hh)) ∧ u1.cell? ⟨w.heap.size + 1 + 1, 1, none⟩ = some (.int .u64 (uv hl)) ∧ u1.cell? ⟨w1.heap.size, 0, none⟩ = some (.int .u64 (uv ((hh &&& ~~~d.ch) ||| (d.vh &&& d.ch)))) ∧ u1.cell? ⟨w1.heap.size, 1, none⟩ = some (.int .u64 (uv ((hl &&& ~~~d.cl) ||| (d.vl &&& d.cl))))) ∧ Blk u1 (w.heap.size) 26 #[.int .u64 (uv c.vh), .int .u64 (uv c.vl), .int .u64 (uv c.ch), .int .u64 (uv c.cl)] ∧ Blk u1 (w.heap.size + 1) 26 #[.int .u64 (uv d.vh), .int .u64 (uv d.vl), .int .u64 (uv d.ch), .int .u64 (uv d.cl)] ∧ Blk u1 (w.heap.size + 1 + 1) 24 #[.int .u64 (uv hh), .int .u64 (uv hl)] ∧ Blk u1 (w1.heap.size) 24 #[.int .u64 (uv ((hh &&& ~~~d.ch) ||| (d.vh &&& d.ch))), .int .u64 (uv ((hl &&& ~~~d.cl) ||| (d.vl &&& d.cl)))]) → ((Below w.heap.size w u2 ∧ u2.cell? ⟨w.heap.size, 0, none⟩ = some (.int .u64 (uv c.vh)) ∧ u2.cell? ⟨w.heap.size, 1, none⟩ = some (.int .u64 (uv c.vl)) ∧ u2.cell? ⟨w.heap.size, 2, none⟩ = some (.int .u64 (uv c.ch)) ∧ u2.cell? ⟨w.heap.size, 3, none⟩ = some (.int .u64 (uv c.cl)) ∧ u2.cell? ⟨w.heap.size + 1, 0, none⟩ = some (.int .u64 (uv d.vh)) ∧ u2.cell? ⟨w.heap.size + 1, 1, none⟩ = some (.int .u64 (uv d.vl)) ∧ u2.cell? ⟨w.heap.size + 1, 2, none⟩ = some (.int .u64 (uv d.ch)) ∧ u2.cell? ⟨w.heap.size + 1, 3, none⟩ = some (.int .u64 (uv d.cl)) ∧ u2.cell? ⟨w.heap.size + 1 + 1, 0, none⟩ = some (.int .u64 (uv hh)) ∧ u2.cell? ⟨w.heap.size + 1 + 1, 1, none⟩ = some (.int .u64 (uv hl)) ∧ u2.cell? ⟨w1.heap.size, 0, none⟩ = some (.int .u64 (uv ((hh &&& ~~~d.ch) ||| (d.vh &&& d.ch)))) ∧ u2.cell? ⟨w1.heap.size, 1, none⟩ = some (.int .u64 (uv ((hl &&& ~~~d.cl) ||| (d.vl &&& d.cl))))) ∧ Blk u2 (w.heap.size) 26 #[.int .u64 (uv c.vh), .int .u64 (uv c.vl), .int .u64 (uv c.ch), .int .u64 (uv c.cl)] ∧ Blk u2 (w.heap.size + 1) 26 #[.int .u64 (uv d.vh), .int .u64 (uv d.vl), .int .u64 (uv d.ch), .int .u64 (uv d.cl)] ∧ Blk u2 (w.heap.size + 1 + 1) 24 #[.int .u64 (uv hh), .int .u64 (uv hl)] ∧ Blk u2 (w1.heap.size) 24 #[.int .u64 (uv ((hh &&& ~~~d.ch) ||| (d.vh &&& d.ch))), .int .u64 (uv ((hl &&& ~~~d.cl) ||| (d.vl &&& d.cl)))]) := fun _ _ hb h => ⟨hold12 hb h.1, (h.2.1).on hb, (h.2.2.1).on hb, (h.2.2.2.1).on hb, (h.2.2.2.2).on hb⟩
  have S0 : (Below w.heap.size w w2 ∧ w2.cell? ⟨w.heap.size, 0, none⟩ = some (.int .u64 (uv c.vh)) ∧ w2.cell? ⟨w.heap.size, 1, none⟩ = some (.int .u64 (uv c.vl)) ∧ w2.cell? ⟨w.heap.size, 2, none⟩ = some (.int .u64 (uv c.ch)) ∧ w2.cell? ⟨w.heap.size, 3, none⟩ = some (.int .u64 (uv c.cl)) ∧ w2.cell? ⟨w.heap.size + 1, 0, none⟩ = some (.int .u64 (uv d.vh)) ∧ w2.cell? ⟨w.heap.size + 1, 1, none⟩ = some (.int .u64 (uv d.vl)) ∧ w2.cell? ⟨w.heap.size + 1, 2, none⟩ = some (.int .u64 (uv d.ch)) ∧ w2.cell? ⟨w.heap.size + 1, 3, none⟩ = some (.int .u64 (uv d.cl)) ∧ w2.cell? ⟨w.heap.size + 1 + 1, 0, none⟩ = some (.int .u64 (uv hh)) ∧ w2.cell? ⟨w.heap.size + 1 + 1, 1, none⟩ = some (.int .u64 (uv hl)) ∧ w2.cell? ⟨w1.heap.size, 0, none⟩ = some (.int .u64 (uv ((hh &&& ~~~d.ch) ||| (d.vh &&& d.ch)))) ∧ w2.cell? ⟨w1.heap.size, 1, none⟩ = some (.int .u64 (uv ((hl &&& ~~~d.cl) ||| (d.vl &&& d.cl))))) ∧ Blk w2 (w.heap.size) 26 #[.int .u64 (uv c.vh), .int .u64 (uv c.vl), .int .u64 (uv c.ch), .int .u64 (uv c.cl)] ∧ Blk w2 (w.heap.size + 1) 26 #[.int .u64 (uv d.vh), .int .u64 (uv d.vl), .int .u64 (uv d.ch), .int .u64 (uv d.cl)] ∧ Blk w2 (w.heap.size + 1 + 1) 24 #[.int .u64 (uv hh), .int .u64 (uv hl)] ∧ Blk w2 (w1.heap.size) 24 #[.int .u64 (uv ((hh &&& ~~~d.ch) ||| (d.vh &&& d.ch))), .int .u64 (uv ((hl &&& ~~~d.cl) ||| (d.vl &&& d.cl)))] := ⟨⟨L, C.cell 0, C.cell 1, C.cell 2, C.cell 3, D.cell 0, D.cell 1, D.cell 2, D.cell 3, H.cell 0, H.cell 1, O.cell 0, O.cell 1⟩, C, D, H, O⟩
  go_region_held3 (fun w' => (Below w.heap.size w w' ∧ w'.cell? ⟨w.heap.size, 0, none⟩ = some (.int .u64 (uv c.vh)) ∧ w'.cell? ⟨w.heap.size, 1, none⟩ = some (.int .u64 (uv c.vl)) ∧ w'.cell? ⟨w.heap.size, 2, none⟩ = some (.int .u64 (uv c.ch)) ∧ w'.cell? ⟨w.heap.size, 3, none⟩ = some (.int .u64 (uv c.cl)) ∧ w'.cell? ⟨w.heap.size + 1, 0, none⟩ = some (.int .u64 (uv d.vh)) ∧ w'.cell? ⟨w.heap.size + 1, 1, none⟩ = some (.int .u64 (uv d.vl)) ∧ w'.cell? ⟨w.heap.size + 1, 2, none⟩ = some (.int .u64 (uv d.ch)) ∧ w'.cell? ⟨w.heap.size + 1, 3, none⟩ = some (.int .u64 (uv d.cl)) ∧ w'.cell? ⟨w.heap.size + 1 + 1, 0, none⟩ = some (.int .u64 (uv hh)) ∧ w'.cell? ⟨w.heap.size + 1 + 1, 1, none⟩ = some (.int .u64 (uv hl)) ∧ w'.cell? ⟨w1.heap.size, 0, none⟩ = some (.int .u64 (uv ((hh &&& ~~~d.ch) ||| (d.vh &&& d.ch)))) ∧ w'.cell? ⟨w1.heap.size, 1, none⟩ = some (.int .u64 (uv ((hl &&& ~~~d.cl) ||| (d.vl &&& d.cl))))) ∧ Blk w' (w.heap.size) 26 #[.int .u64 (uv c.vh), .int .u64 (uv c.vl), .int .u64 (uv c.ch), .int .u64 (uv c.cl)] ∧ Blk w' (w.heap.size + 1) 26 #[.int .u64 (uv d.vh), .int .u64 (uv d.vl), .int .u64 (uv d.ch), .int .u64 (uv d.cl)] ∧ Blk w' (w.heap.size + 1 + 1) 24 #[.int .u64 (uv hh), .int .u64 (uv hl)] ∧ Blk w' (w1.heap.size) 24 #[.int .u64 (uv ((hh &&& ~~~d.ch) ||| (d.vh &&& d.ch))), .int .u64 (uv ((hl &&& ~~~d.cl) ||| (d.vl &&& d.cl)))])
    (first | exact KEEP1 _ _ (by assumption) (by assumption) | exact KEEP1 _ _ (Below.refl _ _).drew S0)
    (first
      | (go_at_call 29; (with_reducible refine (crset d hh hl _).mono ?_); rintro e wz3 ⟨rfl, hb⟩))
  clear S0 KEEP1 hb
  rename_i hS
  clear C D H O L
  obtain ⟨⟨L, _, _, _, _, _, _, _, _, _, _, _, _⟩, C, D, H, O⟩ := hS
  have eC := C.four
  have eD := D.four
  have eH := H.pair
  have eO := O.pair
  go_wp2_with fail
  (with_reducible refine (cbef_t c d _ h1 hg).mono ?_)
  rintro e w4 ⟨rfl, hb⟩
  clear eC eD eH eO
  replace C := C.on hb
  replace D := D.on hb
  replace H := H.on hb
  replace O := O.on hb
  replace L := L.trans (hb.mono L.size)
  clear hb
  have eC := C.four
  have eD := D.four
  have eH := H.pair
  have eO := O.pair
  go_upto_region 5 with (fail)
  have ltCX : w.heap.size < w4.heap.size := C.lt
  have ltDX : w.heap.size + 1 < w4.heap.size := D.lt
  have ltHX : w.heap.size + 1 + 1 < w4.heap.size := H.lt
  have ltOX : w1.heap.size < w4.heap.size := O.lt
  have hb := below1 w4 (.cells #[.int .u64 (uv (c.vh &&& (c.ch &&& ~~~d.ch))), .int .u64 (uv (c.vl &&& (c.cl &&& ~~~d.cl))), .int .u64 (uv (c.ch &&& ~~~d.ch)), .int .u64 (uv (c.cl &&& ~~~d.cl))] 26)
  clear eC eD eH eO
  replace C := C.on hb
  replace D := D.on hb
  replace H := H.on hb
  replace O := O.on hb
  replace L := L.trans (hb.mono L.size)
  have X : Blk (w4.alloc (.cells #[.int .u64 (uv (c.vh &&& (c.ch &&& ~~~d.ch))), .int .u64 (uv (c.vl &&& (c.cl &&& ~~~d.cl))), .int .u64 (uv (c.ch &&& ~~~d.ch)), .int .u64 (uv (c.cl &&& ~~~d.cl))] 26)) w4.heap.size 26 #[.int .u64 (uv (c.vh &&& (c.ch &&& ~~~d.ch))), .int .u64 (uv (c.vl &&& (c.cl &&& ~~~d.cl))), .int .u64 (uv (c.ch &&& ~~~d.ch)), .int .u64 (uv (c.cl &&& ~~~d.cl))] := Blk.new w4 _ _
  clear hb
  generalize (w4.alloc (.cells #[.int .u64 (uv (c.vh &&& (c.ch &&& ~~~d.ch))), .int .u64 (uv (c.vl &&& (c.cl &&& ~~~d.cl))), .int .u64 (uv (c.ch &&& ~~~d.ch)), .int .u64 (uv (c.cl &&& ~~~d.cl))] 26)) = w5 at L C D H O X ⊢
  have eC := C.four
  have eD := D.four
  have eH := H.pair
  have eO := O.pair
  have eX := X.four
  go_wp2_with fail
  (with_reducible refine (caft_t c d _ h1).mono ?_)
  rintro e w6 ⟨rfl, hb⟩
  clear eC eD eH eO eX
  replace C := C.on hb
  replace D := D.on hb
  replace H := H.on hb
  replace O := O.on hb
  replace X := X.on hb
  replace L := L.trans (hb.mono L.size)
  clear hb
  have eC := C.four
  have eD := D.four
  have eH := H.pair
  have eO := O.pair
  have eX := X.four
  go_upto_region 6 with (fail)
  have ltCY : w.heap.size < w6.heap.size := C.lt
  have ltDY : w.heap.size + 1 < w6.heap.size := D.lt
  have ltHY : w.heap.size + 1 + 1 < w6.heap.size := H.lt
  have ltOY : w1.heap.size < w6.heap.size := O.lt
  have ltXY : w4.heap.size < w6.heap.size := X.lt
  have hb := below1 w6 (.cells #[.int .u64 (uv ((c.vh &&& ~~~d.ch) ||| (d.vh &&& d.ch))), .int .u64 (uv ((c.vl &&& ~~~d.cl) ||| (d.vl &&& d.cl))), .int .u64 (uv (c.ch ||| d.ch)), .int .u64 (uv (c.cl ||| d.cl))] 26)
  clear eC eD eH eO eX
  replace C := C.on hb
  replace D := D.on hb
  replace H := H.on hb
  replace O := O.on hb
  replace X := X.on hb
  replace L := L.trans (hb.mono L.size)
  have Y : Blk (w6.alloc (.cells #[.int .u64 (uv ((c.vh &&& ~~~d.ch) ||| (d.vh &&& d.ch))), .int .u64 (uv ((c.vl &&& ~~~d.cl) ||| (d.vl &&& d.cl))), .int .u64 (uv (c.ch ||| d.ch)), .int .u64 (uv (c.cl ||| d.cl))] 26)) w6.heap.size 26 #[.int .u64 (uv ((c.vh &&& ~~~d.ch) ||| (d.vh &&& d.ch))), .int .u64 (uv ((c.vl &&& ~~~d.cl) ||| (d.vl &&& d.cl))), .int .u64 (uv (c.ch ||| d.ch)), .int .u64 (uv (c.cl ||| d.cl))] := Blk.new w6 _ _
  clear hb
  generalize (w6.alloc (.cells #[.int .u64 (uv ((c.vh &&& ~~~d.ch) ||| (d.vh &&& d.ch))), .int .u64 (uv ((c.vl &&& ~~~d.cl) ||| (d.vl &&& d.cl))), .int .u64 (uv (c.ch ||| d.ch)), .int .u64 (uv (c.cl ||| d.cl))] 26)) = w7 at L C D H O X Y ⊢
  have eC := C.four
  have eD := D.four
  have eH := H.pair
  have eO := O.pair
  have eX := X.four
  have eY := Y.four
  go_wp2_with fail
  (with_reducible refine (text_s s c _ h1 HS.out).mono ?_)
  rintro e w8 ⟨rfl, hb⟩
  clear eC eD eH eO eX eY
  replace C := C.on hb
  replace D := D.on hb
  replace H := H.on hb
  replace O := O.on hb
  replace X := X.on hb
  replace Y := Y.on hb
  replace L := L.trans (hb.mono L.size)
  clear hb
  have eC := C.four
  have eD := D.four
  have eH := H.pair
  have eO := O.pair
  have eX := X.four
  have eY := Y.four
  go_wp2_with fail
  (with_reducible refine (text_a t c d _ h1 HT.out).mono ?_)
  rintro e w9 ⟨rfl, hb⟩
  clear eC eD eH eO eX eY
  replace C := C.on hb
  replace D := D.on hb
  replace H := H.on hb
  replace O := O.on hb
  replace X := X.on hb
  replace Y := Y.on hb
  replace L := L.trans (hb.mono L.size)
  clear hb
  have eC := C.four
  have eD := D.four
  have eH := H.pair
  have eO := O.pair
  have eX := X.four
  have eY := Y.four
  go_wp2_with fail
  (with_reducible refine (text_b r c d _ HR.out).mono ?_)
  rintro e w10 ⟨rfl, hb⟩
  clear eC eD eH eO eX eY
  replace C := C.on hb
  replace D := D.on hb
  replace H := H.on hb
  replace O := O.on hb
  replace X := X.on hb
  replace Y := Y.on hb
  replace L := L.trans (hb.mono L.size)
  clear hb
  have eC := C.four
  have eD := D.four
  have eH := H.pair
  have eO := O.pair
  have eX := X.four
  have eY := Y.four
  go_wp2_with fail
  (with_reducible refine (rhas_g _ s c d hh hl _ h1 HS.out hx).mono ?_)
  rintro e w11 ⟨rfl, hb⟩
  clear eC eD eH eO eX eY
  replace C := C.on hb
  replace D := D.on hb
  replace H := H.on hb
  replace O := O.on hb
  replace X := X.on hb
  replace Y := Y.on hb
  replace L := L.trans (hb.mono L.size)
  clear hb
  have eC := C.four
  have eD := D.four
  have eH := H.pair
  have eO := O.pair
  have eX := X.four
  have eY := Y.four
  go_wp2_with fail
  (with_reducible refine (rhas_is _ r (Cb.bef c d) hh hl _ (bef_snd c d) HR.out hb2).mono ?_)
  rintro e w12 ⟨rfl, hb⟩
  clear eC eD eH eO eX eY
  replace C := C.on hb
  replace D := D.on hb
  replace H := H.on hb
  replace O := O.on hb
  replace X := X.on hb
  replace Y := Y.on hb
  replace L := L.trans (hb.mono L.size)
  clear hb
  have eC := C.four
  have eD := D.four
  have eH := H.pair
  have eO := O.pair
  have eX := X.four
  have eY := Y.four
  go_wp2_with fail
  (with_reducible refine (awake2_c _).mono ?_)
  rintro e w13 ⟨rfl, hb⟩
  clear eC eD eH eO eX eY
  replace C := C.on hb
  replace D := D.on hb
  replace H := H.on hb
  replace O := O.on hb
  replace X := X.on hb
  replace Y := Y.on hb
  replace L := L.trans (hb.mono L.size)
  clear hb
  have eC := C.four
  have eD := D.four
  have eH := H.pair
  have eO := O.pair
  have eX := X.four
  have eY := Y.four
  go_wp2_with fail
  (with_reducible refine (rhas_is _ s c hh hl _ h1 HS.out hy).mono ?_)
  rintro e w14 ⟨rfl, hb⟩
  clear eC eD eH eO eX eY
  replace C := C.on hb
  replace D := D.on hb
  replace H := H.on hb
  replace O := O.on hb
  replace X := X.on hb
  replace Y := Y.on hb
  replace L := L.trans (hb.mono L.size)
  clear hb
  have eC := C.four
  have eD := D.four
  have eH := H.pair
  have eO := O.pair
  have eX := X.four
  have eY := Y.four
  go_wp2_with fail
  (with_reducible refine (rhas_g _ t (Cb.aft c d) d hh hl _ (aft_snd c d h1) HT.out ha2).mono ?_)
  rintro e w15 ⟨rfl, hb⟩
  clear eC eD eH eO eX eY
  replace C := C.on hb
  replace D := D.on hb
  replace H := H.on hb
  replace O := O.on hb
  replace X := X.on hb
  replace Y := Y.on hb
  replace L := L.trans (hb.mono L.size)
  clear hb
  have eC := C.four
  have eD := D.four
  have eH := H.pair
  have eO := O.pair
  have eX := X.four
  have eY := Y.four
  go_wp2
  go_ret
  exact ⟨rfl, L⟩

theorem sets_c (c d : Cb) (hh hl : BitVec 64) (w : World) : Calls Try.prog 7 #[.agg #[.int .u64 (uv c.vh), .int .u64 (uv c.vl), .int .u64 (uv c.ch), .int .u64 (uv c.cl)], .agg #[.int .u64 (uv d.vh), .int .u64 (uv d.vl), .int .u64 (uv d.ch), .int .u64 (uv d.cl)], .agg #[.int .u64 (uv hh), .int .u64 (uv hl)]] w fun e w' => e = .returned (.bool true) ∧ Below w.heap.size w w' := by
  cases h1 : c.snd with
  | false => exact sets_no c d hh hl w h1
  | true =>
    cases hg : c.agr d with
    | false =>
      have hx := bef_none c d hh hl h1 hg
      cases hy : c.has hh hl with
      | false => exact sets_fff c d hh hl w h1 _ _ _ (Lib.hid rfl) (Lib.hid rfl) (Lib.hid rfl) hg hx hy
      | true => exact sets_ftf c d hh hl w h1 _ _ _ (Lib.hid rfl) (Lib.hid rfl) (Lib.hid rfl) hg hx hy (aft_has c d hh hl h1 hy)
    | true =>
      have hx := bef_has c d hh hl h1 hg
      cases hb : (Cb.bef c d).has hh hl with
      | false =>
        rw [hb] at hx
        cases hy : c.has hh hl with
        | false => exact sets_tff c d hh hl w h1 _ _ _ (Lib.hid rfl) (Lib.hid rfl) (Lib.hid rfl) hg hx hb hy
        | true => exact sets_ttf c d hh hl w h1 _ _ _ (Lib.hid rfl) (Lib.hid rfl) (Lib.hid rfl) hg hx hb hy (aft_has c d hh hl h1 hy)
      | true =>
        rw [hb] at hx
        cases hy : c.has hh hl with
        | false => exact sets_tft c d hh hl w h1 _ _ _ (Lib.hid rfl) (Lib.hid rfl) (Lib.hid rfl) hg hx hb hy
        | true => exact sets_ttt c d hh hl w h1 _ _ _ (Lib.hid rfl) (Lib.hid rfl) (Lib.hid rfl) hg hx hb hy (aft_has c d hh hl h1 hy)
theorem sets_w (cvh cvl cch ccl dvh dvl dch dcl hh hl : BitVec 64) (w : World) : Calls Try.prog 7 #[.agg #[.int .u64 (uv cvh), .int .u64 (uv cvl), .int .u64 (uv cch), .int .u64 (uv ccl)], .agg #[.int .u64 (uv dvh), .int .u64 (uv dvl), .int .u64 (uv dch), .int .u64 (uv dcl)], .agg #[.int .u64 (uv hh), .int .u64 (uv hl)]] w fun e w' => e = .returned (.bool true) ∧ Below w.heap.size w w' :=
  sets_c ⟨cvh, cvl, cch, ccl⟩ ⟨dvh, dvl, dch, dcl⟩ hh hl w
end Go.Proofs
