/-
  The law CubeParts returns true for all cubes and headers, and changes nothing that was there. No conditions.
-/
import Derived.Test.YtlhbkiobgppciaaCuG
import Derived.Test.YtlhbkiobgppciaaCuH
import Derived.Test.YtlhbkiobgppciaaLessM
import Derived.Deep.DeepCutAuto
import Derived.Deep.LoopGhost
import Derived.Deep.Light
namespace Go.Proofs
open Go.RowKit Go.Proofs.Hd
attribute [local go_sem] uv_nonneg eq4_self eq2_self
attribute [local go_sem high] run_eq2 run_eq4
theorem csound (x : Bool) (c : Cb) (w : World) (h : c.snd = x) : Calls Try.prog 12 #[.agg #[.int .u64 (uv c.vh), .int .u64 (uv c.vl), .int .u64 (uv c.ch), .int .u64 (uv c.cl)]] w fun e w' => e = .returned (.bool x) ∧ Below w.heap.size w w' := by
  subst h; exact sound_c _ _ _ _ _
theorem chas (x : Bool) (c : Cb) (hh hl : BitVec 64) (w : World) (h : c.has hh hl = x) : Calls Try.prog 13 #[.agg #[.int .u64 (uv c.vh), .int .u64 (uv c.vl), .int .u64 (uv c.ch), .int .u64 (uv c.cl)], .agg #[.int .u64 (uv hh), .int .u64 (uv hl)]] w fun e w' => e = .returned (.bool x) ∧ Below w.heap.size w w' := by
  subst h; exact has_c _ _ _ _ _ _ _
theorem cwithin (x : Bool) (c a : Cb) (w : World) (h : c.wit a = x) : Calls Try.prog 16 #[.agg #[.int .u64 (uv c.vh), .int .u64 (uv c.vl), .int .u64 (uv c.ch), .int .u64 (uv c.cl)], .agg #[.int .u64 (uv a.vh), .int .u64 (uv a.vl), .int .u64 (uv a.ch), .int .u64 (uv a.cl)]] w fun e w' => e = .returned (.bool x) ∧ Below w.heap.size w w' := by
  subst h; exact within_c _ _ _ _ _ _ _ _ _
theorem cmeet (a b : Cb) (w : World) : Calls Try.prog 15 #[.agg #[.int .u64 (uv a.vh), .int .u64 (uv a.vl), .int .u64 (uv a.ch), .int .u64 (uv a.cl)], .agg #[.int .u64 (uv b.vh), .int .u64 (uv b.vl), .int .u64 (uv b.ch), .int .u64 (uv b.cl)]] w fun e w' => e = .returned (.tuple #[.agg #[.int .u64 (uv (sel (a.met b) (a.vh ||| b.vh))), .int .u64 (uv (sel (a.met b) (a.vl ||| b.vl))), .int .u64 (uv (sel (a.met b) (a.ch ||| b.ch))), .int .u64 (uv (sel (a.met b) (a.cl ||| b.cl)))], .bool (a.met b)]) ∧ Below w.heap.size w w' :=
  meet_c _ _ _ _ _ _ _ _ _
theorem cless (a b : Cb) (w : World) (ha : a.snd = true) (hb : b.snd = true) : Calls Try.prog 17 #[.agg #[.int .u64 (uv a.vh), .int .u64 (uv a.vl), .int .u64 (uv a.ch), .int .u64 (uv a.cl)], .agg #[.int .u64 (uv b.vh), .int .u64 (uv b.vl), .int .u64 (uv b.ch), .int .u64 (uv b.cl)]] w (Got w (lessC a b)) := by
  unfold lessC
  cases h : a.agr b with
  | true => rw [if_pos rfl]; exact less_some a b w ha hb h
  | false => rw [if_neg (by simp)]; exact less_all a b w ha hb h
theorem cless_q (a b : Cb) (Q : List Cb) (w : World) (ha : a.snd = true) (hb : b.snd = true) (hq : lessC a b = Q) : Calls Try.prog 17 #[.agg #[.int .u64 (uv a.vh), .int .u64 (uv a.vl), .int .u64 (uv a.ch), .int .u64 (uv a.cl)], .agg #[.int .u64 (uv b.vh), .int .u64 (uv b.vl), .int .u64 (uv b.ch), .int .u64 (uv b.cl)]] w (Got w Q) := by
  subst hq; exact cless a b w ha hb
theorem cmeet_t (a b : Cb) (w : World) (h : a.met b = true) : Calls Try.prog 15 #[.agg #[.int .u64 (uv a.vh), .int .u64 (uv a.vl), .int .u64 (uv a.ch), .int .u64 (uv a.cl)], .agg #[.int .u64 (uv b.vh), .int .u64 (uv b.vl), .int .u64 (uv b.ch), .int .u64 (uv b.cl)]] w fun e w' => e = .returned (.tuple #[.agg #[.int .u64 (uv (a.vh ||| b.vh)), .int .u64 (uv (a.vl ||| b.vl)), .int .u64 (uv (a.ch ||| b.ch)), .int .u64 (uv (a.cl ||| b.cl))], .bool true]) ∧ Below w.heap.size w w' := by
  have c := cmeet a b w
  rw [h] at c
  simp only [sel_t] at c
  exact c
theorem cmeet_f (a b : Cb) (w : World) (h : a.met b = false) : Calls Try.prog 15 #[.agg #[.int .u64 (uv a.vh), .int .u64 (uv a.vl), .int .u64 (uv a.ch), .int .u64 (uv a.cl)], .agg #[.int .u64 (uv b.vh), .int .u64 (uv b.vl), .int .u64 (uv b.ch), .int .u64 (uv b.cl)]] w fun e w' => e = .returned (.tuple #[.agg #[.int .u64 0, .int .u64 0, .int .u64 0, .int .u64 0], .bool false]) ∧ Below w.heap.size w w' := by
  have c := cmeet a b w
  rw [h] at c
  simp only [sel_f] at c
  exact c
theorem chas_j (x : Bool) (a b : Cb) (hh hl : BitVec 64) (w : World) (h : (a.join b).has hh hl = x) : Calls Try.prog 13 #[.agg #[.int .u64 (uv (a.vh ||| b.vh)), .int .u64 (uv (a.vl ||| b.vl)), .int .u64 (uv (a.ch ||| b.ch)), .int .u64 (uv (a.cl ||| b.cl))], .agg #[.int .u64 (uv hh), .int .u64 (uv hl)]] w fun e w' => e = .returned (.bool x) ∧ Below w.heap.size w w' :=
  chas x (a.join b) hh hl w h
theorem flat_get (L : List Cb) (k : Nat) (hk : k < L.length) (j : Nat) (hj : j < 4) : (flat L)[k * 4 + j]? = (L[k]).cells[j]? := by
  induction L generalizing k with
  | nil => simp at hk
  | cons c L ih =>
    have e : flat (c :: L) = c.cells ++ flat L := by simp [flat]
    rw [e]
    cases k with
    | zero => rw [Nat.zero_mul, Nat.zero_add, List.getElem?_append_left (by simp [Cb.cells]; omega)]; rfl
    | succ k =>
      rw [List.getElem?_append_right (by simp [Cb.cells]; omega), show (k + 1) * 4 + j - c.cells.length = k * 4 + j by simp [Cb.cells]; omega]
      exact ih k (by simpa using hk)
theorem own_get {w : World} {base g cap : Nat} {t : TypeId} {L : List Cb} (h : w.ownsRow base t 4 (.slice (some ⟨g, 0, none⟩) L.length cap) L.length (flat L)) (k : Nat) (hk : k < L.length) (j : Nat) (hj : j < 4) : w.cell? ⟨g, k * 4 + j, none⟩ = (L[k]).cells[j]? :=
  (h.cellAt (k * 4 + j) (by omega)).trans (flat_get L k hk j hj)
theorem own_at {w : World} {base g cap : Nat} {t : TypeId} {L : List Cb} {c : Cb} (h : w.ownsRow base t 4 (.slice (some ⟨g, 0, none⟩) L.length cap) L.length (flat L)) (k : Nat) (hc : L[k]? = some c) (j : Nat) (hj : j < 4) : w.cell? ⟨g, k * 4 + j, none⟩ = c.cells[j]? := by
  obtain ⟨hk, rfl⟩ := List.getElem?_eq_some_iff.1 hc
  exact own_get h k hk j hj
theorem take_count (h l : BitVec 64) (L : List Cb) (k : Nat) (c : Cb) (hc : L[k]? = some c) : cntC h l (L.take (k + 1)) = cntC h l (L.take k) + (c.has h l).toNat := by
  obtain ⟨hk, rfl⟩ := List.getElem?_eq_some_iff.1 hc
  rw [List.take_succ_eq_append_getElem hk, cntC_snoc]
theorem cntC_le (h l : BitVec 64) (L : List Cb) : cntC h l L ≤ L.length := List.length_filter_le _ _
theorem own_form {w : World} {base : Nat} {t : TypeId} {size n : Nat} {v : Value} {xs : List Value} (h : w.ownsRow base t size v n xs) : ∃ A cap, v = .slice A n cap ∧ (0 < n → ∃ g, A = some ⟨g, 0, none⟩) := by
  rcases h.2 with ⟨rfl, rfl⟩ | ⟨g, cap, cur, rfl, _⟩
  · exact ⟨none, 0, rfl, fun h => by omega⟩
  · exact ⟨_, cap, rfl, fun _ => ⟨g, rfl⟩⟩
set_option maxHeartbeats 4000000 in
theorem parts_bad1 (a b : Cb) (hh hl : BitVec 64) (w : World) (h1 : a.snd = false) :
    Calls Try.prog 8 #[.agg #[.int .u64 (uv a.vh), .int .u64 (uv a.vl), .int .u64 (uv a.ch), .int .u64 (uv a.cl)], .agg #[.int .u64 (uv b.vh), .int .u64 (uv b.vl), .int .u64 (uv b.ch), .int .u64 (uv b.cl)], .agg #[.int .u64 (uv hh), .int .u64 (uv hl)]] w fun e w' => e = .returned (.bool true) ∧ Below w.heap.size w w' := by
  have bx0 := below1 w (.cells #[.int .u64 (uv a.vh), .int .u64 (uv a.vl), .int .u64 (uv a.ch), .int .u64 (uv a.cl)] 26)
  have Ab0 : Blk (w.alloc (.cells #[.int .u64 (uv a.vh), .int .u64 (uv a.vl), .int .u64 (uv a.ch), .int .u64 (uv a.cl)] 26)) (w.heap.size) 26 #[.int .u64 (uv a.vh), .int .u64 (uv a.vl), .int .u64 (uv a.ch), .int .u64 (uv a.cl)] := Blk.new w _ _
  have L0 : Below w.heap.size w (w.alloc (.cells #[.int .u64 (uv a.vh), .int .u64 (uv a.vl), .int .u64 (uv a.ch), .int .u64 (uv a.cl)] 26)) := bx0
  have bx1 := below1 (w.alloc (.cells #[.int .u64 (uv a.vh), .int .u64 (uv a.vl), .int .u64 (uv a.ch), .int .u64 (uv a.cl)] 26)) (.cells #[.int .u64 (uv b.vh), .int .u64 (uv b.vl), .int .u64 (uv b.ch), .int .u64 (uv b.cl)] 26)
  have Ab1 := Ab0.on bx1
  have Bb1 : Blk ((w.alloc (.cells #[.int .u64 (uv a.vh), .int .u64 (uv a.vl), .int .u64 (uv a.ch), .int .u64 (uv a.cl)] 26)).alloc (.cells #[.int .u64 (uv b.vh), .int .u64 (uv b.vl), .int .u64 (uv b.ch), .int .u64 (uv b.cl)] 26)) (w.heap.size + 1) 26 #[.int .u64 (uv b.vh), .int .u64 (uv b.vl), .int .u64 (uv b.ch), .int .u64 (uv b.cl)] := by have h := Blk.new (w.alloc (.cells #[.int .u64 (uv a.vh), .int .u64 (uv a.vl), .int .u64 (uv a.ch), .int .u64 (uv a.cl)] 26)) 26 #[.int .u64 (uv b.vh), .int .u64 (uv b.vl), .int .u64 (uv b.ch), .int .u64 (uv b.cl)]; simpa only [World.size_alloc] using h
  have L1 : Below w.heap.size w ((w.alloc (.cells #[.int .u64 (uv a.vh), .int .u64 (uv a.vl), .int .u64 (uv a.ch), .int .u64 (uv a.cl)] 26)).alloc (.cells #[.int .u64 (uv b.vh), .int .u64 (uv b.vl), .int .u64 (uv b.ch), .int .u64 (uv b.cl)] 26)) := L0.trans (bx1.mono L0.size)
  have bx2 := below1 ((w.alloc (.cells #[.int .u64 (uv a.vh), .int .u64 (uv a.vl), .int .u64 (uv a.ch), .int .u64 (uv a.cl)] 26)).alloc (.cells #[.int .u64 (uv b.vh), .int .u64 (uv b.vl), .int .u64 (uv b.ch), .int .u64 (uv b.cl)] 26)) (.cells #[.int .u64 (uv hh), .int .u64 (uv hl)] 24)
  have Ab2 := Ab1.on bx2
  have Bb2 := Bb1.on bx2
  have Hb2 : Blk (((w.alloc (.cells #[.int .u64 (uv a.vh), .int .u64 (uv a.vl), .int .u64 (uv a.ch), .int .u64 (uv a.cl)] 26)).alloc (.cells #[.int .u64 (uv b.vh), .int .u64 (uv b.vl), .int .u64 (uv b.ch), .int .u64 (uv b.cl)] 26)).alloc (.cells #[.int .u64 (uv hh), .int .u64 (uv hl)] 24)) (w.heap.size + 1 + 1) 24 #[.int .u64 (uv hh), .int .u64 (uv hl)] := by have h := Blk.new ((w.alloc (.cells #[.int .u64 (uv a.vh), .int .u64 (uv a.vl), .int .u64 (uv a.ch), .int .u64 (uv a.cl)] 26)).alloc (.cells #[.int .u64 (uv b.vh), .int .u64 (uv b.vl), .int .u64 (uv b.ch), .int .u64 (uv b.cl)] 26)) 24 #[.int .u64 (uv hh), .int .u64 (uv hl)]; simpa only [World.size_alloc] using h
  have L2 : Below w.heap.size w (((w.alloc (.cells #[.int .u64 (uv a.vh), .int .u64 (uv a.vl), .int .u64 (uv a.ch), .int .u64 (uv a.cl)] 26)).alloc (.cells #[.int .u64 (uv b.vh), .int .u64 (uv b.vl), .int .u64 (uv b.ch), .int .u64 (uv b.cl)] 26)).alloc (.cells #[.int .u64 (uv hh), .int .u64 (uv hl)] 24)) := L1.trans (bx2.mono L1.size)
  have A := Ab2
  have B := Bb2
  have H := Hb2
  have L := L2
  clear bx0 bx1 bx2 L0 L1 L2 Ab0 Ab1 Ab2 Bb1 Bb2 Hb2
  have eA := A.four
  have eB := B.four
  have eH := H.pair
  go_enter Try.func8, Try.ntmps8
  go_wp2_with fail
  (with_reducible refine (awake2_c _).mono ?_)
  rintro e w1 ⟨rfl, hb⟩
  clear eA eB eH
  replace A := A.on hb
  replace B := B.on hb
  replace H := H.on hb
  replace L := L.trans (hb.mono L.size)
  clear hb
  have eA := A.four
  have eB := B.four
  have eH := H.pair
  go_wp2_with fail
  (with_reducible refine (csound _ a _ h1).mono ?_)
  rintro e w2 ⟨rfl, hb⟩
  clear eA eB eH
  replace A := A.on hb
  replace B := B.on hb
  replace H := H.on hb
  replace L := L.trans (hb.mono L.size)
  clear hb
  have eA := A.four
  have eB := B.four
  have eH := H.pair
  go_wp2_with fail
  (with_reducible refine (awake2_c _).mono ?_)
  rintro e w3 ⟨rfl, hb⟩
  clear eA eB eH
  replace A := A.on hb
  replace B := B.on hb
  replace H := H.on hb
  replace L := L.trans (hb.mono L.size)
  clear hb
  have eA := A.four
  have eB := B.four
  have eH := H.pair
  go_wp2
  go_ret
  exact ⟨rfl, L⟩

set_option maxHeartbeats 4000000 in
theorem parts_bad2 (a b : Cb) (hh hl : BitVec 64) (w : World) (h1 : a.snd = true) (h2 : b.snd = false) :
    Calls Try.prog 8 #[.agg #[.int .u64 (uv a.vh), .int .u64 (uv a.vl), .int .u64 (uv a.ch), .int .u64 (uv a.cl)], .agg #[.int .u64 (uv b.vh), .int .u64 (uv b.vl), .int .u64 (uv b.ch), .int .u64 (uv b.cl)], .agg #[.int .u64 (uv hh), .int .u64 (uv hl)]] w fun e w' => e = .returned (.bool true) ∧ Below w.heap.size w w' := by
  have bx0 := below1 w (.cells #[.int .u64 (uv a.vh), .int .u64 (uv a.vl), .int .u64 (uv a.ch), .int .u64 (uv a.cl)] 26)
  have Ab0 : Blk (w.alloc (.cells #[.int .u64 (uv a.vh), .int .u64 (uv a.vl), .int .u64 (uv a.ch), .int .u64 (uv a.cl)] 26)) (w.heap.size) 26 #[.int .u64 (uv a.vh), .int .u64 (uv a.vl), .int .u64 (uv a.ch), .int .u64 (uv a.cl)] := Blk.new w _ _
  have L0 : Below w.heap.size w (w.alloc (.cells #[.int .u64 (uv a.vh), .int .u64 (uv a.vl), .int .u64 (uv a.ch), .int .u64 (uv a.cl)] 26)) := bx0
  have bx1 := below1 (w.alloc (.cells #[.int .u64 (uv a.vh), .int .u64 (uv a.vl), .int .u64 (uv a.ch), .int .u64 (uv a.cl)] 26)) (.cells #[.int .u64 (uv b.vh), .int .u64 (uv b.vl), .int .u64 (uv b.ch), .int .u64 (uv b.cl)] 26)
  have Ab1 := Ab0.on bx1
  have Bb1 : Blk ((w.alloc (.cells #[.int .u64 (uv a.vh), .int .u64 (uv a.vl), .int .u64 (uv a.ch), .int .u64 (uv a.cl)] 26)).alloc (.cells #[.int .u64 (uv b.vh), .int .u64 (uv b.vl), .int .u64 (uv b.ch), .int .u64 (uv b.cl)] 26)) (w.heap.size + 1) 26 #[.int .u64 (uv b.vh), .int .u64 (uv b.vl), .int .u64 (uv b.ch), .int .u64 (uv b.cl)] := by have h := Blk.new (w.alloc (.cells #[.int .u64 (uv a.vh), .int .u64 (uv a.vl), .int .u64 (uv a.ch), .int .u64 (uv a.cl)] 26)) 26 #[.int .u64 (uv b.vh), .int .u64 (uv b.vl), .int .u64 (uv b.ch), .int .u64 (uv b.cl)]; simpa only [World.size_alloc] using h
  have L1 : Below w.heap.size w ((w.alloc (.cells #[.int .u64 (uv a.vh), .int .u64 (uv a.vl), .int .u64 (uv a.ch), .int .u64 (uv a.cl)] 26)).alloc (.cells #[.int .u64 (uv b.vh), .int .u64 (uv b.vl), .int .u64 (uv b.ch), .int .u64 (uv b.cl)] 26)) := L0.trans (bx1.mono L0.size)
  have bx2 := below1 ((w.alloc (.cells #[.int .u64 (uv a.vh), .int .u64 (uv a.vl), .int .u64 (uv a.ch), .int .u64 (uv a.cl)] 26)).alloc (.cells #[.int .u64 (uv b.vh), .int .u64 (uv b.vl), .int .u64 (uv b.ch), .int .u64 (uv b.cl)] 26)) (.cells #[.int .u64 (uv hh), .int .u64 (uv hl)] 24)
  have Ab2 := Ab1.on bx2
  have Bb2 := Bb1.on bx2
  have Hb2 : Blk (((w.alloc (.cells #[.int .u64 (uv a.vh), .int .u64 (uv a.vl), .int .u64 (uv a.ch), .int .u64 (uv a.cl)] 26)).alloc (.cells #[.int .u64 (uv b.vh), .int .u64 (uv b.vl), .int .u64 (uv b.ch), .int .u64 (uv b.cl)] 26)).alloc (.cells #[.int .u64 (uv hh), .int .u64 (uv hl)] 24)) (w.heap.size + 1 + 1) 24 #[.int .u64 (uv hh), .int .u64 (uv hl)] := by have h := Blk.new ((w.alloc (.cells #[.int .u64 (uv a.vh), .int .u64 (uv a.vl), .int .u64 (uv a.ch), .int .u64 (uv a.cl)] 26)).alloc (.cells #[.int .u64 (uv b.vh), .int .u64 (uv b.vl), .int .u64 (uv b.ch), .int .u64 (uv b.cl)] 26)) 24 #[.int .u64 (uv hh), .int .u64 (uv hl)]; simpa only [World.size_alloc] using h
  have L2 : Below w.heap.size w (((w.alloc (.cells #[.int .u64 (uv a.vh), .int .u64 (uv a.vl), .int .u64 (uv a.ch), .int .u64 (uv a.cl)] 26)).alloc (.cells #[.int .u64 (uv b.vh), .int .u64 (uv b.vl), .int .u64 (uv b.ch), .int .u64 (uv b.cl)] 26)).alloc (.cells #[.int .u64 (uv hh), .int .u64 (uv hl)] 24)) := L1.trans (bx2.mono L1.size)
  have A := Ab2
  have B := Bb2
  have H := Hb2
  have L := L2
  clear bx0 bx1 bx2 L0 L1 L2 Ab0 Ab1 Ab2 Bb1 Bb2 Hb2
  have eA := A.four
  have eB := B.four
  have eH := H.pair
  go_enter Try.func8, Try.ntmps8
  go_wp2_with fail
  (with_reducible refine (awake2_c _).mono ?_)
  rintro e w1 ⟨rfl, hb⟩
  clear eA eB eH
  replace A := A.on hb
  replace B := B.on hb
  replace H := H.on hb
  replace L := L.trans (hb.mono L.size)
  clear hb
  have eA := A.four
  have eB := B.four
  have eH := H.pair
  go_wp2_with fail
  (with_reducible refine (csound _ a _ h1).mono ?_)
  rintro e w2 ⟨rfl, hb⟩
  clear eA eB eH
  replace A := A.on hb
  replace B := B.on hb
  replace H := H.on hb
  replace L := L.trans (hb.mono L.size)
  clear hb
  have eA := A.four
  have eB := B.four
  have eH := H.pair
  go_wp2_with fail
  (with_reducible refine (csound _ b _ h2).mono ?_)
  rintro e w3 ⟨rfl, hb⟩
  clear eA eB eH
  replace A := A.on hb
  replace B := B.on hb
  replace H := H.on hb
  replace L := L.trans (hb.mono L.size)
  clear hb
  have eA := A.four
  have eB := B.four
  have eH := H.pair
  go_wp2_with fail
  (with_reducible refine (awake2_c _).mono ?_)
  rintro e w4 ⟨rfl, hb⟩
  clear eA eB eH
  replace A := A.on hb
  replace B := B.on hb
  replace H := H.on hb
  replace L := L.trans (hb.mono L.size)
  clear hb
  have eA := A.four
  have eB := B.four
  have eH := H.pair
  go_wp2
  go_ret
  exact ⟨rfl, L⟩

set_option maxHeartbeats 4000000 in
theorem parts_F (a b : Cb) (hh hl : BitVec 64) (w : World) (h1 : a.snd = true) (h2 : b.snd = true) (Q : List Cb) (HQ : Hid (lessC a b = Q)) (HWIT : Hid (∀ c ∈ Q, c.wit a = true)) (hQ : Q.length ≤ 128) (HLEN : Hid (Q.length = 0 ↔ a.wit b = true)) (HCNT : Hid (0 + cntC hh hl Q = (a.has hh hl).toNat)) (hm : a.met b = false) :
    Calls Try.prog 8 #[.agg #[.int .u64 (uv a.vh), .int .u64 (uv a.vl), .int .u64 (uv a.ch), .int .u64 (uv a.cl)], .agg #[.int .u64 (uv b.vh), .int .u64 (uv b.vl), .int .u64 (uv b.ch), .int .u64 (uv b.cl)], .agg #[.int .u64 (uv hh), .int .u64 (uv hl)]] w fun e w' => e = .returned (.bool true) ∧ Below w.heap.size w w' := by
  have bx0 := below1 w (.cells #[.int .u64 (uv a.vh), .int .u64 (uv a.vl), .int .u64 (uv a.ch), .int .u64 (uv a.cl)] 26)
  have Ab0 : Blk (w.alloc (.cells #[.int .u64 (uv a.vh), .int .u64 (uv a.vl), .int .u64 (uv a.ch), .int .u64 (uv a.cl)] 26)) (w.heap.size) 26 #[.int .u64 (uv a.vh), .int .u64 (uv a.vl), .int .u64 (uv a.ch), .int .u64 (uv a.cl)] := Blk.new w _ _
  have L0 : Below w.heap.size w (w.alloc (.cells #[.int .u64 (uv a.vh), .int .u64 (uv a.vl), .int .u64 (uv a.ch), .int .u64 (uv a.cl)] 26)) := bx0
  have bx1 := below1 (w.alloc (.cells #[.int .u64 (uv a.vh), .int .u64 (uv a.vl), .int .u64 (uv a.ch), .int .u64 (uv a.cl)] 26)) (.cells #[.int .u64 (uv b.vh), .int .u64 (uv b.vl), .int .u64 (uv b.ch), .int .u64 (uv b.cl)] 26)
  have Ab1 := Ab0.on bx1
  have Bb1 : Blk ((w.alloc (.cells #[.int .u64 (uv a.vh), .int .u64 (uv a.vl), .int .u64 (uv a.ch), .int .u64 (uv a.cl)] 26)).alloc (.cells #[.int .u64 (uv b.vh), .int .u64 (uv b.vl), .int .u64 (uv b.ch), .int .u64 (uv b.cl)] 26)) (w.heap.size + 1) 26 #[.int .u64 (uv b.vh), .int .u64 (uv b.vl), .int .u64 (uv b.ch), .int .u64 (uv b.cl)] := by have h := Blk.new (w.alloc (.cells #[.int .u64 (uv a.vh), .int .u64 (uv a.vl), .int .u64 (uv a.ch), .int .u64 (uv a.cl)] 26)) 26 #[.int .u64 (uv b.vh), .int .u64 (uv b.vl), .int .u64 (uv b.ch), .int .u64 (uv b.cl)]; simpa only [World.size_alloc] using h
  have L1 : Below w.heap.size w ((w.alloc (.cells #[.int .u64 (uv a.vh), .int .u64 (uv a.vl), .int .u64 (uv a.ch), .int .u64 (uv a.cl)] 26)).alloc (.cells #[.int .u64 (uv b.vh), .int .u64 (uv b.vl), .int .u64 (uv b.ch), .int .u64 (uv b.cl)] 26)) := L0.trans (bx1.mono L0.size)
  have bx2 := below1 ((w.alloc (.cells #[.int .u64 (uv a.vh), .int .u64 (uv a.vl), .int .u64 (uv a.ch), .int .u64 (uv a.cl)] 26)).alloc (.cells #[.int .u64 (uv b.vh), .int .u64 (uv b.vl), .int .u64 (uv b.ch), .int .u64 (uv b.cl)] 26)) (.cells #[.int .u64 (uv hh), .int .u64 (uv hl)] 24)
  have Ab2 := Ab1.on bx2
  have Bb2 := Bb1.on bx2
  have Hb2 : Blk (((w.alloc (.cells #[.int .u64 (uv a.vh), .int .u64 (uv a.vl), .int .u64 (uv a.ch), .int .u64 (uv a.cl)] 26)).alloc (.cells #[.int .u64 (uv b.vh), .int .u64 (uv b.vl), .int .u64 (uv b.ch), .int .u64 (uv b.cl)] 26)).alloc (.cells #[.int .u64 (uv hh), .int .u64 (uv hl)] 24)) (w.heap.size + 1 + 1) 24 #[.int .u64 (uv hh), .int .u64 (uv hl)] := by have h := Blk.new ((w.alloc (.cells #[.int .u64 (uv a.vh), .int .u64 (uv a.vl), .int .u64 (uv a.ch), .int .u64 (uv a.cl)] 26)).alloc (.cells #[.int .u64 (uv b.vh), .int .u64 (uv b.vl), .int .u64 (uv b.ch), .int .u64 (uv b.cl)] 26)) 24 #[.int .u64 (uv hh), .int .u64 (uv hl)]; simpa only [World.size_alloc] using h
  have L2 : Below w.heap.size w (((w.alloc (.cells #[.int .u64 (uv a.vh), .int .u64 (uv a.vl), .int .u64 (uv a.ch), .int .u64 (uv a.cl)] 26)).alloc (.cells #[.int .u64 (uv b.vh), .int .u64 (uv b.vl), .int .u64 (uv b.ch), .int .u64 (uv b.cl)] 26)).alloc (.cells #[.int .u64 (uv hh), .int .u64 (uv hl)] 24)) := L1.trans (bx2.mono L1.size)
  have A := Ab2
  have B := Bb2
  have H := Hb2
  have L := L2
  clear bx0 bx1 bx2 L0 L1 L2 Ab0 Ab1 Ab2 Bb1 Bb2 Hb2
  have eA := A.four
  have eB := B.four
  have eH := H.pair
  go_enter Try.func8, Try.ntmps8
  go_wp2_with fail
  (with_reducible refine (awake2_c _).mono ?_)
  rintro e w1 ⟨rfl, hb⟩
  clear eA eB eH
  replace A := A.on hb
  replace B := B.on hb
  replace H := H.on hb
  replace L := L.trans (hb.mono L.size)
  clear hb
  have eA := A.four
  have eB := B.four
  have eH := H.pair
  go_wp2_with fail
  (with_reducible refine (csound _ a _ h1).mono ?_)
  rintro e w2 ⟨rfl, hb⟩
  clear eA eB eH
  replace A := A.on hb
  replace B := B.on hb
  replace H := H.on hb
  replace L := L.trans (hb.mono L.size)
  clear hb
  have eA := A.four
  have eB := B.four
  have eH := H.pair
  go_wp2_with fail
  (with_reducible refine (csound _ b _ h2).mono ?_)
  rintro e w3 ⟨rfl, hb⟩
  clear eA eB eH
  replace A := A.on hb
  replace B := B.on hb
  replace H := H.on hb
  replace L := L.trans (hb.mono L.size)
  clear hb
  have eA := A.four
  have eB := B.four
  have eH := H.pair
  go_wp2_with fail
  (with_reducible refine (cmeet_f a b _ hm).mono ?_)
  rintro e w4 ⟨rfl, hb⟩
  clear eA eB eH
  replace A := A.on hb
  replace B := B.on hb
  replace H := H.on hb
  replace L := L.trans (hb.mono L.size)
  clear hb
  have eA := A.four
  have eB := B.four
  have eH := H.pair
  go_upto_region 5 with (fail)
  have ltAC : w.heap.size < w4.heap.size := A.lt
  have ltBC : w.heap.size + 1 < w4.heap.size := B.lt
  have ltHC : w.heap.size + 1 + 1 < w4.heap.size := H.lt
  have hb := below1 w4 (.cells #[.int .u64 0, .int .u64 0, .int .u64 0, .int .u64 0] 26)
  clear eA eB eH
  replace A := A.on hb
  replace B := B.on hb
  replace H := H.on hb
  replace L := L.trans (hb.mono L.size)
  have C : Blk (w4.alloc (.cells #[.int .u64 0, .int .u64 0, .int .u64 0, .int .u64 0] 26)) w4.heap.size 26 #[.int .u64 0, .int .u64 0, .int .u64 0, .int .u64 0] := Blk.new w4 _ _
  clear hb
  generalize (w4.alloc (.cells #[.int .u64 0, .int .u64 0, .int .u64 0, .int .u64 0] 26)) = w5 at L A B H C ⊢
  have eA := A.four
  have eB := B.four
  have eH := H.pair
  have eC := C.four
  clear eC
  clear C
  go_wp2_with fail
  (with_reducible refine (cless_q a b Q _ h1 h2 HQ.out).mono ?_)
  rintro e w6 ⟨v, rfl, O, hb⟩
  clear eA eB eH
  replace A := A.on hb
  replace B := B.on hb
  replace H := H.on hb
  replace L := L.trans (hb.mono L.size)
  clear hb
  have eA := A.four
  have eB := B.four
  have eH := H.pair
  obtain ⟨ad, cap, rfl, hA⟩ := own_form O
  replace O := O.mono (Nat.le_refl _)
  clear eA eB eH
  go_wp2_with fail
  go_loopg [7, 11] Q.length (fun gk x i wr => ∃ k : Nat, k ≤ Q.length ∧ gk = Q.length - k ∧ x = .int .i64 ((0 + cntC hh hl (Q.take k) : Nat) : Int) ∧ i = .int .i64 k ∧ Below w.heap.size w wr ∧ Blk wr (w.heap.size) 26 #[.int .u64 (uv a.vh), .int .u64 (uv a.vl), .int .u64 (uv a.ch), .int .u64 (uv a.cl)] ∧ Blk wr (w.heap.size + 1) 26 #[.int .u64 (uv b.vh), .int .u64 (uv b.vl), .int .u64 (uv b.ch), .int .u64 (uv b.cl)] ∧ Blk wr (w.heap.size + 1 + 1) 24 #[.int .u64 (uv hh), .int .u64 (uv hl)] ∧ wr.ownsRow w5.heap.size 26 4 (.slice ad Q.length cap) Q.length (flat Q))
  case atStart => exact ⟨0, Nat.zero_le _, rfl, rfl, rfl, L, A, B, H, O⟩
  case round =>
    clear L A B H O
    obtain ⟨k, hk, rfl, rfl, rfl, L, A, B, H, O⟩ := hrel
    have cb := cntC_le hh hl (Q.take k)
    have tl : (Q.take k).length ≤ k := List.length_take_le _ _
    by_cases hlt : k < Q.length
    · obtain ⟨g, rfl⟩ := hA (by omega)
      obtain ⟨c, hc⟩ : ∃ c, Q[k]? = some c := ⟨_, List.getElem?_eq_getElem hlt⟩
      have hcm : c ∈ Q := List.mem_of_getElem? hc
      have HW := Lib.hid (HWIT.out c hcm)
      have HT := Lib.hid (take_count hh hl Q k c hc)
      have HC := Lib.hid hc
      clear hc hcm
      have eA := A.four
      have eB := B.four
      have eH := H.pair
      cases hx : c.has hh hl
      · rw [hx] at HT
        have HX := Lib.hid hx
        clear hx
        go_upto_region 11 with (fail)
        clear eA eB eH
        have KEEP1 : ∀ u1 u2 : World, Below u1.heap.size u1 u2 → ((Below w.heap.size w u1 ∧ u1.cell? ⟨w.heap.size, 0, none⟩ = some (.int .u64 (uv a.vh)) ∧ u1.cell? ⟨w.heap.size, 1, none⟩ = some (.int .u64 (uv a.vl)) ∧ u1.cell? ⟨w.heap.size, 2, none⟩ = some (.int .u64 (uv a.ch)) ∧ u1.cell? ⟨w.heap.size, 3, none⟩ = some (.int .u64 (uv a.cl)) ∧ u1.cell? ⟨w.heap.size + 1, 0, none⟩ = some (.int .u64 (uv b.vh)) ∧ u1.cell? ⟨w.heap.size + 1, 1, none⟩ = some (.int .u64 (uv b.vl)) ∧ u1.cell? ⟨w.heap.size + 1, 2, none⟩ = some (.int .u64 (uv b.ch)) ∧ u1.cell? ⟨w.heap.size + 1, 3, none⟩ = some (.int .u64 (uv b.cl)) ∧ u1.cell? ⟨w.heap.size + 1 + 1, 0, none⟩ = some (.int .u64 (uv hh)) ∧ u1.cell? ⟨w.heap.size + 1 + 1, 1, none⟩ = some (.int .u64 (uv hl)) ∧ u1.cell? ⟨g, k * 4, none⟩ = some (.int .u64 (uv c.vh)) ∧ u1.cell? ⟨g, k * 4 + 1, none⟩ = some (.int .u64 (uv c.vl)) ∧ u1.cell? ⟨g, k * 4 + 2, none⟩ = some (.int .u64 (uv c.ch)) ∧ u1.cell? ⟨g, k * 4 + 3, none⟩ = some (.int .u64 (uv c.cl))) ∧ Blk u1 (w.heap.size) 26 #[.int .u64 (uv a.vh), .int .u64 (uv a.vl), .int .u64 (uv a.ch), .int .u64 (uv a.cl)] ∧ Blk u1 (w.heap.size + 1) 26 #[.int .u64 (uv b.vh), .int .u64 (uv b.vl), .int .u64 (uv b.ch), .int .u64 (uv b.cl)] ∧ Blk u1 (w.heap.size + 1 + 1) 24 #[.int .u64 (uv hh), .int .u64 (uv hl)] ∧ u1.ownsRow w5.heap.size 26 4 (.slice (some ⟨g, 0, none⟩) Q.length cap) Q.length (flat Q)) → ((Below w.heap.size w u2 ∧ u2.cell? ⟨w.heap.size, 0, none⟩ = some (.int .u64 (uv a.vh)) ∧ u2.cell? ⟨w.heap.size, 1, none⟩ = some (.int .u64 (uv a.vl)) ∧ u2.cell? ⟨w.heap.size, 2, none⟩ = some (.int .u64 (uv a.ch)) ∧ u2.cell? ⟨w.heap.size, 3, none⟩ = some (.int .u64 (uv a.cl)) ∧ u2.cell? ⟨w.heap.size + 1, 0, none⟩ = some (.int .u64 (uv b.vh)) ∧ u2.cell? ⟨w.heap.size + 1, 1, none⟩ = some (.int .u64 (uv b.vl)) ∧ u2.cell? ⟨w.heap.size + 1, 2, none⟩ = some (.int .u64 (uv b.ch)) ∧ u2.cell? ⟨w.heap.size + 1, 3, none⟩ = some (.int .u64 (uv b.cl)) ∧ u2.cell? ⟨w.heap.size + 1 + 1, 0, none⟩ = some (.int .u64 (uv hh)) ∧ u2.cell? ⟨w.heap.size + 1 + 1, 1, none⟩ = some (.int .u64 (uv hl)) ∧ u2.cell? ⟨g, k * 4, none⟩ = some (.int .u64 (uv c.vh)) ∧ u2.cell? ⟨g, k * 4 + 1, none⟩ = some (.int .u64 (uv c.vl)) ∧ u2.cell? ⟨g, k * 4 + 2, none⟩ = some (.int .u64 (uv c.ch)) ∧ u2.cell? ⟨g, k * 4 + 3, none⟩ = some (.int .u64 (uv c.cl))) ∧ Blk u2 (w.heap.size) 26 #[.int .u64 (uv a.vh), .int .u64 (uv a.vl), .int .u64 (uv a.ch), .int .u64 (uv a.cl)] ∧ Blk u2 (w.heap.size + 1) 26 #[.int .u64 (uv b.vh), .int .u64 (uv b.vl), .int .u64 (uv b.ch), .int .u64 (uv b.cl)] ∧ Blk u2 (w.heap.size + 1 + 1) 24 #[.int .u64 (uv hh), .int .u64 (uv hl)] ∧ u2.ownsRow w5.heap.size 26 4 (.slice (some ⟨g, 0, none⟩) Q.length cap) Q.length (flat Q)) := fun _ _ hb h => ⟨hold14 hb h.1, (h.2.1).on hb, (h.2.2.1).on hb, (h.2.2.2.1).on hb, own_on (h.2.2.2.2) hb⟩
        have S0 : (Below w.heap.size w wr ∧ wr.cell? ⟨w.heap.size, 0, none⟩ = some (.int .u64 (uv a.vh)) ∧ wr.cell? ⟨w.heap.size, 1, none⟩ = some (.int .u64 (uv a.vl)) ∧ wr.cell? ⟨w.heap.size, 2, none⟩ = some (.int .u64 (uv a.ch)) ∧ wr.cell? ⟨w.heap.size, 3, none⟩ = some (.int .u64 (uv a.cl)) ∧ wr.cell? ⟨w.heap.size + 1, 0, none⟩ = some (.int .u64 (uv b.vh)) ∧ wr.cell? ⟨w.heap.size + 1, 1, none⟩ = some (.int .u64 (uv b.vl)) ∧ wr.cell? ⟨w.heap.size + 1, 2, none⟩ = some (.int .u64 (uv b.ch)) ∧ wr.cell? ⟨w.heap.size + 1, 3, none⟩ = some (.int .u64 (uv b.cl)) ∧ wr.cell? ⟨w.heap.size + 1 + 1, 0, none⟩ = some (.int .u64 (uv hh)) ∧ wr.cell? ⟨w.heap.size + 1 + 1, 1, none⟩ = some (.int .u64 (uv hl)) ∧ wr.cell? ⟨g, k * 4, none⟩ = some (.int .u64 (uv c.vh)) ∧ wr.cell? ⟨g, k * 4 + 1, none⟩ = some (.int .u64 (uv c.vl)) ∧ wr.cell? ⟨g, k * 4 + 2, none⟩ = some (.int .u64 (uv c.ch)) ∧ wr.cell? ⟨g, k * 4 + 3, none⟩ = some (.int .u64 (uv c.cl))) ∧ Blk wr (w.heap.size) 26 #[.int .u64 (uv a.vh), .int .u64 (uv a.vl), .int .u64 (uv a.ch), .int .u64 (uv a.cl)] ∧ Blk wr (w.heap.size + 1) 26 #[.int .u64 (uv b.vh), .int .u64 (uv b.vl), .int .u64 (uv b.ch), .int .u64 (uv b.cl)] ∧ Blk wr (w.heap.size + 1 + 1) 24 #[.int .u64 (uv hh), .int .u64 (uv hl)] ∧ wr.ownsRow w5.heap.size 26 4 (.slice (some ⟨g, 0, none⟩) Q.length cap) Q.length (flat Q) := ⟨⟨L, A.cell 0, A.cell 1, A.cell 2, A.cell 3, B.cell 0, B.cell 1, B.cell 2, B.cell 3, H.cell 0, H.cell 1, own_at O k HC.out 0 (by omega), own_at O k HC.out 1 (by omega), own_at O k HC.out 2 (by omega), own_at O k HC.out 3 (by omega)⟩, A, B, H, O⟩
        go_region_held3 (fun w' => (Below w.heap.size w w' ∧ w'.cell? ⟨w.heap.size, 0, none⟩ = some (.int .u64 (uv a.vh)) ∧ w'.cell? ⟨w.heap.size, 1, none⟩ = some (.int .u64 (uv a.vl)) ∧ w'.cell? ⟨w.heap.size, 2, none⟩ = some (.int .u64 (uv a.ch)) ∧ w'.cell? ⟨w.heap.size, 3, none⟩ = some (.int .u64 (uv a.cl)) ∧ w'.cell? ⟨w.heap.size + 1, 0, none⟩ = some (.int .u64 (uv b.vh)) ∧ w'.cell? ⟨w.heap.size + 1, 1, none⟩ = some (.int .u64 (uv b.vl)) ∧ w'.cell? ⟨w.heap.size + 1, 2, none⟩ = some (.int .u64 (uv b.ch)) ∧ w'.cell? ⟨w.heap.size + 1, 3, none⟩ = some (.int .u64 (uv b.cl)) ∧ w'.cell? ⟨w.heap.size + 1 + 1, 0, none⟩ = some (.int .u64 (uv hh)) ∧ w'.cell? ⟨w.heap.size + 1 + 1, 1, none⟩ = some (.int .u64 (uv hl)) ∧ w'.cell? ⟨g, k * 4, none⟩ = some (.int .u64 (uv c.vh)) ∧ w'.cell? ⟨g, k * 4 + 1, none⟩ = some (.int .u64 (uv c.vl)) ∧ w'.cell? ⟨g, k * 4 + 2, none⟩ = some (.int .u64 (uv c.ch)) ∧ w'.cell? ⟨g, k * 4 + 3, none⟩ = some (.int .u64 (uv c.cl))) ∧ Blk w' (w.heap.size) 26 #[.int .u64 (uv a.vh), .int .u64 (uv a.vl), .int .u64 (uv a.ch), .int .u64 (uv a.cl)] ∧ Blk w' (w.heap.size + 1) 26 #[.int .u64 (uv b.vh), .int .u64 (uv b.vl), .int .u64 (uv b.ch), .int .u64 (uv b.cl)] ∧ Blk w' (w.heap.size + 1 + 1) 24 #[.int .u64 (uv hh), .int .u64 (uv hl)] ∧ w'.ownsRow w5.heap.size 26 4 (.slice (some ⟨g, 0, none⟩) Q.length cap) Q.length (flat Q))
          (first | exact KEEP1 _ _ (by assumption) (by assumption) | exact KEEP1 _ _ (Below.refl _ _).drew S0)
          (first
            | (go_at_call 13; (with_reducible refine (chas _ c hh hl _ HX.out).mono ?_); rintro e wz7 ⟨rfl, hb⟩))
        clear S0 KEEP1 hb
        rename_i hS
        clear A B H O L
        obtain ⟨⟨L, _, _, _, _, _, _, _, _, _, _, _, _, _, _⟩, A, B, H, O⟩ := hS
        have eA := A.four
        have eB := B.four
        have eH := H.pair
        go_upto_region 13 with (fail)
        clear eA eB eH
        have KEEP2 : ∀ u1 u2 : World, Below u1.heap.size u1 u2 → ((Below w.heap.size w u1 ∧ u1.cell? ⟨w.heap.size, 0, none⟩ = some (.int .u64 (uv a.vh)) ∧ u1.cell? ⟨w.heap.size, 1, none⟩ = some (.int .u64 (uv a.vl)) ∧ u1.cell? ⟨w.heap.size, 2, none⟩ = some (.int .u64 (uv a.ch)) ∧ u1.cell? ⟨w.heap.size, 3, none⟩ = some (.int .u64 (uv a.cl)) ∧ u1.cell? ⟨w.heap.size + 1, 0, none⟩ = some (.int .u64 (uv b.vh)) ∧ u1.cell? ⟨w.heap.size + 1, 1, none⟩ = some (.int .u64 (uv b.vl)) ∧ u1.cell? ⟨w.heap.size + 1, 2, none⟩ = some (.int .u64 (uv b.ch)) ∧ u1.cell? ⟨w.heap.size + 1, 3, none⟩ = some (.int .u64 (uv b.cl)) ∧ u1.cell? ⟨w.heap.size + 1 + 1, 0, none⟩ = some (.int .u64 (uv hh)) ∧ u1.cell? ⟨w.heap.size + 1 + 1, 1, none⟩ = some (.int .u64 (uv hl)) ∧ u1.cell? ⟨g, k * 4, none⟩ = some (.int .u64 (uv c.vh)) ∧ u1.cell? ⟨g, k * 4 + 1, none⟩ = some (.int .u64 (uv c.vl)) ∧ u1.cell? ⟨g, k * 4 + 2, none⟩ = some (.int .u64 (uv c.ch)) ∧ u1.cell? ⟨g, k * 4 + 3, none⟩ = some (.int .u64 (uv c.cl))) ∧ Blk u1 (w.heap.size) 26 #[.int .u64 (uv a.vh), .int .u64 (uv a.vl), .int .u64 (uv a.ch), .int .u64 (uv a.cl)] ∧ Blk u1 (w.heap.size + 1) 26 #[.int .u64 (uv b.vh), .int .u64 (uv b.vl), .int .u64 (uv b.ch), .int .u64 (uv b.cl)] ∧ Blk u1 (w.heap.size + 1 + 1) 24 #[.int .u64 (uv hh), .int .u64 (uv hl)] ∧ u1.ownsRow w5.heap.size 26 4 (.slice (some ⟨g, 0, none⟩) Q.length cap) Q.length (flat Q)) → ((Below w.heap.size w u2 ∧ u2.cell? ⟨w.heap.size, 0, none⟩ = some (.int .u64 (uv a.vh)) ∧ u2.cell? ⟨w.heap.size, 1, none⟩ = some (.int .u64 (uv a.vl)) ∧ u2.cell? ⟨w.heap.size, 2, none⟩ = some (.int .u64 (uv a.ch)) ∧ u2.cell? ⟨w.heap.size, 3, none⟩ = some (.int .u64 (uv a.cl)) ∧ u2.cell? ⟨w.heap.size + 1, 0, none⟩ = some (.int .u64 (uv b.vh)) ∧ u2.cell? ⟨w.heap.size + 1, 1, none⟩ = some (.int .u64 (uv b.vl)) ∧ u2.cell? ⟨w.heap.size + 1, 2, none⟩ = some (.int .u64 (uv b.ch)) ∧ u2.cell? ⟨w.heap.size + 1, 3, none⟩ = some (.int .u64 (uv b.cl)) ∧ u2.cell? ⟨w.heap.size + 1 + 1, 0, none⟩ = some (.int .u64 (uv hh)) ∧ u2.cell? ⟨w.heap.size + 1 + 1, 1, none⟩ = some (.int .u64 (uv hl)) ∧ u2.cell? ⟨g, k * 4, none⟩ = some (.int .u64 (uv c.vh)) ∧ u2.cell? ⟨g, k * 4 + 1, none⟩ = some (.int .u64 (uv c.vl)) ∧ u2.cell? ⟨g, k * 4 + 2, none⟩ = some (.int .u64 (uv c.ch)) ∧ u2.cell? ⟨g, k * 4 + 3, none⟩ = some (.int .u64 (uv c.cl))) ∧ Blk u2 (w.heap.size) 26 #[.int .u64 (uv a.vh), .int .u64 (uv a.vl), .int .u64 (uv a.ch), .int .u64 (uv a.cl)] ∧ Blk u2 (w.heap.size + 1) 26 #[.int .u64 (uv b.vh), .int .u64 (uv b.vl), .int .u64 (uv b.ch), .int .u64 (uv b.cl)] ∧ Blk u2 (w.heap.size + 1 + 1) 24 #[.int .u64 (uv hh), .int .u64 (uv hl)] ∧ u2.ownsRow w5.heap.size 26 4 (.slice (some ⟨g, 0, none⟩) Q.length cap) Q.length (flat Q)) := fun _ _ hb h => ⟨hold14 hb h.1, (h.2.1).on hb, (h.2.2.1).on hb, (h.2.2.2.1).on hb, own_on (h.2.2.2.2) hb⟩
        have S0 : (Below w.heap.size w wz7 ∧ wz7.cell? ⟨w.heap.size, 0, none⟩ = some (.int .u64 (uv a.vh)) ∧ wz7.cell? ⟨w.heap.size, 1, none⟩ = some (.int .u64 (uv a.vl)) ∧ wz7.cell? ⟨w.heap.size, 2, none⟩ = some (.int .u64 (uv a.ch)) ∧ wz7.cell? ⟨w.heap.size, 3, none⟩ = some (.int .u64 (uv a.cl)) ∧ wz7.cell? ⟨w.heap.size + 1, 0, none⟩ = some (.int .u64 (uv b.vh)) ∧ wz7.cell? ⟨w.heap.size + 1, 1, none⟩ = some (.int .u64 (uv b.vl)) ∧ wz7.cell? ⟨w.heap.size + 1, 2, none⟩ = some (.int .u64 (uv b.ch)) ∧ wz7.cell? ⟨w.heap.size + 1, 3, none⟩ = some (.int .u64 (uv b.cl)) ∧ wz7.cell? ⟨w.heap.size + 1 + 1, 0, none⟩ = some (.int .u64 (uv hh)) ∧ wz7.cell? ⟨w.heap.size + 1 + 1, 1, none⟩ = some (.int .u64 (uv hl)) ∧ wz7.cell? ⟨g, k * 4, none⟩ = some (.int .u64 (uv c.vh)) ∧ wz7.cell? ⟨g, k * 4 + 1, none⟩ = some (.int .u64 (uv c.vl)) ∧ wz7.cell? ⟨g, k * 4 + 2, none⟩ = some (.int .u64 (uv c.ch)) ∧ wz7.cell? ⟨g, k * 4 + 3, none⟩ = some (.int .u64 (uv c.cl))) ∧ Blk wz7 (w.heap.size) 26 #[.int .u64 (uv a.vh), .int .u64 (uv a.vl), .int .u64 (uv a.ch), .int .u64 (uv a.cl)] ∧ Blk wz7 (w.heap.size + 1) 26 #[.int .u64 (uv b.vh), .int .u64 (uv b.vl), .int .u64 (uv b.ch), .int .u64 (uv b.cl)] ∧ Blk wz7 (w.heap.size + 1 + 1) 24 #[.int .u64 (uv hh), .int .u64 (uv hl)] ∧ wz7.ownsRow w5.heap.size 26 4 (.slice (some ⟨g, 0, none⟩) Q.length cap) Q.length (flat Q) := ⟨⟨L, A.cell 0, A.cell 1, A.cell 2, A.cell 3, B.cell 0, B.cell 1, B.cell 2, B.cell 3, H.cell 0, H.cell 1, own_at O k HC.out 0 (by omega), own_at O k HC.out 1 (by omega), own_at O k HC.out 2 (by omega), own_at O k HC.out 3 (by omega)⟩, A, B, H, O⟩
        go_region_held3 (fun w' => (Below w.heap.size w w' ∧ w'.cell? ⟨w.heap.size, 0, none⟩ = some (.int .u64 (uv a.vh)) ∧ w'.cell? ⟨w.heap.size, 1, none⟩ = some (.int .u64 (uv a.vl)) ∧ w'.cell? ⟨w.heap.size, 2, none⟩ = some (.int .u64 (uv a.ch)) ∧ w'.cell? ⟨w.heap.size, 3, none⟩ = some (.int .u64 (uv a.cl)) ∧ w'.cell? ⟨w.heap.size + 1, 0, none⟩ = some (.int .u64 (uv b.vh)) ∧ w'.cell? ⟨w.heap.size + 1, 1, none⟩ = some (.int .u64 (uv b.vl)) ∧ w'.cell? ⟨w.heap.size + 1, 2, none⟩ = some (.int .u64 (uv b.ch)) ∧ w'.cell? ⟨w.heap.size + 1, 3, none⟩ = some (.int .u64 (uv b.cl)) ∧ w'.cell? ⟨w.heap.size + 1 + 1, 0, none⟩ = some (.int .u64 (uv hh)) ∧ w'.cell? ⟨w.heap.size + 1 + 1, 1, none⟩ = some (.int .u64 (uv hl)) ∧ w'.cell? ⟨g, k * 4, none⟩ = some (.int .u64 (uv c.vh)) ∧ w'.cell? ⟨g, k * 4 + 1, none⟩ = some (.int .u64 (uv c.vl)) ∧ w'.cell? ⟨g, k * 4 + 2, none⟩ = some (.int .u64 (uv c.ch)) ∧ w'.cell? ⟨g, k * 4 + 3, none⟩ = some (.int .u64 (uv c.cl))) ∧ Blk w' (w.heap.size) 26 #[.int .u64 (uv a.vh), .int .u64 (uv a.vl), .int .u64 (uv a.ch), .int .u64 (uv a.cl)] ∧ Blk w' (w.heap.size + 1) 26 #[.int .u64 (uv b.vh), .int .u64 (uv b.vl), .int .u64 (uv b.ch), .int .u64 (uv b.cl)] ∧ Blk w' (w.heap.size + 1 + 1) 24 #[.int .u64 (uv hh), .int .u64 (uv hl)] ∧ w'.ownsRow w5.heap.size 26 4 (.slice (some ⟨g, 0, none⟩) Q.length cap) Q.length (flat Q))
          (first | exact KEEP2 _ _ (by assumption) (by assumption) | exact KEEP2 _ _ (Below.refl _ _).drew S0)
          (first
            | (go_at_call 16; (with_reducible refine (cwithin _ c a _ HW.out).mono ?_); rintro e wz8 ⟨rfl, hb⟩))
        clear S0 KEEP2 hb
        rename_i hS
        clear A B H O L
        obtain ⟨⟨L, _, _, _, _, _, _, _, _, _, _, _, _, _, _⟩, A, B, H, O⟩ := hS
        have eA := A.four
        have eB := B.four
        have eH := H.pair
        go_wp2
        go_roundg (Q.length - (k + 1))
        case measure => omega
        case rel => exact ⟨k + 1, by omega, rfl, by rw [HT.out]; simp only [Bool.toNat_false]; go_num, by go_num, L, A, B, H, O⟩
      · rw [hx] at HT
        have HX := Lib.hid hx
        clear hx
        go_upto_region 11 with (fail)
        clear eA eB eH
        have KEEP3 : ∀ u1 u2 : World, Below u1.heap.size u1 u2 → ((Below w.heap.size w u1 ∧ u1.cell? ⟨w.heap.size, 0, none⟩ = some (.int .u64 (uv a.vh)) ∧ u1.cell? ⟨w.heap.size, 1, none⟩ = some (.int .u64 (uv a.vl)) ∧ u1.cell? ⟨w.heap.size, 2, none⟩ = some (.int .u64 (uv a.ch)) ∧ u1.cell? ⟨w.heap.size, 3, none⟩ = some (.int .u64 (uv a.cl)) ∧ u1.cell? ⟨w.heap.size + 1, 0, none⟩ = some (.int .u64 (uv b.vh)) ∧ u1.cell? ⟨w.heap.size + 1, 1, none⟩ = some (.int .u64 (uv b.vl)) ∧ u1.cell? ⟨w.heap.size + 1, 2, none⟩ = some (.int .u64 (uv b.ch)) ∧ u1.cell? ⟨w.heap.size + 1, 3, none⟩ = some (.int .u64 (uv b.cl)) ∧ u1.cell? ⟨w.heap.size + 1 + 1, 0, none⟩ = some (.int .u64 (uv hh)) ∧ u1.cell? ⟨w.heap.size + 1 + 1, 1, none⟩ = some (.int .u64 (uv hl)) ∧ u1.cell? ⟨g, k * 4, none⟩ = some (.int .u64 (uv c.vh)) ∧ u1.cell? ⟨g, k * 4 + 1, none⟩ = some (.int .u64 (uv c.vl)) ∧ u1.cell? ⟨g, k * 4 + 2, none⟩ = some (.int .u64 (uv c.ch)) ∧ u1.cell? ⟨g, k * 4 + 3, none⟩ = some (.int .u64 (uv c.cl))) ∧ Blk u1 (w.heap.size) 26 #[.int .u64 (uv a.vh), .int .u64 (uv a.vl), .int .u64 (uv a.ch), .int .u64 (uv a.cl)] ∧ Blk u1 (w.heap.size + 1) 26 #[.int .u64 (uv b.vh), .int .u64 (uv b.vl), .int .u64 (uv b.ch), .int .u64 (uv b.cl)] ∧ Blk u1 (w.heap.size + 1 + 1) 24 #[.int .u64 (uv hh), .int .u64 (uv hl)] ∧ u1.ownsRow w5.heap.size 26 4 (.slice (some ⟨g, 0, none⟩) Q.length cap) Q.length (flat Q)) → ((Below w.heap.size w u2 ∧ u2.cell? ⟨w.heap.size, 0, none⟩ = some (.int .u64 (uv a.vh)) ∧ u2.cell? ⟨w.heap.size, 1, none⟩ = some (.int .u64 (uv a.vl)) ∧ u2.cell? ⟨w.heap.size, 2, none⟩ = some (.int .u64 (uv a.ch)) ∧ u2.cell? ⟨w.heap.size, 3, none⟩ = some (.int .u64 (uv a.cl)) ∧ u2.cell? ⟨w.heap.size + 1, 0, none⟩ = some (.int .u64 (uv b.vh)) ∧ u2.cell? ⟨w.heap.size + 1, 1, none⟩ = some (.int .u64 (uv b.vl)) ∧ u2.cell? ⟨w.heap.size + 1, 2, none⟩ = some (.int .u64 (uv b.ch)) ∧ u2.cell? ⟨w.heap.size + 1, 3, none⟩ = some (.int .u64 (uv b.cl)) ∧ u2.cell? ⟨w.heap.size + 1 + 1, 0, none⟩ = some (.int .u64 (uv hh)) ∧ u2.cell? ⟨w.heap.size + 1 + 1, 1, none⟩ = some (.int .u64 (uv hl)) ∧ u2.cell? ⟨g, k * 4, none⟩ = some (.int .u64 (uv c.vh)) ∧ u2.cell? ⟨g, k * 4 + 1, none⟩ = some (.int .u64 (uv c.vl)) ∧ u2.cell? ⟨g, k * 4 + 2, none⟩ = some (.int .u64 (uv c.ch)) ∧ u2.cell? ⟨g, k * 4 + 3, none⟩ = some (.int .u64 (uv c.cl))) ∧ Blk u2 (w.heap.size) 26 #[.int .u64 (uv a.vh), .int .u64 (uv a.vl), .int .u64 (uv a.ch), .int .u64 (uv a.cl)] ∧ Blk u2 (w.heap.size + 1) 26 #[.int .u64 (uv b.vh), .int .u64 (uv b.vl), .int .u64 (uv b.ch), .int .u64 (uv b.cl)] ∧ Blk u2 (w.heap.size + 1 + 1) 24 #[.int .u64 (uv hh), .int .u64 (uv hl)] ∧ u2.ownsRow w5.heap.size 26 4 (.slice (some ⟨g, 0, none⟩) Q.length cap) Q.length (flat Q)) := fun _ _ hb h => ⟨hold14 hb h.1, (h.2.1).on hb, (h.2.2.1).on hb, (h.2.2.2.1).on hb, own_on (h.2.2.2.2) hb⟩
        have S0 : (Below w.heap.size w wr ∧ wr.cell? ⟨w.heap.size, 0, none⟩ = some (.int .u64 (uv a.vh)) ∧ wr.cell? ⟨w.heap.size, 1, none⟩ = some (.int .u64 (uv a.vl)) ∧ wr.cell? ⟨w.heap.size, 2, none⟩ = some (.int .u64 (uv a.ch)) ∧ wr.cell? ⟨w.heap.size, 3, none⟩ = some (.int .u64 (uv a.cl)) ∧ wr.cell? ⟨w.heap.size + 1, 0, none⟩ = some (.int .u64 (uv b.vh)) ∧ wr.cell? ⟨w.heap.size + 1, 1, none⟩ = some (.int .u64 (uv b.vl)) ∧ wr.cell? ⟨w.heap.size + 1, 2, none⟩ = some (.int .u64 (uv b.ch)) ∧ wr.cell? ⟨w.heap.size + 1, 3, none⟩ = some (.int .u64 (uv b.cl)) ∧ wr.cell? ⟨w.heap.size + 1 + 1, 0, none⟩ = some (.int .u64 (uv hh)) ∧ wr.cell? ⟨w.heap.size + 1 + 1, 1, none⟩ = some (.int .u64 (uv hl)) ∧ wr.cell? ⟨g, k * 4, none⟩ = some (.int .u64 (uv c.vh)) ∧ wr.cell? ⟨g, k * 4 + 1, none⟩ = some (.int .u64 (uv c.vl)) ∧ wr.cell? ⟨g, k * 4 + 2, none⟩ = some (.int .u64 (uv c.ch)) ∧ wr.cell? ⟨g, k * 4 + 3, none⟩ = some (.int .u64 (uv c.cl))) ∧ Blk wr (w.heap.size) 26 #[.int .u64 (uv a.vh), .int .u64 (uv a.vl), .int .u64 (uv a.ch), .int .u64 (uv a.cl)] ∧ Blk wr (w.heap.size + 1) 26 #[.int .u64 (uv b.vh), .int .u64 (uv b.vl), .int .u64 (uv b.ch), .int .u64 (uv b.cl)] ∧ Blk wr (w.heap.size + 1 + 1) 24 #[.int .u64 (uv hh), .int .u64 (uv hl)] ∧ wr.ownsRow w5.heap.size 26 4 (.slice (some ⟨g, 0, none⟩) Q.length cap) Q.length (flat Q) := ⟨⟨L, A.cell 0, A.cell 1, A.cell 2, A.cell 3, B.cell 0, B.cell 1, B.cell 2, B.cell 3, H.cell 0, H.cell 1, own_at O k HC.out 0 (by omega), own_at O k HC.out 1 (by omega), own_at O k HC.out 2 (by omega), own_at O k HC.out 3 (by omega)⟩, A, B, H, O⟩
        go_region_held3 (fun w' => (Below w.heap.size w w' ∧ w'.cell? ⟨w.heap.size, 0, none⟩ = some (.int .u64 (uv a.vh)) ∧ w'.cell? ⟨w.heap.size, 1, none⟩ = some (.int .u64 (uv a.vl)) ∧ w'.cell? ⟨w.heap.size, 2, none⟩ = some (.int .u64 (uv a.ch)) ∧ w'.cell? ⟨w.heap.size, 3, none⟩ = some (.int .u64 (uv a.cl)) ∧ w'.cell? ⟨w.heap.size + 1, 0, none⟩ = some (.int .u64 (uv b.vh)) ∧ w'.cell? ⟨w.heap.size + 1, 1, none⟩ = some (.int .u64 (uv b.vl)) ∧ w'.cell? ⟨w.heap.size + 1, 2, none⟩ = some (.int .u64 (uv b.ch)) ∧ w'.cell? ⟨w.heap.size + 1, 3, none⟩ = some (.int .u64 (uv b.cl)) ∧ w'.cell? ⟨w.heap.size + 1 + 1, 0, none⟩ = some (.int .u64 (uv hh)) ∧ w'.cell? ⟨w.heap.size + 1 + 1, 1, none⟩ = some (.int .u64 (uv hl)) ∧ w'.cell? ⟨g, k * 4, none⟩ = some (.int .u64 (uv c.vh)) ∧ w'.cell? ⟨g, k * 4 + 1, none⟩ = some (.int .u64 (uv c.vl)) ∧ w'.cell? ⟨g, k * 4 + 2, none⟩ = some (.int .u64 (uv c.ch)) ∧ w'.cell? ⟨g, k * 4 + 3, none⟩ = some (.int .u64 (uv c.cl))) ∧ Blk w' (w.heap.size) 26 #[.int .u64 (uv a.vh), .int .u64 (uv a.vl), .int .u64 (uv a.ch), .int .u64 (uv a.cl)] ∧ Blk w' (w.heap.size + 1) 26 #[.int .u64 (uv b.vh), .int .u64 (uv b.vl), .int .u64 (uv b.ch), .int .u64 (uv b.cl)] ∧ Blk w' (w.heap.size + 1 + 1) 24 #[.int .u64 (uv hh), .int .u64 (uv hl)] ∧ w'.ownsRow w5.heap.size 26 4 (.slice (some ⟨g, 0, none⟩) Q.length cap) Q.length (flat Q))
          (first | exact KEEP3 _ _ (by assumption) (by assumption) | exact KEEP3 _ _ (Below.refl _ _).drew S0)
          (first
            | (go_at_call 13; (with_reducible refine (chas _ c hh hl _ HX.out).mono ?_); rintro e wz9 ⟨rfl, hb⟩))
        clear S0 KEEP3 hb
        rename_i hS
        clear A B H O L
        obtain ⟨⟨L, _, _, _, _, _, _, _, _, _, _, _, _, _, _⟩, A, B, H, O⟩ := hS
        have eA := A.four
        have eB := B.four
        have eH := H.pair
        go_upto_region 13 with (fail)
        clear eA eB eH
        have KEEP4 : ∀ u1 u2 : World, Below u1.heap.size u1 u2 → ((Below w.heap.size w u1 ∧ u1.cell? ⟨w.heap.size, 0, none⟩ = some (.int .u64 (uv a.vh)) ∧ u1.cell? ⟨w.heap.size, 1, none⟩ = some (.int .u64 (uv a.vl)) ∧ u1.cell? ⟨w.heap.size, 2, none⟩ = some (.int .u64 (uv a.ch)) ∧ u1.cell? ⟨w.heap.size, 3, none⟩ = some (.int .u64 (uv a.cl)) ∧ u1.cell? ⟨w.heap.size + 1, 0, none⟩ = some (.int .u64 (uv b.vh)) ∧ u1.cell? ⟨w.heap.size + 1, 1, none⟩ = some (.int .u64 (uv b.vl)) ∧ u1.cell? ⟨w.heap.size + 1, 2, none⟩ = some (.int .u64 (uv b.ch)) ∧ u1.cell? ⟨w.heap.size + 1, 3, none⟩ = some (.int .u64 (uv b.cl)) ∧ u1.cell? ⟨w.heap.size + 1 + 1, 0, none⟩ = some (.int .u64 (uv hh)) ∧ u1.cell? ⟨w.heap.size + 1 + 1, 1, none⟩ = some (.int .u64 (uv hl)) ∧ u1.cell? ⟨g, k * 4, none⟩ = some (.int .u64 (uv c.vh)) ∧ u1.cell? ⟨g, k * 4 + 1, none⟩ = some (.int .u64 (uv c.vl)) ∧ u1.cell? ⟨g, k * 4 + 2, none⟩ = some (.int .u64 (uv c.ch)) ∧ u1.cell? ⟨g, k * 4 + 3, none⟩ = some (.int .u64 (uv c.cl))) ∧ Blk u1 (w.heap.size) 26 #[.int .u64 (uv a.vh), .int .u64 (uv a.vl), .int .u64 (uv a.ch), .int .u64 (uv a.cl)] ∧ Blk u1 (w.heap.size + 1) 26 #[.int .u64 (uv b.vh), .int .u64 (uv b.vl), .int .u64 (uv b.ch), .int .u64 (uv b.cl)] ∧ Blk u1 (w.heap.size + 1 + 1) 24 #[.int .u64 (uv hh), .int .u64 (uv hl)] ∧ u1.ownsRow w5.heap.size 26 4 (.slice (some ⟨g, 0, none⟩) Q.length cap) Q.length (flat Q)) → ((Below w.heap.size w u2 ∧ u2.cell? ⟨w.heap.size, 0, none⟩ = some (.int .u64 (uv a.vh)) ∧ u2.cell? ⟨w.heap.size, 1, none⟩ = some (.int .u64 (uv a.vl)) ∧ u2.cell? ⟨w.heap.size, 2, none⟩ = some (.int .u64 (uv a.ch)) ∧ u2.cell? ⟨w.heap.size, 3, none⟩ = some (.int .u64 (uv a.cl)) ∧ u2.cell? ⟨w.heap.size + 1, 0, none⟩ = some (.int .u64 (uv b.vh)) ∧ u2.cell? ⟨w.heap.size + 1, 1, none⟩ = some (.int .u64 (uv b.vl)) ∧ u2.cell? ⟨w.heap.size + 1, 2, none⟩ = some (.int .u64 (uv b.ch)) ∧ u2.cell? ⟨w.heap.size + 1, 3, none⟩ = some (.int .u64 (uv b.cl)) ∧ u2.cell? ⟨w.heap.size + 1 + 1, 0, none⟩ = some (.int .u64 (uv hh)) ∧ u2.cell? ⟨w.heap.size + 1 + 1, 1, none⟩ = some (.int .u64 (uv hl)) ∧ u2.cell? ⟨g, k * 4, none⟩ = some (.int .u64 (uv c.vh)) ∧ u2.cell? ⟨g, k * 4 + 1, none⟩ = some (.int .u64 (uv c.vl)) ∧ u2.cell? ⟨g, k * 4 + 2, none⟩ = some (.int .u64 (uv c.ch)) ∧ u2.cell? ⟨g, k * 4 + 3, none⟩ = some (.int .u64 (uv c.cl))) ∧ Blk u2 (w.heap.size) 26 #[.int .u64 (uv a.vh), .int .u64 (uv a.vl), .int .u64 (uv a.ch), .int .u64 (uv a.cl)] ∧ Blk u2 (w.heap.size + 1) 26 #[.int .u64 (uv b.vh), .int .u64 (uv b.vl), .int .u64 (uv b.ch), .int .u64 (uv b.cl)] ∧ Blk u2 (w.heap.size + 1 + 1) 24 #[.int .u64 (uv hh), .int .u64 (uv hl)] ∧ u2.ownsRow w5.heap.size 26 4 (.slice (some ⟨g, 0, none⟩) Q.length cap) Q.length (flat Q)) := fun _ _ hb h => ⟨hold14 hb h.1, (h.2.1).on hb, (h.2.2.1).on hb, (h.2.2.2.1).on hb, own_on (h.2.2.2.2) hb⟩
        have S0 : (Below w.heap.size w wz9 ∧ wz9.cell? ⟨w.heap.size, 0, none⟩ = some (.int .u64 (uv a.vh)) ∧ wz9.cell? ⟨w.heap.size, 1, none⟩ = some (.int .u64 (uv a.vl)) ∧ wz9.cell? ⟨w.heap.size, 2, none⟩ = some (.int .u64 (uv a.ch)) ∧ wz9.cell? ⟨w.heap.size, 3, none⟩ = some (.int .u64 (uv a.cl)) ∧ wz9.cell? ⟨w.heap.size + 1, 0, none⟩ = some (.int .u64 (uv b.vh)) ∧ wz9.cell? ⟨w.heap.size + 1, 1, none⟩ = some (.int .u64 (uv b.vl)) ∧ wz9.cell? ⟨w.heap.size + 1, 2, none⟩ = some (.int .u64 (uv b.ch)) ∧ wz9.cell? ⟨w.heap.size + 1, 3, none⟩ = some (.int .u64 (uv b.cl)) ∧ wz9.cell? ⟨w.heap.size + 1 + 1, 0, none⟩ = some (.int .u64 (uv hh)) ∧ wz9.cell? ⟨w.heap.size + 1 + 1, 1, none⟩ = some (.int .u64 (uv hl)) ∧ wz9.cell? ⟨g, k * 4, none⟩ = some (.int .u64 (uv c.vh)) ∧ wz9.cell? ⟨g, k * 4 + 1, none⟩ = some (.int .u64 (uv c.vl)) ∧ wz9.cell? ⟨g, k * 4 + 2, none⟩ = some (.int .u64 (uv c.ch)) ∧ wz9.cell? ⟨g, k * 4 + 3, none⟩ = some (.int .u64 (uv c.cl))) ∧ Blk wz9 (w.heap.size) 26 #[.int .u64 (uv a.vh), .int .u64 (uv a.vl), .int .u64 (uv a.ch), .int .u64 (uv a.cl)] ∧ Blk wz9 (w.heap.size + 1) 26 #[.int .u64 (uv b.vh), .int .u64 (uv b.vl), .int .u64 (uv b.ch), .int .u64 (uv b.cl)] ∧ Blk wz9 (w.heap.size + 1 + 1) 24 #[.int .u64 (uv hh), .int .u64 (uv hl)] ∧ wz9.ownsRow w5.heap.size 26 4 (.slice (some ⟨g, 0, none⟩) Q.length cap) Q.length (flat Q) := ⟨⟨L, A.cell 0, A.cell 1, A.cell 2, A.cell 3, B.cell 0, B.cell 1, B.cell 2, B.cell 3, H.cell 0, H.cell 1, own_at O k HC.out 0 (by omega), own_at O k HC.out 1 (by omega), own_at O k HC.out 2 (by omega), own_at O k HC.out 3 (by omega)⟩, A, B, H, O⟩
        go_region_held3 (fun w' => (Below w.heap.size w w' ∧ w'.cell? ⟨w.heap.size, 0, none⟩ = some (.int .u64 (uv a.vh)) ∧ w'.cell? ⟨w.heap.size, 1, none⟩ = some (.int .u64 (uv a.vl)) ∧ w'.cell? ⟨w.heap.size, 2, none⟩ = some (.int .u64 (uv a.ch)) ∧ w'.cell? ⟨w.heap.size, 3, none⟩ = some (.int .u64 (uv a.cl)) ∧ w'.cell? ⟨w.heap.size + 1, 0, none⟩ = some (.int .u64 (uv b.vh)) ∧ w'.cell? ⟨w.heap.size + 1, 1, none⟩ = some (.int .u64 (uv b.vl)) ∧ w'.cell? ⟨w.heap.size + 1, 2, none⟩ = some (.int .u64 (uv b.ch)) ∧ w'.cell? ⟨w.heap.size + 1, 3, none⟩ = some (.int .u64 (uv b.cl)) ∧ w'.cell? ⟨w.heap.size + 1 + 1, 0, none⟩ = some (.int .u64 (uv hh)) ∧ w'.cell? ⟨w.heap.size + 1 + 1, 1, none⟩ = some (.int .u64 (uv hl)) ∧ w'.cell? ⟨g, k * 4, none⟩ = some (.int .u64 (uv c.vh)) ∧ w'.cell? ⟨g, k * 4 + 1, none⟩ = some (.int .u64 (uv c.vl)) ∧ w'.cell? ⟨g, k * 4 + 2, none⟩ = some (.int .u64 (uv c.ch)) ∧ w'.cell? ⟨g, k * 4 + 3, none⟩ = some (.int .u64 (uv c.cl))) ∧ Blk w' (w.heap.size) 26 #[.int .u64 (uv a.vh), .int .u64 (uv a.vl), .int .u64 (uv a.ch), .int .u64 (uv a.cl)] ∧ Blk w' (w.heap.size + 1) 26 #[.int .u64 (uv b.vh), .int .u64 (uv b.vl), .int .u64 (uv b.ch), .int .u64 (uv b.cl)] ∧ Blk w' (w.heap.size + 1 + 1) 24 #[.int .u64 (uv hh), .int .u64 (uv hl)] ∧ w'.ownsRow w5.heap.size 26 4 (.slice (some ⟨g, 0, none⟩) Q.length cap) Q.length (flat Q))
          (first | exact KEEP4 _ _ (by assumption) (by assumption) | exact KEEP4 _ _ (Below.refl _ _).drew S0)
          (first
            | (go_at_call 16; (with_reducible refine (cwithin _ c a _ HW.out).mono ?_); rintro e wz10 ⟨rfl, hb⟩))
        clear S0 KEEP4 hb
        rename_i hS
        clear A B H O L
        obtain ⟨⟨L, _, _, _, _, _, _, _, _, _, _, _, _, _, _⟩, A, B, H, O⟩ := hS
        have eA := A.four
        have eB := B.four
        have eH := H.pair
        go_wp2
        go_roundg (Q.length - (k + 1))
        case measure => omega
        case rel => exact ⟨k + 1, by omega, rfl, by rw [HT.out]; simp only [Bool.toNat_true]; go_num, by go_num, L, A, B, H, O⟩
    · obtain rfl : k = Q.length := by omega
      rw [List.take_length]
      have ec : 0 + cntC hh hl Q = (a.has hh hl).toNat := HCNT.out
      have HL := HLEN.out
      clear cb tl
      have eA := A.four
      have eB := B.four
      have eH := H.pair
      cases ha : a.has hh hl
      · rw [ha] at ec
        simp only [Bool.toNat_false] at ec
        rw [ec]
        clear ec
        cases Q with
        | nil =>
          have hw : a.wit b = true := HL.1 rfl
          clear HL HLEN HCNT HWIT HQ
          go_wp2_with fail
          (with_reducible refine (chas _ a hh hl _ ha).mono ?_)
          rintro e w7 ⟨rfl, hb⟩
          clear eA eB eH
          replace A := A.on hb
          replace B := B.on hb
          replace H := H.on hb
          replace L := L.trans (hb.mono L.size)
          clear hb
          have eA := A.four
          have eB := B.four
          have eH := H.pair
          go_wp2_with fail
          (with_reducible refine (cwithin _ a b _ hw).mono ?_)
          rintro e w8 ⟨rfl, hb⟩
          clear eA eB eH
          replace A := A.on hb
          replace B := B.on hb
          replace H := H.on hb
          replace L := L.trans (hb.mono L.size)
          clear hb
          have eA := A.four
          have eB := B.four
          have eH := H.pair
          go_wp2
          go_ret
          exact ⟨rfl, L⟩
        | cons q Q =>
          have hw : a.wit b = false := by cases e : a.wit b with
            | false => rfl
            | true => exact absurd (HL.2 e) (by simp)
          clear HL HLEN HCNT HWIT HQ
          go_wp2_with fail
          (with_reducible refine (chas _ a hh hl _ ha).mono ?_)
          rintro e w7 ⟨rfl, hb⟩
          clear eA eB eH
          replace A := A.on hb
          replace B := B.on hb
          replace H := H.on hb
          replace L := L.trans (hb.mono L.size)
          clear hb
          have eA := A.four
          have eB := B.four
          have eH := H.pair
          go_wp2_with fail
          (with_reducible refine (cwithin _ a b _ hw).mono ?_)
          rintro e w8 ⟨rfl, hb⟩
          clear eA eB eH
          replace A := A.on hb
          replace B := B.on hb
          replace H := H.on hb
          replace L := L.trans (hb.mono L.size)
          clear hb
          have eA := A.four
          have eB := B.four
          have eH := H.pair
          go_wp2
          go_ret
          exact ⟨rfl, L⟩
      · rw [ha] at ec
        simp only [Bool.toNat_true] at ec
        rw [ec]
        clear ec
        cases Q with
        | nil =>
          have hw : a.wit b = true := HL.1 rfl
          clear HL HLEN HCNT HWIT HQ
          go_wp2_with fail
          (with_reducible refine (chas _ a hh hl _ ha).mono ?_)
          rintro e w7 ⟨rfl, hb⟩
          clear eA eB eH
          replace A := A.on hb
          replace B := B.on hb
          replace H := H.on hb
          replace L := L.trans (hb.mono L.size)
          clear hb
          have eA := A.four
          have eB := B.four
          have eH := H.pair
          go_wp2_with fail
          (with_reducible refine (cwithin _ a b _ hw).mono ?_)
          rintro e w8 ⟨rfl, hb⟩
          clear eA eB eH
          replace A := A.on hb
          replace B := B.on hb
          replace H := H.on hb
          replace L := L.trans (hb.mono L.size)
          clear hb
          have eA := A.four
          have eB := B.four
          have eH := H.pair
          go_wp2
          go_ret
          exact ⟨rfl, L⟩
        | cons q Q =>
          have hw : a.wit b = false := by cases e : a.wit b with
            | false => rfl
            | true => exact absurd (HL.2 e) (by simp)
          clear HL HLEN HCNT HWIT HQ
          go_wp2_with fail
          (with_reducible refine (chas _ a hh hl _ ha).mono ?_)
          rintro e w7 ⟨rfl, hb⟩
          clear eA eB eH
          replace A := A.on hb
          replace B := B.on hb
          replace H := H.on hb
          replace L := L.trans (hb.mono L.size)
          clear hb
          have eA := A.four
          have eB := B.four
          have eH := H.pair
          go_wp2_with fail
          (with_reducible refine (cwithin _ a b _ hw).mono ?_)
          rintro e w8 ⟨rfl, hb⟩
          clear eA eB eH
          replace A := A.on hb
          replace B := B.on hb
          replace H := H.on hb
          replace L := L.trans (hb.mono L.size)
          clear hb
          have eA := A.four
          have eB := B.four
          have eH := H.pair
          go_wp2
          go_ret
          exact ⟨rfl, L⟩

set_option maxHeartbeats 4000000 in
theorem parts_0 (a b : Cb) (hh hl : BitVec 64) (w : World) (h1 : a.snd = true) (h2 : b.snd = true) (Q : List Cb) (HQ : Hid (lessC a b = Q)) (HWIT : Hid (∀ c ∈ Q, c.wit a = true)) (hQ : Q.length ≤ 128) (HLEN : Hid (Q.length = 0 ↔ a.wit b = true)) (HCNT : Hid (0 + cntC hh hl Q = (a.has hh hl).toNat)) (hm : a.met b = true) (hj : (a.join b).has hh hl = false) :
    Calls Try.prog 8 #[.agg #[.int .u64 (uv a.vh), .int .u64 (uv a.vl), .int .u64 (uv a.ch), .int .u64 (uv a.cl)], .agg #[.int .u64 (uv b.vh), .int .u64 (uv b.vl), .int .u64 (uv b.ch), .int .u64 (uv b.cl)], .agg #[.int .u64 (uv hh), .int .u64 (uv hl)]] w fun e w' => e = .returned (.bool true) ∧ Below w.heap.size w w' := by
  have bx0 := below1 w (.cells #[.int .u64 (uv a.vh), .int .u64 (uv a.vl), .int .u64 (uv a.ch), .int .u64 (uv a.cl)] 26)
  have Ab0 : Blk (w.alloc (.cells #[.int .u64 (uv a.vh), .int .u64 (uv a.vl), .int .u64 (uv a.ch), .int .u64 (uv a.cl)] 26)) (w.heap.size) 26 #[.int .u64 (uv a.vh), .int .u64 (uv a.vl), .int .u64 (uv a.ch), .int .u64 (uv a.cl)] := Blk.new w _ _
  have L0 : Below w.heap.size w (w.alloc (.cells #[.int .u64 (uv a.vh), .int .u64 (uv a.vl), .int .u64 (uv a.ch), .int .u64 (uv a.cl)] 26)) := bx0
  have bx1 := below1 (w.alloc (.cells #[.int .u64 (uv a.vh), .int .u64 (uv a.vl), .int .u64 (uv a.ch), .int .u64 (uv a.cl)] 26)) (.cells #[.int .u64 (uv b.vh), .int .u64 (uv b.vl), .int .u64 (uv b.ch), .int .u64 (uv b.cl)] 26)
  have Ab1 := Ab0.on bx1
  have Bb1 : Blk ((w.alloc (.cells #[.int .u64 (uv a.vh), .int .u64 (uv a.vl), .int .u64 (uv a.ch), .int .u64 (uv a.cl)] 26)).alloc (.cells #[.int .u64 (uv b.vh), .int .u64 (uv b.vl), .int .u64 (uv b.ch), .int .u64 (uv b.cl)] 26)) (w.heap.size + 1) 26 #[.int .u64 (uv b.vh), .int .u64 (uv b.vl), .int .u64 (uv b.ch), .int .u64 (uv b.cl)] := by have h := Blk.new (w.alloc (.cells #[.int .u64 (uv a.vh), .int .u64 (uv a.vl), .int .u64 (uv a.ch), .int .u64 (uv a.cl)] 26)) 26 #[.int .u64 (uv b.vh), .int .u64 (uv b.vl), .int .u64 (uv b.ch), .int .u64 (uv b.cl)]; simpa only [World.size_alloc] using h
  have L1 : Below w.heap.size w ((w.alloc (.cells #[.int .u64 (uv a.vh), .int .u64 (uv a.vl), .int .u64 (uv a.ch), .int .u64 (uv a.cl)] 26)).alloc (.cells #[.int .u64 (uv b.vh), .int .u64 (uv b.vl), .int .u64 (uv b.ch), .int .u64 (uv b.cl)] 26)) := L0.trans (bx1.mono L0.size)
  have bx2 := below1 ((w.alloc (.cells #[.int .u64 (uv a.vh), .int .u64 (uv a.vl), .int .u64 (uv a.ch), .int .u64 (uv a.cl)] 26)).alloc (.cells #[.int .u64 (uv b.vh), .int .u64 (uv b.vl), .int .u64 (uv b.ch), .int .u64 (uv b.cl)] 26)) (.cells #[.int .u64 (uv hh), .int .u64 (uv hl)] 24)
  have Ab2 := Ab1.on bx2
  have Bb2 := Bb1.on bx2
  have Hb2 : Blk (((w.alloc (.cells #[.int .u64 (uv a.vh), .int .u64 (uv a.vl), .int .u64 (uv a.ch), .int .u64 (uv a.cl)] 26)).alloc (.cells #[.int .u64 (uv b.vh), .int .u64 (uv b.vl), .int .u64 (uv b.ch), .int .u64 (uv b.cl)] 26)).alloc (.cells #[.int .u64 (uv hh), .int .u64 (uv hl)] 24)) (w.heap.size + 1 + 1) 24 #[.int .u64 (uv hh), .int .u64 (uv hl)] := by have h := Blk.new ((w.alloc (.cells #[.int .u64 (uv a.vh), .int .u64 (uv a.vl), .int .u64 (uv a.ch), .int .u64 (uv a.cl)] 26)).alloc (.cells #[.int .u64 (uv b.vh), .int .u64 (uv b.vl), .int .u64 (uv b.ch), .int .u64 (uv b.cl)] 26)) 24 #[.int .u64 (uv hh), .int .u64 (uv hl)]; simpa only [World.size_alloc] using h
  have L2 : Below w.heap.size w (((w.alloc (.cells #[.int .u64 (uv a.vh), .int .u64 (uv a.vl), .int .u64 (uv a.ch), .int .u64 (uv a.cl)] 26)).alloc (.cells #[.int .u64 (uv b.vh), .int .u64 (uv b.vl), .int .u64 (uv b.ch), .int .u64 (uv b.cl)] 26)).alloc (.cells #[.int .u64 (uv hh), .int .u64 (uv hl)] 24)) := L1.trans (bx2.mono L1.size)
  have A := Ab2
  have B := Bb2
  have H := Hb2
  have L := L2
  clear bx0 bx1 bx2 L0 L1 L2 Ab0 Ab1 Ab2 Bb1 Bb2 Hb2
  have eA := A.four
  have eB := B.four
  have eH := H.pair
  go_enter Try.func8, Try.ntmps8
  go_wp2_with fail
  (with_reducible refine (awake2_c _).mono ?_)
  rintro e w1 ⟨rfl, hb⟩
  clear eA eB eH
  replace A := A.on hb
  replace B := B.on hb
  replace H := H.on hb
  replace L := L.trans (hb.mono L.size)
  clear hb
  have eA := A.four
  have eB := B.four
  have eH := H.pair
  go_wp2_with fail
  (with_reducible refine (csound _ a _ h1).mono ?_)
  rintro e w2 ⟨rfl, hb⟩
  clear eA eB eH
  replace A := A.on hb
  replace B := B.on hb
  replace H := H.on hb
  replace L := L.trans (hb.mono L.size)
  clear hb
  have eA := A.four
  have eB := B.four
  have eH := H.pair
  go_wp2_with fail
  (with_reducible refine (csound _ b _ h2).mono ?_)
  rintro e w3 ⟨rfl, hb⟩
  clear eA eB eH
  replace A := A.on hb
  replace B := B.on hb
  replace H := H.on hb
  replace L := L.trans (hb.mono L.size)
  clear hb
  have eA := A.four
  have eB := B.four
  have eH := H.pair
  go_wp2_with fail
  (with_reducible refine (cmeet_t a b _ hm).mono ?_)
  rintro e w4 ⟨rfl, hb⟩
  clear eA eB eH
  replace A := A.on hb
  replace B := B.on hb
  replace H := H.on hb
  replace L := L.trans (hb.mono L.size)
  clear hb
  have eA := A.four
  have eB := B.four
  have eH := H.pair
  go_upto_region 5 with (fail)
  have ltAC : w.heap.size < w4.heap.size := A.lt
  have ltBC : w.heap.size + 1 < w4.heap.size := B.lt
  have ltHC : w.heap.size + 1 + 1 < w4.heap.size := H.lt
  have hb := below1 w4 (.cells #[.int .u64 (uv (a.vh ||| b.vh)), .int .u64 (uv (a.vl ||| b.vl)), .int .u64 (uv (a.ch ||| b.ch)), .int .u64 (uv (a.cl ||| b.cl))] 26)
  clear eA eB eH
  replace A := A.on hb
  replace B := B.on hb
  replace H := H.on hb
  replace L := L.trans (hb.mono L.size)
  have C : Blk (w4.alloc (.cells #[.int .u64 (uv (a.vh ||| b.vh)), .int .u64 (uv (a.vl ||| b.vl)), .int .u64 (uv (a.ch ||| b.ch)), .int .u64 (uv (a.cl ||| b.cl))] 26)) w4.heap.size 26 #[.int .u64 (uv (a.vh ||| b.vh)), .int .u64 (uv (a.vl ||| b.vl)), .int .u64 (uv (a.ch ||| b.ch)), .int .u64 (uv (a.cl ||| b.cl))] := Blk.new w4 _ _
  clear hb
  generalize (w4.alloc (.cells #[.int .u64 (uv (a.vh ||| b.vh)), .int .u64 (uv (a.vl ||| b.vl)), .int .u64 (uv (a.ch ||| b.ch)), .int .u64 (uv (a.cl ||| b.cl))] 26)) = w5 at L A B H C ⊢
  have eA := A.four
  have eB := B.four
  have eH := H.pair
  have eC := C.four
  go_wp2_with fail
  (with_reducible refine (chas_j _ a b hh hl _ hj).mono ?_)
  rintro e w6 ⟨rfl, hb⟩
  clear eA eB eH eC
  replace A := A.on hb
  replace B := B.on hb
  replace H := H.on hb
  replace C := C.on hb
  replace L := L.trans (hb.mono L.size)
  clear hb
  have eA := A.four
  have eB := B.four
  have eH := H.pair
  have eC := C.four
  clear eC
  clear C
  go_wp2_with fail
  (with_reducible refine (cless_q a b Q _ h1 h2 HQ.out).mono ?_)
  rintro e w7 ⟨v, rfl, O, hb⟩
  clear eA eB eH
  replace A := A.on hb
  replace B := B.on hb
  replace H := H.on hb
  replace L := L.trans (hb.mono L.size)
  clear hb
  have eA := A.four
  have eB := B.four
  have eH := H.pair
  obtain ⟨ad, cap, rfl, hA⟩ := own_form O
  replace O := O.mono (Nat.le_refl _)
  clear eA eB eH
  go_wp2_with fail
  go_loopg [7, 11] Q.length (fun gk x i wr => ∃ k : Nat, k ≤ Q.length ∧ gk = Q.length - k ∧ x = .int .i64 ((0 + cntC hh hl (Q.take k) : Nat) : Int) ∧ i = .int .i64 k ∧ Below w.heap.size w wr ∧ Blk wr (w.heap.size) 26 #[.int .u64 (uv a.vh), .int .u64 (uv a.vl), .int .u64 (uv a.ch), .int .u64 (uv a.cl)] ∧ Blk wr (w.heap.size + 1) 26 #[.int .u64 (uv b.vh), .int .u64 (uv b.vl), .int .u64 (uv b.ch), .int .u64 (uv b.cl)] ∧ Blk wr (w.heap.size + 1 + 1) 24 #[.int .u64 (uv hh), .int .u64 (uv hl)] ∧ wr.ownsRow w6.heap.size 26 4 (.slice ad Q.length cap) Q.length (flat Q))
  case atStart => exact ⟨0, Nat.zero_le _, rfl, rfl, rfl, L, A, B, H, O⟩
  case round =>
    clear L A B H O
    obtain ⟨k, hk, rfl, rfl, rfl, L, A, B, H, O⟩ := hrel
    have cb := cntC_le hh hl (Q.take k)
    have tl : (Q.take k).length ≤ k := List.length_take_le _ _
    by_cases hlt : k < Q.length
    · obtain ⟨g, rfl⟩ := hA (by omega)
      obtain ⟨c, hc⟩ : ∃ c, Q[k]? = some c := ⟨_, List.getElem?_eq_getElem hlt⟩
      have hcm : c ∈ Q := List.mem_of_getElem? hc
      have HW := Lib.hid (HWIT.out c hcm)
      have HT := Lib.hid (take_count hh hl Q k c hc)
      have HC := Lib.hid hc
      clear hc hcm
      have eA := A.four
      have eB := B.four
      have eH := H.pair
      cases hx : c.has hh hl
      · rw [hx] at HT
        have HX := Lib.hid hx
        clear hx
        go_upto_region 11 with (fail)
        clear eA eB eH
        have KEEP1 : ∀ u1 u2 : World, Below u1.heap.size u1 u2 → ((Below w.heap.size w u1 ∧ u1.cell? ⟨w.heap.size, 0, none⟩ = some (.int .u64 (uv a.vh)) ∧ u1.cell? ⟨w.heap.size, 1, none⟩ = some (.int .u64 (uv a.vl)) ∧ u1.cell? ⟨w.heap.size, 2, none⟩ = some (.int .u64 (uv a.ch)) ∧ u1.cell? ⟨w.heap.size, 3, none⟩ = some (.int .u64 (uv a.cl)) ∧ u1.cell? ⟨w.heap.size + 1, 0, none⟩ = some (.int .u64 (uv b.vh)) ∧ u1.cell? ⟨w.heap.size + 1, 1, none⟩ = some (.int .u64 (uv b.vl)) ∧ u1.cell? ⟨w.heap.size + 1, 2, none⟩ = some (.int .u64 (uv b.ch)) ∧ u1.cell? ⟨w.heap.size + 1, 3, none⟩ = some (.int .u64 (uv b.cl)) ∧ u1.cell? ⟨w.heap.size + 1 + 1, 0, none⟩ = some (.int .u64 (uv hh)) ∧ u1.cell? ⟨w.heap.size + 1 + 1, 1, none⟩ = some (.int .u64 (uv hl)) ∧ u1.cell? ⟨g, k * 4, none⟩ = some (.int .u64 (uv c.vh)) ∧ u1.cell? ⟨g, k * 4 + 1, none⟩ = some (.int .u64 (uv c.vl)) ∧ u1.cell? ⟨g, k * 4 + 2, none⟩ = some (.int .u64 (uv c.ch)) ∧ u1.cell? ⟨g, k * 4 + 3, none⟩ = some (.int .u64 (uv c.cl))) ∧ Blk u1 (w.heap.size) 26 #[.int .u64 (uv a.vh), .int .u64 (uv a.vl), .int .u64 (uv a.ch), .int .u64 (uv a.cl)] ∧ Blk u1 (w.heap.size + 1) 26 #[.int .u64 (uv b.vh), .int .u64 (uv b.vl), .int .u64 (uv b.ch), .int .u64 (uv b.cl)] ∧ Blk u1 (w.heap.size + 1 + 1) 24 #[.int .u64 (uv hh), .int .u64 (uv hl)] ∧ u1.ownsRow w6.heap.size 26 4 (.slice (some ⟨g, 0, none⟩) Q.length cap) Q.length (flat Q)) → ((Below w.heap.size w u2 ∧ u2.cell? ⟨w.heap.size, 0, none⟩ = some (.int .u64 (uv a.vh)) ∧ u2.cell? ⟨w.heap.size, 1, none⟩ = some (.int .u64 (uv a.vl)) ∧ u2.cell? ⟨w.heap.size, 2, none⟩ = some (.int .u64 (uv a.ch)) ∧ u2.cell? ⟨w.heap.size, 3, none⟩ = some (.int .u64 (uv a.cl)) ∧ u2.cell? ⟨w.heap.size + 1, 0, none⟩ = some (.int .u64 (uv b.vh)) ∧ u2.cell? ⟨w.heap.size + 1, 1, none⟩ = some (.int .u64 (uv b.vl)) ∧ u2.cell? ⟨w.heap.size + 1, 2, none⟩ = some (.int .u64 (uv b.ch)) ∧ u2.cell? ⟨w.heap.size + 1, 3, none⟩ = some (.int .u64 (uv b.cl)) ∧ u2.cell? ⟨w.heap.size + 1 + 1, 0, none⟩ = some (.int .u64 (uv hh)) ∧ u2.cell? ⟨w.heap.size + 1 + 1, 1, none⟩ = some (.int .u64 (uv hl)) ∧ u2.cell? ⟨g, k * 4, none⟩ = some (.int .u64 (uv c.vh)) ∧ u2.cell? ⟨g, k * 4 + 1, none⟩ = some (.int .u64 (uv c.vl)) ∧ u2.cell? ⟨g, k * 4 + 2, none⟩ = some (.int .u64 (uv c.ch)) ∧ u2.cell? ⟨g, k * 4 + 3, none⟩ = some (.int .u64 (uv c.cl))) ∧ Blk u2 (w.heap.size) 26 #[.int .u64 (uv a.vh), .int .u64 (uv a.vl), .int .u64 (uv a.ch), .int .u64 (uv a.cl)] ∧ Blk u2 (w.heap.size + 1) 26 #[.int .u64 (uv b.vh), .int .u64 (uv b.vl), .int .u64 (uv b.ch), .int .u64 (uv b.cl)] ∧ Blk u2 (w.heap.size + 1 + 1) 24 #[.int .u64 (uv hh), .int .u64 (uv hl)] ∧ u2.ownsRow w6.heap.size 26 4 (.slice (some ⟨g, 0, none⟩) Q.length cap) Q.length (flat Q)) := fun _ _ hb h => ⟨hold14 hb h.1, (h.2.1).on hb, (h.2.2.1).on hb, (h.2.2.2.1).on hb, own_on (h.2.2.2.2) hb⟩
        have S0 : (Below w.heap.size w wr ∧ wr.cell? ⟨w.heap.size, 0, none⟩ = some (.int .u64 (uv a.vh)) ∧ wr.cell? ⟨w.heap.size, 1, none⟩ = some (.int .u64 (uv a.vl)) ∧ wr.cell? ⟨w.heap.size, 2, none⟩ = some (.int .u64 (uv a.ch)) ∧ wr.cell? ⟨w.heap.size, 3, none⟩ = some (.int .u64 (uv a.cl)) ∧ wr.cell? ⟨w.heap.size + 1, 0, none⟩ = some (.int .u64 (uv b.vh)) ∧ wr.cell? ⟨w.heap.size + 1, 1, none⟩ = some (.int .u64 (uv b.vl)) ∧ wr.cell? ⟨w.heap.size + 1, 2, none⟩ = some (.int .u64 (uv b.ch)) ∧ wr.cell? ⟨w.heap.size + 1, 3, none⟩ = some (.int .u64 (uv b.cl)) ∧ wr.cell? ⟨w.heap.size + 1 + 1, 0, none⟩ = some (.int .u64 (uv hh)) ∧ wr.cell? ⟨w.heap.size + 1 + 1, 1, none⟩ = some (.int .u64 (uv hl)) ∧ wr.cell? ⟨g, k * 4, none⟩ = some (.int .u64 (uv c.vh)) ∧ wr.cell? ⟨g, k * 4 + 1, none⟩ = some (.int .u64 (uv c.vl)) ∧ wr.cell? ⟨g, k * 4 + 2, none⟩ = some (.int .u64 (uv c.ch)) ∧ wr.cell? ⟨g, k * 4 + 3, none⟩ = some (.int .u64 (uv c.cl))) ∧ Blk wr (w.heap.size) 26 #[.int .u64 (uv a.vh), .int .u64 (uv a.vl), .int .u64 (uv a.ch), .int .u64 (uv a.cl)] ∧ Blk wr (w.heap.size + 1) 26 #[.int .u64 (uv b.vh), .int .u64 (uv b.vl), .int .u64 (uv b.ch), .int .u64 (uv b.cl)] ∧ Blk wr (w.heap.size + 1 + 1) 24 #[.int .u64 (uv hh), .int .u64 (uv hl)] ∧ wr.ownsRow w6.heap.size 26 4 (.slice (some ⟨g, 0, none⟩) Q.length cap) Q.length (flat Q) := ⟨⟨L, A.cell 0, A.cell 1, A.cell 2, A.cell 3, B.cell 0, B.cell 1, B.cell 2, B.cell 3, H.cell 0, H.cell 1, own_at O k HC.out 0 (by omega), own_at O k HC.out 1 (by omega), own_at O k HC.out 2 (by omega), own_at O k HC.out 3 (by omega)⟩, A, B, H, O⟩
        go_region_held3 (fun w' => (Below w.heap.size w w' ∧ w'.cell? ⟨w.heap.size, 0, none⟩ = some (.int .u64 (uv a.vh)) ∧ w'.cell? ⟨w.heap.size, 1, none⟩ = some (.int .u64 (uv a.vl)) ∧ w'.cell? ⟨w.heap.size, 2, none⟩ = some (.int .u64 (uv a.ch)) ∧ w'.cell? ⟨w.heap.size, 3, none⟩ = some (.int .u64 (uv a.cl)) ∧ w'.cell? ⟨w.heap.size + 1, 0, none⟩ = some (.int .u64 (uv b.vh)) ∧ w'.cell? ⟨w.heap.size + 1, 1, none⟩ = some (.int .u64 (uv b.vl)) ∧ w'.cell? ⟨w.heap.size + 1, 2, none⟩ = some (.int .u64 (uv b.ch)) ∧ w'.cell? ⟨w.heap.size + 1, 3, none⟩ = some (.int .u64 (uv b.cl)) ∧ w'.cell? ⟨w.heap.size + 1 + 1, 0, none⟩ = some (.int .u64 (uv hh)) ∧ w'.cell? ⟨w.heap.size + 1 + 1, 1, none⟩ = some (.int .u64 (uv hl)) ∧ w'.cell? ⟨g, k * 4, none⟩ = some (.int .u64 (uv c.vh)) ∧ w'.cell? ⟨g, k * 4 + 1, none⟩ = some (.int .u64 (uv c.vl)) ∧ w'.cell? ⟨g, k * 4 + 2, none⟩ = some (.int .u64 (uv c.ch)) ∧ w'.cell? ⟨g, k * 4 + 3, none⟩ = some (.int .u64 (uv c.cl))) ∧ Blk w' (w.heap.size) 26 #[.int .u64 (uv a.vh), .int .u64 (uv a.vl), .int .u64 (uv a.ch), .int .u64 (uv a.cl)] ∧ Blk w' (w.heap.size + 1) 26 #[.int .u64 (uv b.vh), .int .u64 (uv b.vl), .int .u64 (uv b.ch), .int .u64 (uv b.cl)] ∧ Blk w' (w.heap.size + 1 + 1) 24 #[.int .u64 (uv hh), .int .u64 (uv hl)] ∧ w'.ownsRow w6.heap.size 26 4 (.slice (some ⟨g, 0, none⟩) Q.length cap) Q.length (flat Q))
          (first | exact KEEP1 _ _ (by assumption) (by assumption) | exact KEEP1 _ _ (Below.refl _ _).drew S0)
          (first
            | (go_at_call 13; (with_reducible refine (chas _ c hh hl _ HX.out).mono ?_); rintro e wz8 ⟨rfl, hb⟩))
        clear S0 KEEP1 hb
        rename_i hS
        clear A B H O L
        obtain ⟨⟨L, _, _, _, _, _, _, _, _, _, _, _, _, _, _⟩, A, B, H, O⟩ := hS
        have eA := A.four
        have eB := B.four
        have eH := H.pair
        go_upto_region 13 with (fail)
        clear eA eB eH
        have KEEP2 : ∀ u1 u2 : World, Below u1.heap.size u1 u2 → ((Below w.heap.size w u1 ∧ u1.cell? ⟨w.heap.size, 0, none⟩ = some (.int .u64 (uv a.vh)) ∧ u1.cell? ⟨w.heap.size, 1, none⟩ = some (.int .u64 (uv a.vl)) ∧ u1.cell? ⟨w.heap.size, 2, none⟩ = some (.int .u64 (uv a.ch)) ∧ u1.cell? ⟨w.heap.size, 3, none⟩ = some (.int .u64 (uv a.cl)) ∧ u1.cell? ⟨w.heap.size + 1, 0, none⟩ = some (.int .u64 (uv b.vh)) ∧ u1.cell? ⟨w.heap.size + 1, 1, none⟩ = some (.int .u64 (uv b.vl)) ∧ u1.cell? ⟨w.heap.size + 1, 2, none⟩ = some (.int .u64 (uv b.ch)) ∧ u1.cell? ⟨w.heap.size + 1, 3, none⟩ = some (.int .u64 (uv b.cl)) ∧ u1.cell? ⟨w.heap.size + 1 + 1, 0, none⟩ = some (.int .u64 (uv hh)) ∧ u1.cell? ⟨w.heap.size + 1 + 1, 1, none⟩ = some (.int .u64 (uv hl)) ∧ u1.cell? ⟨g, k * 4, none⟩ = some (.int .u64 (uv c.vh)) ∧ u1.cell? ⟨g, k * 4 + 1, none⟩ = some (.int .u64 (uv c.vl)) ∧ u1.cell? ⟨g, k * 4 + 2, none⟩ = some (.int .u64 (uv c.ch)) ∧ u1.cell? ⟨g, k * 4 + 3, none⟩ = some (.int .u64 (uv c.cl))) ∧ Blk u1 (w.heap.size) 26 #[.int .u64 (uv a.vh), .int .u64 (uv a.vl), .int .u64 (uv a.ch), .int .u64 (uv a.cl)] ∧ Blk u1 (w.heap.size + 1) 26 #[.int .u64 (uv b.vh), .int .u64 (uv b.vl), .int .u64 (uv b.ch), .int .u64 (uv b.cl)] ∧ Blk u1 (w.heap.size + 1 + 1) 24 #[.int .u64 (uv hh), .int .u64 (uv hl)] ∧ u1.ownsRow w6.heap.size 26 4 (.slice (some ⟨g, 0, none⟩) Q.length cap) Q.length (flat Q)) → ((Below w.heap.size w u2 ∧ u2.cell? ⟨w.heap.size, 0, none⟩ = some (.int .u64 (uv a.vh)) ∧ u2.cell? ⟨w.heap.size, 1, none⟩ = some (.int .u64 (uv a.vl)) ∧ u2.cell? ⟨w.heap.size, 2, none⟩ = some (.int .u64 (uv a.ch)) ∧ u2.cell? ⟨w.heap.size, 3, none⟩ = some (.int .u64 (uv a.cl)) ∧ u2.cell? ⟨w.heap.size + 1, 0, none⟩ = some (.int .u64 (uv b.vh)) ∧ u2.cell? ⟨w.heap.size + 1, 1, none⟩ = some (.int .u64 (uv b.vl)) ∧ u2.cell? ⟨w.heap.size + 1, 2, none⟩ = some (.int .u64 (uv b.ch)) ∧ u2.cell? ⟨w.heap.size + 1, 3, none⟩ = some (.int .u64 (uv b.cl)) ∧ u2.cell? ⟨w.heap.size + 1 + 1, 0, none⟩ = some (.int .u64 (uv hh)) ∧ u2.cell? ⟨w.heap.size + 1 + 1, 1, none⟩ = some (.int .u64 (uv hl)) ∧ u2.cell? ⟨g, k * 4, none⟩ = some (.int .u64 (uv c.vh)) ∧ u2.cell? ⟨g, k * 4 + 1, none⟩ = some (.int .u64 (uv c.vl)) ∧ u2.cell? ⟨g, k * 4 + 2, none⟩ = some (.int .u64 (uv c.ch)) ∧ u2.cell? ⟨g, k * 4 + 3, none⟩ = some (.int .u64 (uv c.cl))) ∧ Blk u2 (w.heap.size) 26 #[.int .u64 (uv a.vh), .int .u64 (uv a.vl), .int .u64 (uv a.ch), .int .u64 (uv a.cl)] ∧ Blk u2 (w.heap.size + 1) 26 #[.int .u64 (uv b.vh), .int .u64 (uv b.vl), .int .u64 (uv b.ch), .int .u64 (uv b.cl)] ∧ Blk u2 (w.heap.size + 1 + 1) 24 #[.int .u64 (uv hh), .int .u64 (uv hl)] ∧ u2.ownsRow w6.heap.size 26 4 (.slice (some ⟨g, 0, none⟩) Q.length cap) Q.length (flat Q)) := fun _ _ hb h => ⟨hold14 hb h.1, (h.2.1).on hb, (h.2.2.1).on hb, (h.2.2.2.1).on hb, own_on (h.2.2.2.2) hb⟩
        have S0 : (Below w.heap.size w wz8 ∧ wz8.cell? ⟨w.heap.size, 0, none⟩ = some (.int .u64 (uv a.vh)) ∧ wz8.cell? ⟨w.heap.size, 1, none⟩ = some (.int .u64 (uv a.vl)) ∧ wz8.cell? ⟨w.heap.size, 2, none⟩ = some (.int .u64 (uv a.ch)) ∧ wz8.cell? ⟨w.heap.size, 3, none⟩ = some (.int .u64 (uv a.cl)) ∧ wz8.cell? ⟨w.heap.size + 1, 0, none⟩ = some (.int .u64 (uv b.vh)) ∧ wz8.cell? ⟨w.heap.size + 1, 1, none⟩ = some (.int .u64 (uv b.vl)) ∧ wz8.cell? ⟨w.heap.size + 1, 2, none⟩ = some (.int .u64 (uv b.ch)) ∧ wz8.cell? ⟨w.heap.size + 1, 3, none⟩ = some (.int .u64 (uv b.cl)) ∧ wz8.cell? ⟨w.heap.size + 1 + 1, 0, none⟩ = some (.int .u64 (uv hh)) ∧ wz8.cell? ⟨w.heap.size + 1 + 1, 1, none⟩ = some (.int .u64 (uv hl)) ∧ wz8.cell? ⟨g, k * 4, none⟩ = some (.int .u64 (uv c.vh)) ∧ wz8.cell? ⟨g, k * 4 + 1, none⟩ = some (.int .u64 (uv c.vl)) ∧ wz8.cell? ⟨g, k * 4 + 2, none⟩ = some (.int .u64 (uv c.ch)) ∧ wz8.cell? ⟨g, k * 4 + 3, none⟩ = some (.int .u64 (uv c.cl))) ∧ Blk wz8 (w.heap.size) 26 #[.int .u64 (uv a.vh), .int .u64 (uv a.vl), .int .u64 (uv a.ch), .int .u64 (uv a.cl)] ∧ Blk wz8 (w.heap.size + 1) 26 #[.int .u64 (uv b.vh), .int .u64 (uv b.vl), .int .u64 (uv b.ch), .int .u64 (uv b.cl)] ∧ Blk wz8 (w.heap.size + 1 + 1) 24 #[.int .u64 (uv hh), .int .u64 (uv hl)] ∧ wz8.ownsRow w6.heap.size 26 4 (.slice (some ⟨g, 0, none⟩) Q.length cap) Q.length (flat Q) := ⟨⟨L, A.cell 0, A.cell 1, A.cell 2, A.cell 3, B.cell 0, B.cell 1, B.cell 2, B.cell 3, H.cell 0, H.cell 1, own_at O k HC.out 0 (by omega), own_at O k HC.out 1 (by omega), own_at O k HC.out 2 (by omega), own_at O k HC.out 3 (by omega)⟩, A, B, H, O⟩
        go_region_held3 (fun w' => (Below w.heap.size w w' ∧ w'.cell? ⟨w.heap.size, 0, none⟩ = some (.int .u64 (uv a.vh)) ∧ w'.cell? ⟨w.heap.size, 1, none⟩ = some (.int .u64 (uv a.vl)) ∧ w'.cell? ⟨w.heap.size, 2, none⟩ = some (.int .u64 (uv a.ch)) ∧ w'.cell? ⟨w.heap.size, 3, none⟩ = some (.int .u64 (uv a.cl)) ∧ w'.cell? ⟨w.heap.size + 1, 0, none⟩ = some (.int .u64 (uv b.vh)) ∧ w'.cell? ⟨w.heap.size + 1, 1, none⟩ = some (.int .u64 (uv b.vl)) ∧ w'.cell? ⟨w.heap.size + 1, 2, none⟩ = some (.int .u64 (uv b.ch)) ∧ w'.cell? ⟨w.heap.size + 1, 3, none⟩ = some (.int .u64 (uv b.cl)) ∧ w'.cell? ⟨w.heap.size + 1 + 1, 0, none⟩ = some (.int .u64 (uv hh)) ∧ w'.cell? ⟨w.heap.size + 1 + 1, 1, none⟩ = some (.int .u64 (uv hl)) ∧ w'.cell? ⟨g, k * 4, none⟩ = some (.int .u64 (uv c.vh)) ∧ w'.cell? ⟨g, k * 4 + 1, none⟩ = some (.int .u64 (uv c.vl)) ∧ w'.cell? ⟨g, k * 4 + 2, none⟩ = some (.int .u64 (uv c.ch)) ∧ w'.cell? ⟨g, k * 4 + 3, none⟩ = some (.int .u64 (uv c.cl))) ∧ Blk w' (w.heap.size) 26 #[.int .u64 (uv a.vh), .int .u64 (uv a.vl), .int .u64 (uv a.ch), .int .u64 (uv a.cl)] ∧ Blk w' (w.heap.size + 1) 26 #[.int .u64 (uv b.vh), .int .u64 (uv b.vl), .int .u64 (uv b.ch), .int .u64 (uv b.cl)] ∧ Blk w' (w.heap.size + 1 + 1) 24 #[.int .u64 (uv hh), .int .u64 (uv hl)] ∧ w'.ownsRow w6.heap.size 26 4 (.slice (some ⟨g, 0, none⟩) Q.length cap) Q.length (flat Q))
          (first | exact KEEP2 _ _ (by assumption) (by assumption) | exact KEEP2 _ _ (Below.refl _ _).drew S0)
          (first
            | (go_at_call 16; (with_reducible refine (cwithin _ c a _ HW.out).mono ?_); rintro e wz9 ⟨rfl, hb⟩))
        clear S0 KEEP2 hb
        rename_i hS
        clear A B H O L
        obtain ⟨⟨L, _, _, _, _, _, _, _, _, _, _, _, _, _, _⟩, A, B, H, O⟩ := hS
        have eA := A.four
        have eB := B.four
        have eH := H.pair
        go_wp2
        go_roundg (Q.length - (k + 1))
        case measure => omega
        case rel => exact ⟨k + 1, by omega, rfl, by rw [HT.out]; simp only [Bool.toNat_false]; go_num, by go_num, L, A, B, H, O⟩
      · rw [hx] at HT
        have HX := Lib.hid hx
        clear hx
        go_upto_region 11 with (fail)
        clear eA eB eH
        have KEEP3 : ∀ u1 u2 : World, Below u1.heap.size u1 u2 → ((Below w.heap.size w u1 ∧ u1.cell? ⟨w.heap.size, 0, none⟩ = some (.int .u64 (uv a.vh)) ∧ u1.cell? ⟨w.heap.size, 1, none⟩ = some (.int .u64 (uv a.vl)) ∧ u1.cell? ⟨w.heap.size, 2, none⟩ = some (.int .u64 (uv a.ch)) ∧ u1.cell? ⟨w.heap.size, 3, none⟩ = some (.int .u64 (uv a.cl)) ∧ u1.cell? ⟨w.heap.size + 1, 0, none⟩ = some (.int .u64 (uv b.vh)) ∧ u1.cell? ⟨w.heap.size + 1, 1, none⟩ = some (.int .u64 (uv b.vl)) ∧ u1.cell? ⟨w.heap.size + 1, 2, none⟩ = some (.int .u64 (uv b.ch)) ∧ u1.cell? ⟨w.heap.size + 1, 3, none⟩ = some (.int .u64 (uv b.cl)) ∧ u1.cell? ⟨w.heap.size + 1 + 1, 0, none⟩ = some (.int .u64 (uv hh)) ∧ u1.cell? ⟨w.heap.size + 1 + 1, 1, none⟩ = some (.int .u64 (uv hl)) ∧ u1.cell? ⟨g, k * 4, none⟩ = some (.int .u64 (uv c.vh)) ∧ u1.cell? ⟨g, k * 4 + 1, none⟩ = some (.int .u64 (uv c.vl)) ∧ u1.cell? ⟨g, k * 4 + 2, none⟩ = some (.int .u64 (uv c.ch)) ∧ u1.cell? ⟨g, k * 4 + 3, none⟩ = some (.int .u64 (uv c.cl))) ∧ Blk u1 (w.heap.size) 26 #[.int .u64 (uv a.vh), .int .u64 (uv a.vl), .int .u64 (uv a.ch), .int .u64 (uv a.cl)] ∧ Blk u1 (w.heap.size + 1) 26 #[.int .u64 (uv b.vh), .int .u64 (uv b.vl), .int .u64 (uv b.ch), .int .u64 (uv b.cl)] ∧ Blk u1 (w.heap.size + 1 + 1) 24 #[.int .u64 (uv hh), .int .u64 (uv hl)] ∧ u1.ownsRow w6.heap.size 26 4 (.slice (some ⟨g, 0, none⟩) Q.length cap) Q.length (flat Q)) → ((Below w.heap.size w u2 ∧ u2.cell? ⟨w.heap.size, 0, none⟩ = some (.int .u64 (uv a.vh)) ∧ u2.cell? ⟨w.heap.size, 1, none⟩ = some (.int .u64 (uv a.vl)) ∧ u2.cell? ⟨w.heap.size, 2, none⟩ = some (.int .u64 (uv a.ch)) ∧ u2.cell? ⟨w.heap.size, 3, none⟩ = some (.int .u64 (uv a.cl)) ∧ u2.cell? ⟨w.heap.size + 1, 0, none⟩ = some (.int .u64 (uv b.vh)) ∧ u2.cell? ⟨w.heap.size + 1, 1, none⟩ = some (.int .u64 (uv b.vl)) ∧ u2.cell? ⟨w.heap.size + 1, 2, none⟩ = some (.int .u64 (uv b.ch)) ∧ u2.cell? ⟨w.heap.size + 1, 3, none⟩ = some (.int .u64 (uv b.cl)) ∧ u2.cell? ⟨w.heap.size + 1 + 1, 0, none⟩ = some (.int .u64 (uv hh)) ∧ u2.cell? ⟨w.heap.size + 1 + 1, 1, none⟩ = some (.int .u64 (uv hl)) ∧ u2.cell? ⟨g, k * 4, none⟩ = some (.int .u64 (uv c.vh)) ∧ u2.cell? ⟨g, k * 4 + 1, none⟩ = some (.int .u64 (uv c.vl)) ∧ u2.cell? ⟨g, k * 4 + 2, none⟩ = some (.int .u64 (uv c.ch)) ∧ u2.cell? ⟨g, k * 4 + 3, none⟩ = some (.int .u64 (uv c.cl))) ∧ Blk u2 (w.heap.size) 26 #[.int .u64 (uv a.vh), .int .u64 (uv a.vl), .int .u64 (uv a.ch), .int .u64 (uv a.cl)] ∧ Blk u2 (w.heap.size + 1) 26 #[.int .u64 (uv b.vh), .int .u64 (uv b.vl), .int .u64 (uv b.ch), .int .u64 (uv b.cl)] ∧ Blk u2 (w.heap.size + 1 + 1) 24 #[.int .u64 (uv hh), .int .u64 (uv hl)] ∧ u2.ownsRow w6.heap.size 26 4 (.slice (some ⟨g, 0, none⟩) Q.length cap) Q.length (flat Q)) := fun _ _ hb h => ⟨hold14 hb h.1, (h.2.1).on hb, (h.2.2.1).on hb, (h.2.2.2.1).on hb, own_on (h.2.2.2.2) hb⟩
        have S0 : (Below w.heap.size w wr ∧ wr.cell? ⟨w.heap.size, 0, none⟩ = some (.int .u64 (uv a.vh)) ∧ wr.cell? ⟨w.heap.size, 1, none⟩ = some (.int .u64 (uv a.vl)) ∧ wr.cell? ⟨w.heap.size, 2, none⟩ = some (.int .u64 (uv a.ch)) ∧ wr.cell? ⟨w.heap.size, 3, none⟩ = some (.int .u64 (uv a.cl)) ∧ wr.cell? ⟨w.heap.size + 1, 0, none⟩ = some (.int .u64 (uv b.vh)) ∧ wr.cell? ⟨w.heap.size + 1, 1, none⟩ = some (.int .u64 (uv b.vl)) ∧ wr.cell? ⟨w.heap.size + 1, 2, none⟩ = some (.int .u64 (uv b.ch)) ∧ wr.cell? ⟨w.heap.size + 1, 3, none⟩ = some (.int .u64 (uv b.cl)) ∧ wr.cell? ⟨w.heap.size + 1 + 1, 0, none⟩ = some (.int .u64 (uv hh)) ∧ wr.cell? ⟨w.heap.size + 1 + 1, 1, none⟩ = some (.int .u64 (uv hl)) ∧ wr.cell? ⟨g, k * 4, none⟩ = some (.int .u64 (uv c.vh)) ∧ wr.cell? ⟨g, k * 4 + 1, none⟩ = some (.int .u64 (uv c.vl)) ∧ wr.cell? ⟨g, k * 4 + 2, none⟩ = some (.int .u64 (uv c.ch)) ∧ wr.cell? ⟨g, k * 4 + 3, none⟩ = some (.int .u64 (uv c.cl))) ∧ Blk wr (w.heap.size) 26 #[.int .u64 (uv a.vh), .int .u64 (uv a.vl), .int .u64 (uv a.ch), .int .u64 (uv a.cl)] ∧ Blk wr (w.heap.size + 1) 26 #[.int .u64 (uv b.vh), .int .u64 (uv b.vl), .int .u64 (uv b.ch), .int .u64 (uv b.cl)] ∧ Blk wr (w.heap.size + 1 + 1) 24 #[.int .u64 (uv hh), .int .u64 (uv hl)] ∧ wr.ownsRow w6.heap.size 26 4 (.slice (some ⟨g, 0, none⟩) Q.length cap) Q.length (flat Q) := ⟨⟨L, A.cell 0, A.cell 1, A.cell 2, A.cell 3, B.cell 0, B.cell 1, B.cell 2, B.cell 3, H.cell 0, H.cell 1, own_at O k HC.out 0 (by omega), own_at O k HC.out 1 (by omega), own_at O k HC.out 2 (by omega), own_at O k HC.out 3 (by omega)⟩, A, B, H, O⟩
        go_region_held3 (fun w' => (Below w.heap.size w w' ∧ w'.cell? ⟨w.heap.size, 0, none⟩ = some (.int .u64 (uv a.vh)) ∧ w'.cell? ⟨w.heap.size, 1, none⟩ = some (.int .u64 (uv a.vl)) ∧ w'.cell? ⟨w.heap.size, 2, none⟩ = some (.int .u64 (uv a.ch)) ∧ w'.cell? ⟨w.heap.size, 3, none⟩ = some (.int .u64 (uv a.cl)) ∧ w'.cell? ⟨w.heap.size + 1, 0, none⟩ = some (.int .u64 (uv b.vh)) ∧ w'.cell? ⟨w.heap.size + 1, 1, none⟩ = some (.int .u64 (uv b.vl)) ∧ w'.cell? ⟨w.heap.size + 1, 2, none⟩ = some (.int .u64 (uv b.ch)) ∧ w'.cell? ⟨w.heap.size + 1, 3, none⟩ = some (.int .u64 (uv b.cl)) ∧ w'.cell? ⟨w.heap.size + 1 + 1, 0, none⟩ = some (.int .u64 (uv hh)) ∧ w'.cell? ⟨w.heap.size + 1 + 1, 1, none⟩ = some (.int .u64 (uv hl)) ∧ w'.cell? ⟨g, k * 4, none⟩ = some (.int .u64 (uv c.vh)) ∧ w'.cell? ⟨g, k * 4 + 1, none⟩ = some (.int .u64 (uv c.vl)) ∧ w'.cell? ⟨g, k * 4 + 2, none⟩ = some (.int .u64 (uv c.ch)) ∧ w'.cell? ⟨g, k * 4 + 3, none⟩ = some (.int .u64 (uv c.cl))) ∧ Blk w' (w.heap.size) 26 #[.int .u64 (uv a.vh), .int .u64 (uv a.vl), .int .u64 (uv a.ch), .int .u64 (uv a.cl)] ∧ Blk w' (w.heap.size + 1) 26 #[.int .u64 (uv b.vh), .int .u64 (uv b.vl), .int .u64 (uv b.ch), .int .u64 (uv b.cl)] ∧ Blk w' (w.heap.size + 1 + 1) 24 #[.int .u64 (uv hh), .int .u64 (uv hl)] ∧ w'.ownsRow w6.heap.size 26 4 (.slice (some ⟨g, 0, none⟩) Q.length cap) Q.length (flat Q))
          (first | exact KEEP3 _ _ (by assumption) (by assumption) | exact KEEP3 _ _ (Below.refl _ _).drew S0)
          (first
            | (go_at_call 13; (with_reducible refine (chas _ c hh hl _ HX.out).mono ?_); rintro e wz10 ⟨rfl, hb⟩))
        clear S0 KEEP3 hb
        rename_i hS
        clear A B H O L
        obtain ⟨⟨L, _, _, _, _, _, _, _, _, _, _, _, _, _, _⟩, A, B, H, O⟩ := hS
        have eA := A.four
        have eB := B.four
        have eH := H.pair
        go_upto_region 13 with (fail)
        clear eA eB eH
        have KEEP4 : ∀ u1 u2 : World, Below u1.heap.size u1 u2 → ((Below w.heap.size w u1 ∧ u1.cell? ⟨w.heap.size, 0, none⟩ = some (.int .u64 (uv a.vh)) ∧ u1.cell? ⟨w.heap.size, 1, none⟩ = some (.int .u64 (uv a.vl)) ∧ u1.cell? ⟨w.heap.size, 2, none⟩ = some (.int .u64 (uv a.ch)) ∧ u1.cell? ⟨w.heap.size, 3, none⟩ = some (.int .u64 (uv a.cl)) ∧ u1.cell? ⟨w.heap.size + 1, 0, none⟩ = some (.int .u64 (uv b.vh)) ∧ u1.cell? ⟨w.heap.size + 1, 1, none⟩ = some (.int .u64 (uv b.vl)) ∧ u1.cell? ⟨w.heap.size + 1, 2, none⟩ = some (.int .u64 (uv b.ch)) ∧ u1.cell? ⟨w.heap.size + 1, 3, none⟩ = some (.int .u64 (uv b.cl)) ∧ u1.cell? ⟨w.heap.size + 1 + 1, 0, none⟩ = some (.int .u64 (uv hh)) ∧ u1.cell? ⟨w.heap.size + 1 + 1, 1, none⟩ = some (.int .u64 (uv hl)) ∧ u1.cell? ⟨g, k * 4, none⟩ = some (.int .u64 (uv c.vh)) ∧ u1.cell? ⟨g, k * 4 + 1, none⟩ = some (.int .u64 (uv c.vl)) ∧ u1.cell? ⟨g, k * 4 + 2, none⟩ = some (.int .u64 (uv c.ch)) ∧ u1.cell? ⟨g, k * 4 + 3, none⟩ = some (.int .u64 (uv c.cl))) ∧ Blk u1 (w.heap.size) 26 #[.int .u64 (uv a.vh), .int .u64 (uv a.vl), .int .u64 (uv a.ch), .int .u64 (uv a.cl)] ∧ Blk u1 (w.heap.size + 1) 26 #[.int .u64 (uv b.vh), .int .u64 (uv b.vl), .int .u64 (uv b.ch), .int .u64 (uv b.cl)] ∧ Blk u1 (w.heap.size + 1 + 1) 24 #[.int .u64 (uv hh), .int .u64 (uv hl)] ∧ u1.ownsRow w6.heap.size 26 4 (.slice (some ⟨g, 0, none⟩) Q.length cap) Q.length (flat Q)) → ((Below w.heap.size w u2 ∧ u2.cell? ⟨w.heap.size, 0, none⟩ = some (.int .u64 (uv a.vh)) ∧ u2.cell? ⟨w.heap.size, 1, none⟩ = some (.int .u64 (uv a.vl)) ∧ u2.cell? ⟨w.heap.size, 2, none⟩ = some (.int .u64 (uv a.ch)) ∧ u2.cell? ⟨w.heap.size, 3, none⟩ = some (.int .u64 (uv a.cl)) ∧ u2.cell? ⟨w.heap.size + 1, 0, none⟩ = some (.int .u64 (uv b.vh)) ∧ u2.cell? ⟨w.heap.size + 1, 1, none⟩ = some (.int .u64 (uv b.vl)) ∧ u2.cell? ⟨w.heap.size + 1, 2, none⟩ = some (.int .u64 (uv b.ch)) ∧ u2.cell? ⟨w.heap.size + 1, 3, none⟩ = some (.int .u64 (uv b.cl)) ∧ u2.cell? ⟨w.heap.size + 1 + 1, 0, none⟩ = some (.int .u64 (uv hh)) ∧ u2.cell? ⟨w.heap.size + 1 + 1, 1, none⟩ = some (.int .u64 (uv hl)) ∧ u2.cell? ⟨g, k * 4, none⟩ = some (.int .u64 (uv c.vh)) ∧ u2.cell? ⟨g, k * 4 + 1, none⟩ = some (.int .u64 (uv c.vl)) ∧ u2.cell? ⟨g, k * 4 + 2, none⟩ = some (.int .u64 (uv c.ch)) ∧ u2.cell? ⟨g, k * 4 + 3, none⟩ = some (.int .u64 (uv c.cl))) ∧ Blk u2 (w.heap.size) 26 #[.int .u64 (uv a.vh), .int .u64 (uv a.vl), .int .u64 (uv a.ch), .int .u64 (uv a.cl)] ∧ Blk u2 (w.heap.size + 1) 26 #[.int .u64 (uv b.vh), .int .u64 (uv b.vl), .int .u64 (uv b.ch), .int .u64 (uv b.cl)] ∧ Blk u2 (w.heap.size + 1 + 1) 24 #[.int .u64 (uv hh), .int .u64 (uv hl)] ∧ u2.ownsRow w6.heap.size 26 4 (.slice (some ⟨g, 0, none⟩) Q.length cap) Q.length (flat Q)) := fun _ _ hb h => ⟨hold14 hb h.1, (h.2.1).on hb, (h.2.2.1).on hb, (h.2.2.2.1).on hb, own_on (h.2.2.2.2) hb⟩
        have S0 : (Below w.heap.size w wz10 ∧ wz10.cell? ⟨w.heap.size, 0, none⟩ = some (.int .u64 (uv a.vh)) ∧ wz10.cell? ⟨w.heap.size, 1, none⟩ = some (.int .u64 (uv a.vl)) ∧ wz10.cell? ⟨w.heap.size, 2, none⟩ = some (.int .u64 (uv a.ch)) ∧ wz10.cell? ⟨w.heap.size, 3, none⟩ = some (.int .u64 (uv a.cl)) ∧ wz10.cell? ⟨w.heap.size + 1, 0, none⟩ = some (.int .u64 (uv b.vh)) ∧ wz10.cell? ⟨w.heap.size + 1, 1, none⟩ = some (.int .u64 (uv b.vl)) ∧ wz10.cell? ⟨w.heap.size + 1, 2, none⟩ = some (.int .u64 (uv b.ch)) ∧ wz10.cell? ⟨w.heap.size + 1, 3, none⟩ = some (.int .u64 (uv b.cl)) ∧ wz10.cell? ⟨w.heap.size + 1 + 1, 0, none⟩ = some (.int .u64 (uv hh)) ∧ wz10.cell? ⟨w.heap.size + 1 + 1, 1, none⟩ = some (.int .u64 (uv hl)) ∧ wz10.cell? ⟨g, k * 4, none⟩ = some (.int .u64 (uv c.vh)) ∧ wz10.cell? ⟨g, k * 4 + 1, none⟩ = some (.int .u64 (uv c.vl)) ∧ wz10.cell? ⟨g, k * 4 + 2, none⟩ = some (.int .u64 (uv c.ch)) ∧ wz10.cell? ⟨g, k * 4 + 3, none⟩ = some (.int .u64 (uv c.cl))) ∧ Blk wz10 (w.heap.size) 26 #[.int .u64 (uv a.vh), .int .u64 (uv a.vl), .int .u64 (uv a.ch), .int .u64 (uv a.cl)] ∧ Blk wz10 (w.heap.size + 1) 26 #[.int .u64 (uv b.vh), .int .u64 (uv b.vl), .int .u64 (uv b.ch), .int .u64 (uv b.cl)] ∧ Blk wz10 (w.heap.size + 1 + 1) 24 #[.int .u64 (uv hh), .int .u64 (uv hl)] ∧ wz10.ownsRow w6.heap.size 26 4 (.slice (some ⟨g, 0, none⟩) Q.length cap) Q.length (flat Q) := ⟨⟨L, A.cell 0, A.cell 1, A.cell 2, A.cell 3, B.cell 0, B.cell 1, B.cell 2, B.cell 3, H.cell 0, H.cell 1, own_at O k HC.out 0 (by omega), own_at O k HC.out 1 (by omega), own_at O k HC.out 2 (by omega), own_at O k HC.out 3 (by omega)⟩, A, B, H, O⟩
        go_region_held3 (fun w' => (Below w.heap.size w w' ∧ w'.cell? ⟨w.heap.size, 0, none⟩ = some (.int .u64 (uv a.vh)) ∧ w'.cell? ⟨w.heap.size, 1, none⟩ = some (.int .u64 (uv a.vl)) ∧ w'.cell? ⟨w.heap.size, 2, none⟩ = some (.int .u64 (uv a.ch)) ∧ w'.cell? ⟨w.heap.size, 3, none⟩ = some (.int .u64 (uv a.cl)) ∧ w'.cell? ⟨w.heap.size + 1, 0, none⟩ = some (.int .u64 (uv b.vh)) ∧ w'.cell? ⟨w.heap.size + 1, 1, none⟩ = some (.int .u64 (uv b.vl)) ∧ w'.cell? ⟨w.heap.size + 1, 2, none⟩ = some (.int .u64 (uv b.ch)) ∧ w'.cell? ⟨w.heap.size + 1, 3, none⟩ = some (.int .u64 (uv b.cl)) ∧ w'.cell? ⟨w.heap.size + 1 + 1, 0, none⟩ = some (.int .u64 (uv hh)) ∧ w'.cell? ⟨w.heap.size + 1 + 1, 1, none⟩ = some (.int .u64 (uv hl)) ∧ w'.cell? ⟨g, k * 4, none⟩ = some (.int .u64 (uv c.vh)) ∧ w'.cell? ⟨g, k * 4 + 1, none⟩ = some (.int .u64 (uv c.vl)) ∧ w'.cell? ⟨g, k * 4 + 2, none⟩ = some (.int .u64 (uv c.ch)) ∧ w'.cell? ⟨g, k * 4 + 3, none⟩ = some (.int .u64 (uv c.cl))) ∧ Blk w' (w.heap.size) 26 #[.int .u64 (uv a.vh), .int .u64 (uv a.vl), .int .u64 (uv a.ch), .int .u64 (uv a.cl)] ∧ Blk w' (w.heap.size + 1) 26 #[.int .u64 (uv b.vh), .int .u64 (uv b.vl), .int .u64 (uv b.ch), .int .u64 (uv b.cl)] ∧ Blk w' (w.heap.size + 1 + 1) 24 #[.int .u64 (uv hh), .int .u64 (uv hl)] ∧ w'.ownsRow w6.heap.size 26 4 (.slice (some ⟨g, 0, none⟩) Q.length cap) Q.length (flat Q))
          (first | exact KEEP4 _ _ (by assumption) (by assumption) | exact KEEP4 _ _ (Below.refl _ _).drew S0)
          (first
            | (go_at_call 16; (with_reducible refine (cwithin _ c a _ HW.out).mono ?_); rintro e wz11 ⟨rfl, hb⟩))
        clear S0 KEEP4 hb
        rename_i hS
        clear A B H O L
        obtain ⟨⟨L, _, _, _, _, _, _, _, _, _, _, _, _, _, _⟩, A, B, H, O⟩ := hS
        have eA := A.four
        have eB := B.four
        have eH := H.pair
        go_wp2
        go_roundg (Q.length - (k + 1))
        case measure => omega
        case rel => exact ⟨k + 1, by omega, rfl, by rw [HT.out]; simp only [Bool.toNat_true]; go_num, by go_num, L, A, B, H, O⟩
    · obtain rfl : k = Q.length := by omega
      rw [List.take_length]
      have ec : 0 + cntC hh hl Q = (a.has hh hl).toNat := HCNT.out
      have HL := HLEN.out
      clear cb tl
      have eA := A.four
      have eB := B.four
      have eH := H.pair
      cases ha : a.has hh hl
      · rw [ha] at ec
        simp only [Bool.toNat_false] at ec
        rw [ec]
        clear ec
        cases Q with
        | nil =>
          have hw : a.wit b = true := HL.1 rfl
          clear HL HLEN HCNT HWIT HQ
          go_wp2_with fail
          (with_reducible refine (chas _ a hh hl _ ha).mono ?_)
          rintro e w8 ⟨rfl, hb⟩
          clear eA eB eH
          replace A := A.on hb
          replace B := B.on hb
          replace H := H.on hb
          replace L := L.trans (hb.mono L.size)
          clear hb
          have eA := A.four
          have eB := B.four
          have eH := H.pair
          go_wp2_with fail
          (with_reducible refine (cwithin _ a b _ hw).mono ?_)
          rintro e w9 ⟨rfl, hb⟩
          clear eA eB eH
          replace A := A.on hb
          replace B := B.on hb
          replace H := H.on hb
          replace L := L.trans (hb.mono L.size)
          clear hb
          have eA := A.four
          have eB := B.four
          have eH := H.pair
          go_wp2
          go_ret
          exact ⟨rfl, L⟩
        | cons q Q =>
          have hw : a.wit b = false := by cases e : a.wit b with
            | false => rfl
            | true => exact absurd (HL.2 e) (by simp)
          clear HL HLEN HCNT HWIT HQ
          go_wp2_with fail
          (with_reducible refine (chas _ a hh hl _ ha).mono ?_)
          rintro e w8 ⟨rfl, hb⟩
          clear eA eB eH
          replace A := A.on hb
          replace B := B.on hb
          replace H := H.on hb
          replace L := L.trans (hb.mono L.size)
          clear hb
          have eA := A.four
          have eB := B.four
          have eH := H.pair
          go_wp2_with fail
          (with_reducible refine (cwithin _ a b _ hw).mono ?_)
          rintro e w9 ⟨rfl, hb⟩
          clear eA eB eH
          replace A := A.on hb
          replace B := B.on hb
          replace H := H.on hb
          replace L := L.trans (hb.mono L.size)
          clear hb
          have eA := A.four
          have eB := B.four
          have eH := H.pair
          go_wp2
          go_ret
          exact ⟨rfl, L⟩
      · rw [ha] at ec
        simp only [Bool.toNat_true] at ec
        rw [ec]
        clear ec
        cases Q with
        | nil =>
          have hw : a.wit b = true := HL.1 rfl
          clear HL HLEN HCNT HWIT HQ
          go_wp2_with fail
          (with_reducible refine (chas _ a hh hl _ ha).mono ?_)
          rintro e w8 ⟨rfl, hb⟩
          clear eA eB eH
          replace A := A.on hb
          replace B := B.on hb
          replace H := H.on hb
          replace L := L.trans (hb.mono L.size)
          clear hb
          have eA := A.four
          have eB := B.four
          have eH := H.pair
          go_wp2_with fail
          (with_reducible refine (cwithin _ a b _ hw).mono ?_)
          rintro e w9 ⟨rfl, hb⟩
          clear eA eB eH
          replace A := A.on hb
          replace B := B.on hb
          replace H := H.on hb
          replace L := L.trans (hb.mono L.size)
          clear hb
          have eA := A.four
          have eB := B.four
          have eH := H.pair
          go_wp2
          go_ret
          exact ⟨rfl, L⟩
        | cons q Q =>
          have hw : a.wit b = false := by cases e : a.wit b with
            | false => rfl
            | true => exact absurd (HL.2 e) (by simp)
          clear HL HLEN HCNT HWIT HQ
          go_wp2_with fail
          (with_reducible refine (chas _ a hh hl _ ha).mono ?_)
          rintro e w8 ⟨rfl, hb⟩
          clear eA eB eH
          replace A := A.on hb
          replace B := B.on hb
          replace H := H.on hb
          replace L := L.trans (hb.mono L.size)
          clear hb
          have eA := A.four
          have eB := B.four
          have eH := H.pair
          go_wp2_with fail
          (with_reducible refine (cwithin _ a b _ hw).mono ?_)
          rintro e w9 ⟨rfl, hb⟩
          clear eA eB eH
          replace A := A.on hb
          replace B := B.on hb
          replace H := H.on hb
          replace L := L.trans (hb.mono L.size)
          clear hb
          have eA := A.four
          have eB := B.four
          have eH := H.pair
          go_wp2
          go_ret
          exact ⟨rfl, L⟩

set_option maxHeartbeats 4000000 in
theorem parts_1 (a b : Cb) (hh hl : BitVec 64) (w : World) (h1 : a.snd = true) (h2 : b.snd = true) (Q : List Cb) (HQ : Hid (lessC a b = Q)) (HWIT : Hid (∀ c ∈ Q, c.wit a = true)) (hQ : Q.length ≤ 128) (HLEN : Hid (Q.length = 0 ↔ a.wit b = true)) (HCNT : Hid (1 + cntC hh hl Q = (a.has hh hl).toNat)) (hm : a.met b = true) (hj : (a.join b).has hh hl = true) :
    Calls Try.prog 8 #[.agg #[.int .u64 (uv a.vh), .int .u64 (uv a.vl), .int .u64 (uv a.ch), .int .u64 (uv a.cl)], .agg #[.int .u64 (uv b.vh), .int .u64 (uv b.vl), .int .u64 (uv b.ch), .int .u64 (uv b.cl)], .agg #[.int .u64 (uv hh), .int .u64 (uv hl)]] w fun e w' => e = .returned (.bool true) ∧ Below w.heap.size w w' := by
  have bx0 := below1 w (.cells #[.int .u64 (uv a.vh), .int .u64 (uv a.vl), .int .u64 (uv a.ch), .int .u64 (uv a.cl)] 26)
  have Ab0 : Blk (w.alloc (.cells #[.int .u64 (uv a.vh), .int .u64 (uv a.vl), .int .u64 (uv a.ch), .int .u64 (uv a.cl)] 26)) (w.heap.size) 26 #[.int .u64 (uv a.vh), .int .u64 (uv a.vl), .int .u64 (uv a.ch), .int .u64 (uv a.cl)] := Blk.new w _ _
  have L0 : Below w.heap.size w (w.alloc (.cells #[.int .u64 (uv a.vh), .int .u64 (uv a.vl), .int .u64 (uv a.ch), .int .u64 (uv a.cl)] 26)) := bx0
  have bx1 := below1 (w.alloc (.cells #[.int .u64 (uv a.vh), .int .u64 (uv a.vl), .int .u64 (uv a.ch), .int .u64 (uv a.cl)] 26)) (.cells #[.int .u64 (uv b.vh), .int .u64 (uv b.vl), .int .u64 (uv b.ch), .int .u64 (uv b.cl)] 26)
  have Ab1 := Ab0.on bx1
  have Bb1 : Blk ((w.alloc (.cells #[.int .u64 (uv a.vh), .int .u64 (uv a.vl), .int .u64 (uv a.ch), .int .u64 (uv a.cl)] 26)).alloc (.cells #[.int .u64 (uv b.vh), .int .u64 (uv b.vl), .int .u64 (uv b.ch), .int .u64 (uv b.cl)] 26)) (w.heap.size + 1) 26 #[.int .u64 (uv b.vh), .int .u64 (uv b.vl), .int .u64 (uv b.ch), .int .u64 (uv b.cl)] := by have h := Blk.new (w.alloc (.cells #[.int .u64 (uv a.vh), .int .u64 (uv a.vl), .int .u64 (uv a.ch), .int .u64 (uv a.cl)] 26)) 26 #[.int .u64 (uv b.vh), .int .u64 (uv b.vl), .int .u64 (uv b.ch), .int .u64 (uv b.cl)]; simpa only [World.size_alloc] using h
  have L1 : Below w.heap.size w ((w.alloc (.cells #[.int .u64 (uv a.vh), .int .u64 (uv a.vl), .int .u64 (uv a.ch), .int .u64 (uv a.cl)] 26)).alloc (.cells #[.int .u64 (uv b.vh), .int .u64 (uv b.vl), .int .u64 (uv b.ch), .int .u64 (uv b.cl)] 26)) := L0.trans (bx1.mono L0.size)
  have bx2 := below1 ((w.alloc (.cells #[.int .u64 (uv a.vh), .int .u64 (uv a.vl), .int .u64 (uv a.ch), .int .u64 (uv a.cl)] 26)).alloc (.cells #[.int .u64 (uv b.vh), .int .u64 (uv b.vl), .int .u64 (uv b.ch), .int .u64 (uv b.cl)] 26)) (.cells #[.int .u64 (uv hh), .int .u64 (uv hl)] 24)
  have Ab2 := Ab1.on bx2
  have Bb2 := Bb1.on bx2
  have Hb2 : Blk (((w.alloc (.cells #[.int .u64 (uv a.vh), .int .u64 (uv a.vl), .int .u64 (uv a.ch), .int .u64 (uv a.cl)] 26)).alloc (.cells #[.int .u64 (uv b.vh), .int .u64 (uv b.vl), .int .u64 (uv b.ch), .int .u64 (uv b.cl)] 26)).alloc (.cells #[.int .u64 (uv hh), .int .u64 (uv hl)] 24)) (w.heap.size + 1 + 1) 24 #[.int .u64 (uv hh), .int .u64 (uv hl)] := by have h := Blk.new ((w.alloc (.cells #[.int .u64 (uv a.vh), .int .u64 (uv a.vl), .int .u64 (uv a.ch), .int .u64 (uv a.cl)] 26)).alloc (.cells #[.int .u64 (uv b.vh), .int .u64 (uv b.vl), .int .u64 (uv b.ch), .int .u64 (uv b.cl)] 26)) 24 #[.int .u64 (uv hh), .int .u64 (uv hl)]; simpa only [World.size_alloc] using h
  have L2 : Below w.heap.size w (((w.alloc (.cells #[.int .u64 (uv a.vh), .int .u64 (uv a.vl), .int .u64 (uv a.ch), .int .u64 (uv a.cl)] 26)).alloc (.cells #[.int .u64 (uv b.vh), .int .u64 (uv b.vl), .int .u64 (uv b.ch), .int .u64 (uv b.cl)] 26)).alloc (.cells #[.int .u64 (uv hh), .int .u64 (uv hl)] 24)) := L1.trans (bx2.mono L1.size)
  have A := Ab2
  have B := Bb2
  have H := Hb2
  have L := L2
  clear bx0 bx1 bx2 L0 L1 L2 Ab0 Ab1 Ab2 Bb1 Bb2 Hb2
  have eA := A.four
  have eB := B.four
  have eH := H.pair
  go_enter Try.func8, Try.ntmps8
  go_wp2_with fail
  (with_reducible refine (awake2_c _).mono ?_)
  rintro e w1 ⟨rfl, hb⟩
  clear eA eB eH
  replace A := A.on hb
  replace B := B.on hb
  replace H := H.on hb
  replace L := L.trans (hb.mono L.size)
  clear hb
  have eA := A.four
  have eB := B.four
  have eH := H.pair
  go_wp2_with fail
  (with_reducible refine (csound _ a _ h1).mono ?_)
  rintro e w2 ⟨rfl, hb⟩
  clear eA eB eH
  replace A := A.on hb
  replace B := B.on hb
  replace H := H.on hb
  replace L := L.trans (hb.mono L.size)
  clear hb
  have eA := A.four
  have eB := B.four
  have eH := H.pair
  go_wp2_with fail
  (with_reducible refine (csound _ b _ h2).mono ?_)
  rintro e w3 ⟨rfl, hb⟩
  clear eA eB eH
  replace A := A.on hb
  replace B := B.on hb
  replace H := H.on hb
  replace L := L.trans (hb.mono L.size)
  clear hb
  have eA := A.four
  have eB := B.four
  have eH := H.pair
  go_wp2_with fail
  (with_reducible refine (cmeet_t a b _ hm).mono ?_)
  rintro e w4 ⟨rfl, hb⟩
  clear eA eB eH
  replace A := A.on hb
  replace B := B.on hb
  replace H := H.on hb
  replace L := L.trans (hb.mono L.size)
  clear hb
  have eA := A.four
  have eB := B.four
  have eH := H.pair
  go_upto_region 5 with (fail)
  have ltAC : w.heap.size < w4.heap.size := A.lt
  have ltBC : w.heap.size + 1 < w4.heap.size := B.lt
  have ltHC : w.heap.size + 1 + 1 < w4.heap.size := H.lt
  have hb := below1 w4 (.cells #[.int .u64 (uv (a.vh ||| b.vh)), .int .u64 (uv (a.vl ||| b.vl)), .int .u64 (uv (a.ch ||| b.ch)), .int .u64 (uv (a.cl ||| b.cl))] 26)
  clear eA eB eH
  replace A := A.on hb
  replace B := B.on hb
  replace H := H.on hb
  replace L := L.trans (hb.mono L.size)
  have C : Blk (w4.alloc (.cells #[.int .u64 (uv (a.vh ||| b.vh)), .int .u64 (uv (a.vl ||| b.vl)), .int .u64 (uv (a.ch ||| b.ch)), .int .u64 (uv (a.cl ||| b.cl))] 26)) w4.heap.size 26 #[.int .u64 (uv (a.vh ||| b.vh)), .int .u64 (uv (a.vl ||| b.vl)), .int .u64 (uv (a.ch ||| b.ch)), .int .u64 (uv (a.cl ||| b.cl))] := Blk.new w4 _ _
  clear hb
  generalize (w4.alloc (.cells #[.int .u64 (uv (a.vh ||| b.vh)), .int .u64 (uv (a.vl ||| b.vl)), .int .u64 (uv (a.ch ||| b.ch)), .int .u64 (uv (a.cl ||| b.cl))] 26)) = w5 at L A B H C ⊢
  have eA := A.four
  have eB := B.four
  have eH := H.pair
  have eC := C.four
  go_wp2_with fail
  (with_reducible refine (chas_j _ a b hh hl _ hj).mono ?_)
  rintro e w6 ⟨rfl, hb⟩
  clear eA eB eH eC
  replace A := A.on hb
  replace B := B.on hb
  replace H := H.on hb
  replace C := C.on hb
  replace L := L.trans (hb.mono L.size)
  clear hb
  have eA := A.four
  have eB := B.four
  have eH := H.pair
  have eC := C.four
  clear eC
  clear C
  go_wp2_with fail
  (with_reducible refine (cless_q a b Q _ h1 h2 HQ.out).mono ?_)
  rintro e w7 ⟨v, rfl, O, hb⟩
  clear eA eB eH
  replace A := A.on hb
  replace B := B.on hb
  replace H := H.on hb
  replace L := L.trans (hb.mono L.size)
  clear hb
  have eA := A.four
  have eB := B.four
  have eH := H.pair
  obtain ⟨ad, cap, rfl, hA⟩ := own_form O
  replace O := O.mono (Nat.le_refl _)
  clear eA eB eH
  go_wp2_with fail
  go_loopg [7, 11] Q.length (fun gk x i wr => ∃ k : Nat, k ≤ Q.length ∧ gk = Q.length - k ∧ x = .int .i64 ((1 + cntC hh hl (Q.take k) : Nat) : Int) ∧ i = .int .i64 k ∧ Below w.heap.size w wr ∧ Blk wr (w.heap.size) 26 #[.int .u64 (uv a.vh), .int .u64 (uv a.vl), .int .u64 (uv a.ch), .int .u64 (uv a.cl)] ∧ Blk wr (w.heap.size + 1) 26 #[.int .u64 (uv b.vh), .int .u64 (uv b.vl), .int .u64 (uv b.ch), .int .u64 (uv b.cl)] ∧ Blk wr (w.heap.size + 1 + 1) 24 #[.int .u64 (uv hh), .int .u64 (uv hl)] ∧ wr.ownsRow w6.heap.size 26 4 (.slice ad Q.length cap) Q.length (flat Q))
  case atStart => exact ⟨0, Nat.zero_le _, rfl, rfl, rfl, L, A, B, H, O⟩
  case round =>
    clear L A B H O
    obtain ⟨k, hk, rfl, rfl, rfl, L, A, B, H, O⟩ := hrel
    have cb := cntC_le hh hl (Q.take k)
    have tl : (Q.take k).length ≤ k := List.length_take_le _ _
    by_cases hlt : k < Q.length
    · obtain ⟨g, rfl⟩ := hA (by omega)
      obtain ⟨c, hc⟩ : ∃ c, Q[k]? = some c := ⟨_, List.getElem?_eq_getElem hlt⟩
      have hcm : c ∈ Q := List.mem_of_getElem? hc
      have HW := Lib.hid (HWIT.out c hcm)
      have HT := Lib.hid (take_count hh hl Q k c hc)
      have HC := Lib.hid hc
      clear hc hcm
      have eA := A.four
      have eB := B.four
      have eH := H.pair
      cases hx : c.has hh hl
      · rw [hx] at HT
        have HX := Lib.hid hx
        clear hx
        go_upto_region 11 with (fail)
        clear eA eB eH
        have KEEP1 : ∀ u1 u2 : World, Below u1.heap.size u1 u2 → ((Below w.heap.size w u1 ∧ u1.cell? ⟨w.heap.size, 0, none⟩ = some (.int .u64 (uv a.vh)) ∧ u1.cell? ⟨w.heap.size, 1, none⟩ = some (.int .u64 (uv a.vl)) ∧ u1.cell? ⟨w.heap.size, 2, none⟩ = some (.int .u64 (uv a.ch)) ∧ u1.cell? ⟨w.heap.size, 3, none⟩ = some (.int .u64 (uv a.cl)) ∧ u1.cell? ⟨w.heap.size + 1, 0, none⟩ = some (.int .u64 (uv b.vh)) ∧ u1.cell? ⟨w.heap.size + 1, 1, none⟩ = some (.int .u64 (uv b.vl)) ∧ u1.cell? ⟨w.heap.size + 1, 2, none⟩ = some (.int .u64 (uv b.ch)) ∧ u1.cell? ⟨w.heap.size + 1, 3, none⟩ = some (.int .u64 (uv b.cl)) ∧ u1.cell? ⟨w.heap.size + 1 + 1, 0, none⟩ = some (.int .u64 (uv hh)) ∧ u1.cell? ⟨w.heap.size + 1 + 1, 1, none⟩ = some (.int .u64 (uv hl)) ∧ u1.cell? ⟨g, k * 4, none⟩ = some (.int .u64 (uv c.vh)) ∧ u1.cell? ⟨g, k * 4 + 1, none⟩ = some (.int .u64 (uv c.vl)) ∧ u1.cell? ⟨g, k * 4 + 2, none⟩ = some (.int .u64 (uv c.ch)) ∧ u1.cell? ⟨g, k * 4 + 3, none⟩ = some (.int .u64 (uv c.cl))) ∧ Blk u1 (w.heap.size) 26 #[.int .u64 (uv a.vh), .int .u64 (uv a.vl), .int .u64 (uv a.ch), .int .u64 (uv a.cl)] ∧ Blk u1 (w.heap.size + 1) 26 #[.int .u64 (uv b.vh), .int .u64 (uv b.vl), .int .u64 (uv b.ch), .int .u64 (uv b.cl)] ∧ Blk u1 (w.heap.size + 1 + 1) 24 #[.int .u64 (uv hh), .int .u64 (uv hl)] ∧ u1.ownsRow w6.heap.size 26 4 (.slice (some ⟨g, 0, none⟩) Q.length cap) Q.length (flat Q)) → ((Below w.heap.size w u2 ∧ u2.cell? ⟨w.heap.size, 0, none⟩ = some (.int .u64 (uv a.vh)) ∧ u2.cell? ⟨w.heap.size, 1, none⟩ = some (.int .u64 (uv a.vl)) ∧ u2.cell? ⟨w.heap.size, 2, none⟩ = some (.int .u64 (uv a.ch)) ∧ u2.cell? ⟨w.heap.size, 3, none⟩ = some (.int .u64 (uv a.cl)) ∧ u2.cell? ⟨w.heap.size + 1, 0, none⟩ = some (.int .u64 (uv b.vh)) ∧ u2.cell? ⟨w.heap.size + 1, 1, none⟩ = some (.int .u64 (uv b.vl)) ∧ u2.cell? ⟨w.heap.size + 1, 2, none⟩ = some (.int .u64 (uv b.ch)) ∧ u2.cell? ⟨w.heap.size + 1, 3, none⟩ = some (.int .u64 (uv b.cl)) ∧ u2.cell? ⟨w.heap.size + 1 + 1, 0, none⟩ = some (.int .u64 (uv hh)) ∧ u2.cell? ⟨w.heap.size + 1 + 1, 1, none⟩ = some (.int .u64 (uv hl)) ∧ u2.cell? ⟨g, k * 4, none⟩ = some (.int .u64 (uv c.vh)) ∧ u2.cell? ⟨g, k * 4 + 1, none⟩ = some (.int .u64 (uv c.vl)) ∧ u2.cell? ⟨g, k * 4 + 2, none⟩ = some (.int .u64 (uv c.ch)) ∧ u2.cell? ⟨g, k * 4 + 3, none⟩ = some (.int .u64 (uv c.cl))) ∧ Blk u2 (w.heap.size) 26 #[.int .u64 (uv a.vh), .int .u64 (uv a.vl), .int .u64 (uv a.ch), .int .u64 (uv a.cl)] ∧ Blk u2 (w.heap.size + 1) 26 #[.int .u64 (uv b.vh), .int .u64 (uv b.vl), .int .u64 (uv b.ch), .int .u64 (uv b.cl)] ∧ Blk u2 (w.heap.size + 1 + 1) 24 #[.int .u64 (uv hh), .int .u64 (uv hl)] ∧ u2.ownsRow w6.heap.size 26 4 (.slice (some ⟨g, 0, none⟩) Q.length cap) Q.length (flat Q)) := fun _ _ hb h => ⟨hold14 hb h.1, (h.2.1).on hb, (h.2.2.1).on hb, (h.2.2.2.1).on hb, own_on (h.2.2.2.2) hb⟩
        have S0 : (Below w.heap.size w wr ∧ wr.cell? ⟨w.heap.size, 0, none⟩ = some (.int .u64 (uv a.vh)) ∧ wr.cell? ⟨w.heap.size, 1, none⟩ = some (.int .u64 (uv a.vl)) ∧ wr.cell? ⟨w.heap.size, 2, none⟩ = some (.int .u64 (uv a.ch)) ∧ wr.cell? ⟨w.heap.size, 3, none⟩ = some (.int .u64 (uv a.cl)) ∧ wr.cell? ⟨w.heap.size + 1, 0, none⟩ = some (.int .u64 (uv b.vh)) ∧ wr.cell? ⟨w.heap.size + 1, 1, none⟩ = some (.int .u64 (uv b.vl)) ∧ wr.cell? ⟨w.heap.size + 1, 2, none⟩ = some (.int .u64 (uv b.ch)) ∧ wr.cell? ⟨w.heap.size + 1, 3, none⟩ = some (.int .u64 (uv b.cl)) ∧ wr.cell? ⟨w.heap.size + 1 + 1, 0, none⟩ = some (.int .u64 (uv hh)) ∧ wr.cell? ⟨w.heap.size + 1 + 1, 1, none⟩ = some (.int .u64 (uv hl)) ∧ wr.cell? ⟨g, k * 4, none⟩ = some (.int .u64 (uv c.vh)) ∧ wr.cell? ⟨g, k * 4 + 1, none⟩ = some (.int .u64 (uv c.vl)) ∧ wr.cell? ⟨g, k * 4 + 2, none⟩ = some (.int .u64 (uv c.ch)) ∧ wr.cell? ⟨g, k * 4 + 3, none⟩ = some (.int .u64 (uv c.cl))) ∧ Blk wr (w.heap.size) 26 #[.int .u64 (uv a.vh), .int .u64 (uv a.vl), .int .u64 (uv a.ch), .int .u64 (uv a.cl)] ∧ Blk wr (w.heap.size + 1) 26 #[.int .u64 (uv b.vh), .int .u64 (uv b.vl), .int .u64 (uv b.ch), .int .u64 (uv b.cl)] ∧ Blk wr (w.heap.size + 1 + 1) 24 #[.int .u64 (uv hh), .int .u64 (uv hl)] ∧ wr.ownsRow w6.heap.size 26 4 (.slice (some ⟨g, 0, none⟩) Q.length cap) Q.length (flat Q) := ⟨⟨L, A.cell 0, A.cell 1, A.cell 2, A.cell 3, B.cell 0, B.cell 1, B.cell 2, B.cell 3, H.cell 0, H.cell 1, own_at O k HC.out 0 (by omega), own_at O k HC.out 1 (by omega), own_at O k HC.out 2 (by omega), own_at O k HC.out 3 (by omega)⟩, A, B, H, O⟩
        go_region_held3 (fun w' => (Below w.heap.size w w' ∧ w'.cell? ⟨w.heap.size, 0, none⟩ = some (.int .u64 (uv a.vh)) ∧ w'.cell? ⟨w.heap.size, 1, none⟩ = some (.int .u64 (uv a.vl)) ∧ w'.cell? ⟨w.heap.size, 2, none⟩ = some (.int .u64 (uv a.ch)) ∧ w'.cell? ⟨w.heap.size, 3, none⟩ = some (.int .u64 (uv a.cl)) ∧ w'.cell? ⟨w.heap.size + 1, 0, none⟩ = some (.int .u64 (uv b.vh)) ∧ w'.cell? ⟨w.heap.size + 1, 1, none⟩ = some (.int .u64 (uv b.vl)) ∧ w'.cell? ⟨w.heap.size + 1, 2, none⟩ = some (.int .u64 (uv b.ch)) ∧ w'.cell? ⟨w.heap.size + 1, 3, none⟩ = some (.int .u64 (uv b.cl)) ∧ w'.cell? ⟨w.heap.size + 1 + 1, 0, none⟩ = some (.int .u64 (uv hh)) ∧ w'.cell? ⟨w.heap.size + 1 + 1, 1, none⟩ = some (.int .u64 (uv hl)) ∧ w'.cell? ⟨g, k * 4, none⟩ = some (.int .u64 (uv c.vh)) ∧ w'.cell? ⟨g, k * 4 + 1, none⟩ = some (.int .u64 (uv c.vl)) ∧ w'.cell? ⟨g, k * 4 + 2, none⟩ = some (.int .u64 (uv c.ch)) ∧ w'.cell? ⟨g, k * 4 + 3, none⟩ = some (.int .u64 (uv c.cl))) ∧ Blk w' (w.heap.size) 26 #[.int .u64 (uv a.vh), .int .u64 (uv a.vl), .int .u64 (uv a.ch), .int .u64 (uv a.cl)] ∧ Blk w' (w.heap.size + 1) 26 #[.int .u64 (uv b.vh), .int .u64 (uv b.vl), .int .u64 (uv b.ch), .int .u64 (uv b.cl)] ∧ Blk w' (w.heap.size + 1 + 1) 24 #[.int .u64 (uv hh), .int .u64 (uv hl)] ∧ w'.ownsRow w6.heap.size 26 4 (.slice (some ⟨g, 0, none⟩) Q.length cap) Q.length (flat Q))
          (first | exact KEEP1 _ _ (by assumption) (by assumption) | exact KEEP1 _ _ (Below.refl _ _).drew S0)
          (first
            | (go_at_call 13; (with_reducible refine (chas _ c hh hl _ HX.out).mono ?_); rintro e wz8 ⟨rfl, hb⟩))
        clear S0 KEEP1 hb
        rename_i hS
        clear A B H O L
        obtain ⟨⟨L, _, _, _, _, _, _, _, _, _, _, _, _, _, _⟩, A, B, H, O⟩ := hS
        have eA := A.four
        have eB := B.four
        have eH := H.pair
        go_upto_region 13 with (fail)
        clear eA eB eH
        have KEEP2 : ∀ u1 u2 : World, Below u1.heap.size u1 u2 → ((Below w.heap.size w u1 ∧ u1.cell? ⟨w.heap.size, 0, none⟩ = some (.int .u64 (uv a.vh)) ∧ u1.cell? ⟨w.heap.size, 1, none⟩ = some (.int .u64 (uv a.vl)) ∧ u1.cell? ⟨w.heap.size, 2, none⟩ = some (.int .u64 (uv a.ch)) ∧ u1.cell? ⟨w.heap.size, 3, none⟩ = some (.int .u64 (uv a.cl)) ∧ u1.cell? ⟨w.heap.size + 1, 0, none⟩ = some (.int .u64 (uv b.vh)) ∧ u1.cell? ⟨w.heap.size + 1, 1, none⟩ = some (.int .u64 (uv b.vl)) ∧ u1.cell? ⟨w.heap.size + 1, 2, none⟩ = some (.int .u64 (uv b.ch)) ∧ u1.cell? ⟨w.heap.size + 1, 3, none⟩ = some (.int .u64 (uv b.cl)) ∧ u1.cell? ⟨w.heap.size + 1 + 1, 0, none⟩ = some (.int .u64 (uv hh)) ∧ u1.cell? ⟨w.heap.size + 1 + 1, 1, none⟩ = some (.int .u64 (uv hl)) ∧ u1.cell? ⟨g, k * 4, none⟩ = some (.int .u64 (uv c.vh)) ∧ u1.cell? ⟨g, k * 4 + 1, none⟩ = some (.int .u64 (uv c.vl)) ∧ u1.cell? ⟨g, k * 4 + 2, none⟩ = some (.int .u64 (uv c.ch)) ∧ u1.cell? ⟨g, k * 4 + 3, none⟩ = some (.int .u64 (uv c.cl))) ∧ Blk u1 (w.heap.size) 26 #[.int .u64 (uv a.vh), .int .u64 (uv a.vl), .int .u64 (uv a.ch), .int .u64 (uv a.cl)] ∧ Blk u1 (w.heap.size + 1) 26 #[.int .u64 (uv b.vh), .int .u64 (uv b.vl), .int .u64 (uv b.ch), .int .u64 (uv b.cl)] ∧ Blk u1 (w.heap.size + 1 + 1) 24 #[.int .u64 (uv hh), .int .u64 (uv hl)] ∧ u1.ownsRow w6.heap.size 26 4 (.slice (some ⟨g, 0, none⟩) Q.length cap) Q.length (flat Q)) → ((Below w.heap.size w u2 ∧ u2.cell? ⟨w.heap.size, 0, none⟩ = some (.int .u64 (uv a.vh)) ∧ u2.cell? ⟨w.heap.size, 1, none⟩ = some (.int .u64 (uv a.vl)) ∧ u2.cell? ⟨w.heap.size, 2, none⟩ = some (.int .u64 (uv a.ch)) ∧ u2.cell? ⟨w.heap.size, 3, none⟩ = some (.int .u64 (uv a.cl)) ∧ u2.cell? ⟨w.heap.size + 1, 0, none⟩ = some (.int .u64 (uv b.vh)) ∧ u2.cell? ⟨w.heap.size + 1, 1, none⟩ = some (.int .u64 (uv b.vl)) ∧ u2.cell? ⟨w.heap.size + 1, 2, none⟩ = some (.int .u64 (uv b.ch)) ∧ u2.cell? ⟨w.heap.size + 1, 3, none⟩ = some (.int .u64 (uv b.cl)) ∧ u2.cell? ⟨w.heap.size + 1 + 1, 0, none⟩ = some (.int .u64 (uv hh)) ∧ u2.cell? ⟨w.heap.size + 1 + 1, 1, none⟩ = some (.int .u64 (uv hl)) ∧ u2.cell? ⟨g, k * 4, none⟩ = some (.int .u64 (uv c.vh)) ∧ u2.cell? ⟨g, k * 4 + 1, none⟩ = some (.int .u64 (uv c.vl)) ∧ u2.cell? ⟨g, k * 4 + 2, none⟩ = some (.int .u64 (uv c.ch)) ∧ u2.cell? ⟨g, k * 4 + 3, none⟩ = some (.int .u64 (uv c.cl))) ∧ Blk u2 (w.heap.size) 26 #[.int .u64 (uv a.vh), .int .u64 (uv a.vl), .int .u64 (uv a.ch), .int .u64 (uv a.cl)] ∧ Blk u2 (w.heap.size + 1) 26 #[.int .u64 (uv b.vh), .int .u64 (uv b.vl), .int .u64 (uv b.ch), .int .u64 (uv b.cl)] ∧ Blk u2 (w.heap.size + 1 + 1) 24 #[.int .u64 (uv hh), .int .u64 (uv hl)] ∧ u2.ownsRow w6.heap.size 26 4 (.slice (some ⟨g, 0, none⟩) Q.length cap) Q.length (flat Q)) := fun _ _ hb h => ⟨hold14 hb h.1, (h.2.1).on hb, (h.2.2.1).on hb, (h.2.2.2.1).on hb, own_on (h.2.2.2.2) hb⟩
        have S0 : (Below w.heap.size w wz8 ∧ wz8.cell? ⟨w.heap.size, 0, none⟩ = some (.int .u64 (uv a.vh)) ∧ wz8.cell? ⟨w.heap.size, 1, none⟩ = some (.int .u64 (uv a.vl)) ∧ wz8.cell? ⟨w.heap.size, 2, none⟩ = some (.int .u64 (uv a.ch)) ∧ wz8.cell? ⟨w.heap.size, 3, none⟩ = some (.int .u64 (uv a.cl)) ∧ wz8.cell? ⟨w.heap.size + 1, 0, none⟩ = some (.int .u64 (uv b.vh)) ∧ wz8.cell? ⟨w.heap.size + 1, 1, none⟩ = some (.int .u64 (uv b.vl)) ∧ wz8.cell? ⟨w.heap.size + 1, 2, none⟩ = some (.int .u64 (uv b.ch)) ∧ wz8.cell? ⟨w.heap.size + 1, 3, none⟩ = some (.int .u64 (uv b.cl)) ∧ wz8.cell? ⟨w.heap.size + 1 + 1, 0, none⟩ = some (.int .u64 (uv hh)) ∧ wz8.cell? ⟨w.heap.size + 1 + 1, 1, none⟩ = some (.int .u64 (uv hl)) ∧ wz8.cell? ⟨g, k * 4, none⟩ = some (.int .u64 (uv c.vh)) ∧ wz8.cell? ⟨g, k * 4 + 1, none⟩ = some (.int .u64 (uv c.vl)) ∧ wz8.cell? ⟨g, k * 4 + 2, none⟩ = some (.int .u64 (uv c.ch)) ∧ wz8.cell? ⟨g, k * 4 + 3, none⟩ = some (.int .u64 (uv c.cl))) ∧ Blk wz8 (w.heap.size) 26 #[.int .u64 (uv a.vh), .int .u64 (uv a.vl), .int .u64 (uv a.ch), .int .u64 (uv a.cl)] ∧ Blk wz8 (w.heap.size + 1) 26 #[.int .u64 (uv b.vh), .int .u64 (uv b.vl), .int .u64 (uv b.ch), .int .u64 (uv b.cl)] ∧ Blk wz8 (w.heap.size + 1 + 1) 24 #[.int .u64 (uv hh), .int .u64 (uv hl)] ∧ wz8.ownsRow w6.heap.size 26 4 (.slice (some ⟨g, 0, none⟩) Q.length cap) Q.length (flat Q) := ⟨⟨L, A.cell 0, A.cell 1, A.cell 2, A.cell 3, B.cell 0, B.cell 1, B.cell 2, B.cell 3, H.cell 0, H.cell 1, own_at O k HC.out 0 (by omega), own_at O k HC.out 1 (by omega), own_at O k HC.out 2 (by omega), own_at O k HC.out 3 (by omega)⟩, A, B, H, O⟩
        go_region_held3 (fun w' => (Below w.heap.size w w' ∧ w'.cell? ⟨w.heap.size, 0, none⟩ = some (.int .u64 (uv a.vh)) ∧ w'.cell? ⟨w.heap.size, 1, none⟩ = some (.int .u64 (uv a.vl)) ∧ w'.cell? ⟨w.heap.size, 2, none⟩ = some (.int .u64 (uv a.ch)) ∧ w'.cell? ⟨w.heap.size, 3, none⟩ = some (.int .u64 (uv a.cl)) ∧ w'.cell? ⟨w.heap.size + 1, 0, none⟩ = some (.int .u64 (uv b.vh)) ∧ w'.cell? ⟨w.heap.size + 1, 1, none⟩ = some (.int .u64 (uv b.vl)) ∧ w'.cell? ⟨w.heap.size + 1, 2, none⟩ = some (.int .u64 (uv b.ch)) ∧ w'.cell? ⟨w.heap.size + 1, 3, none⟩ = some (.int .u64 (uv b.cl)) ∧ w'.cell? ⟨w.heap.size + 1 + 1, 0, none⟩ = some (.int .u64 (uv hh)) ∧ w'.cell? ⟨w.heap.size + 1 + 1, 1, none⟩ = some (.int .u64 (uv hl)) ∧ w'.cell? ⟨g, k * 4, none⟩ = some (.int .u64 (uv c.vh)) ∧ w'.cell? ⟨g, k * 4 + 1, none⟩ = some (.int .u64 (uv c.vl)) ∧ w'.cell? ⟨g, k * 4 + 2, none⟩ = some (.int .u64 (uv c.ch)) ∧ w'.cell? ⟨g, k * 4 + 3, none⟩ = some (.int .u64 (uv c.cl))) ∧ Blk w' (w.heap.size) 26 #[.int .u64 (uv a.vh), .int .u64 (uv a.vl), .int .u64 (uv a.ch), .int .u64 (uv a.cl)] ∧ Blk w' (w.heap.size + 1) 26 #[.int .u64 (uv b.vh), .int .u64 (uv b.vl), .int .u64 (uv b.ch), .int .u64 (uv b.cl)] ∧ Blk w' (w.heap.size + 1 + 1) 24 #[.int .u64 (uv hh), .int .u64 (uv hl)] ∧ w'.ownsRow w6.heap.size 26 4 (.slice (some ⟨g, 0, none⟩) Q.length cap) Q.length (flat Q))
          (first | exact KEEP2 _ _ (by assumption) (by assumption) | exact KEEP2 _ _ (Below.refl _ _).drew S0)
          (first
            | (go_at_call 16; (with_reducible refine (cwithin _ c a _ HW.out).mono ?_); rintro e wz9 ⟨rfl, hb⟩))
        clear S0 KEEP2 hb
        rename_i hS
        clear A B H O L
        obtain ⟨⟨L, _, _, _, _, _, _, _, _, _, _, _, _, _, _⟩, A, B, H, O⟩ := hS
        have eA := A.four
        have eB := B.four
        have eH := H.pair
        go_wp2
        go_roundg (Q.length - (k + 1))
        case measure => omega
        case rel => exact ⟨k + 1, by omega, rfl, by rw [HT.out]; simp only [Bool.toNat_false]; go_num, by go_num, L, A, B, H, O⟩
      · rw [hx] at HT
        have HX := Lib.hid hx
        clear hx
        go_upto_region 11 with (fail)
        clear eA eB eH
        have KEEP3 : ∀ u1 u2 : World, Below u1.heap.size u1 u2 → ((Below w.heap.size w u1 ∧ u1.cell? ⟨w.heap.size, 0, none⟩ = some (.int .u64 (uv a.vh)) ∧ u1.cell? ⟨w.heap.size, 1, none⟩ = some (.int .u64 (uv a.vl)) ∧ u1.cell? ⟨w.heap.size, 2, none⟩ = some (.int .u64 (uv a.ch)) ∧ u1.cell? ⟨w.heap.size, 3, none⟩ = some (.int .u64 (uv a.cl)) ∧ u1.cell? ⟨w.heap.size + 1, 0, none⟩ = some (.int .u64 (uv b.vh)) ∧ u1.cell? ⟨w.heap.size + 1, 1, none⟩ = some (.int .u64 (uv b.vl)) ∧ u1.cell? ⟨w.heap.size + 1, 2, none⟩ = some (.int .u64 (uv b.ch)) ∧ u1.cell? ⟨w.heap.size + 1, 3, none⟩ = some (.int .u64 (uv b.cl)) ∧ u1.cell? ⟨w.heap.size + 1 + 1, 0, none⟩ = some (.int .u64 (uv hh)) ∧ u1.cell? ⟨w.heap.size + 1 + 1, 1, none⟩ = some (.int .u64 (uv hl)) ∧ u1.cell? ⟨g, k * 4, none⟩ = some (.int .u64 (uv c.vh)) ∧ u1.cell? ⟨g, k * 4 + 1, none⟩ = some (.int .u64 (uv c.vl)) ∧ u1.cell? ⟨g, k * 4 + 2, none⟩ = some (.int .u64 (uv c.ch)) ∧ u1.cell? ⟨g, k * 4 + 3, none⟩ = some (.int .u64 (uv c.cl))) ∧ Blk u1 (w.heap.size) 26 #[.int .u64 (uv a.vh), .int .u64 (uv a.vl), .int .u64 (uv a.ch), .int .u64 (uv a.cl)] ∧ Blk u1 (w.heap.size + 1) 26 #[.int .u64 (uv b.vh), .int .u64 (uv b.vl), .int .u64 (uv b.ch), .int .u64 (uv b.cl)] ∧ Blk u1 (w.heap.size + 1 + 1) 24 #[.int .u64 (uv hh), .int .u64 (uv hl)] ∧ u1.ownsRow w6.heap.size 26 4 (.slice (some ⟨g, 0, none⟩) Q.length cap) Q.length (flat Q)) → ((Below w.heap.size w u2 ∧ u2.cell? ⟨w.heap.size, 0, none⟩ = some (.int .u64 (uv a.vh)) ∧ u2.cell? ⟨w.heap.size, 1, none⟩ = some (.int .u64 (uv a.vl)) ∧ u2.cell? ⟨w.heap.size, 2, none⟩ = some (.int .u64 (uv a.ch)) ∧ u2.cell? ⟨w.heap.size, 3, none⟩ = some (.int .u64 (uv a.cl)) ∧ u2.cell? ⟨w.heap.size + 1, 0, none⟩ = some (.int .u64 (uv b.vh)) ∧ u2.cell? ⟨w.heap.size + 1, 1, none⟩ = some (.int .u64 (uv b.vl)) ∧ u2.cell? ⟨w.heap.size + 1, 2, none⟩ = some (.int .u64 (uv b.ch)) ∧ u2.cell? ⟨w.heap.size + 1, 3, none⟩ = some (.int .u64 (uv b.cl)) ∧ u2.cell? ⟨w.heap.size + 1 + 1, 0, none⟩ = some (.int .u64 (uv hh)) ∧ u2.cell? ⟨w.heap.size + 1 + 1, 1, none⟩ = some (.int .u64 (uv hl)) ∧ u2.cell? ⟨g, k * 4, none⟩ = some (.int .u64 (uv c.vh)) ∧ u2.cell? ⟨g, k * 4 + 1, none⟩ = some (.int .u64 (uv c.vl)) ∧ u2.cell? ⟨g, k * 4 + 2, none⟩ = some (.int .u64 (uv c.ch)) ∧ u2.cell? ⟨g, k * 4 + 3, none⟩ = some (.int .u64 (uv c.cl))) ∧ Blk u2 (w.heap.size) 26 #[.int .u64 (uv a.vh), .int .u64 (uv a.vl), .int .u64 (uv a.ch), .int .u64 (uv a.cl)] ∧ Blk u2 (w.heap.size + 1) 26 #[.int .u64 (uv b.vh), .int .u64 (uv b.vl), .int .u64 (uv b.ch), .int .u64 (uv b.cl)] ∧ Blk u2 (w.heap.size + 1 + 1) 24 #[.int .u64 (uv hh), .int .u64 (uv hl)] ∧ u2.ownsRow w6.heap.size 26 4 (.slice (some ⟨g, 0, none⟩) Q.length cap) Q.length (flat Q)) := fun _ _ hb h => ⟨hold14 hb h.1, (h.2.1).on hb, (h.2.2.1).on hb, (h.2.2.2.1).on hb, own_on (h.2.2.2.2) hb⟩
        have S0 : (Below w.heap.size w wr ∧ wr.cell? ⟨w.heap.size, 0, none⟩ = some (.int .u64 (uv a.vh)) ∧ wr.cell? ⟨w.heap.size, 1, none⟩ = some (.int .u64 (uv a.vl)) ∧ wr.cell? ⟨w.heap.size, 2, none⟩ = some (.int .u64 (uv a.ch)) ∧ wr.cell? ⟨w.heap.size, 3, none⟩ = some (.int .u64 (uv a.cl)) ∧ wr.cell? ⟨w.heap.size + 1, 0, none⟩ = some (.int .u64 (uv b.vh)) ∧ wr.cell? ⟨w.heap.size + 1, 1, none⟩ = some (.int .u64 (uv b.vl)) ∧ wr.cell? ⟨w.heap.size + 1, 2, none⟩ = some (.int .u64 (uv b.ch)) ∧ wr.cell? ⟨w.heap.size + 1, 3, none⟩ = some (.int .u64 (uv b.cl)) ∧ wr.cell? ⟨w.heap.size + 1 + 1, 0, none⟩ = some (.int .u64 (uv hh)) ∧ wr.cell? ⟨w.heap.size + 1 + 1, 1, none⟩ = some (.int .u64 (uv hl)) ∧ wr.cell? ⟨g, k * 4, none⟩ = some (.int .u64 (uv c.vh)) ∧ wr.cell? ⟨g, k * 4 + 1, none⟩ = some (.int .u64 (uv c.vl)) ∧ wr.cell? ⟨g, k * 4 + 2, none⟩ = some (.int .u64 (uv c.ch)) ∧ wr.cell? ⟨g, k * 4 + 3, none⟩ = some (.int .u64 (uv c.cl))) ∧ Blk wr (w.heap.size) 26 #[.int .u64 (uv a.vh), .int .u64 (uv a.vl), .int .u64 (uv a.ch), .int .u64 (uv a.cl)] ∧ Blk wr (w.heap.size + 1) 26 #[.int .u64 (uv b.vh), .int .u64 (uv b.vl), .int .u64 (uv b.ch), .int .u64 (uv b.cl)] ∧ Blk wr (w.heap.size + 1 + 1) 24 #[.int .u64 (uv hh), .int .u64 (uv hl)] ∧ wr.ownsRow w6.heap.size 26 4 (.slice (some ⟨g, 0, none⟩) Q.length cap) Q.length (flat Q) := ⟨⟨L, A.cell 0, A.cell 1, A.cell 2, A.cell 3, B.cell 0, B.cell 1, B.cell 2, B.cell 3, H.cell 0, H.cell 1, own_at O k HC.out 0 (by omega), own_at O k HC.out 1 (by omega), own_at O k HC.out 2 (by omega), own_at O k HC.out 3 (by omega)⟩, A, B, H, O⟩
        go_region_held3 (fun w' => (Below w.heap.size w w' ∧ w'.cell? ⟨w.heap.size, 0, none⟩ = some (.int .u64 (uv a.vh)) ∧ w'.cell? ⟨w.heap.size, 1, none⟩ = some (.int .u64 (uv a.vl)) ∧ w'.cell? ⟨w.heap.size, 2, none⟩ = some (.int .u64 (uv a.ch)) ∧ w'.cell? ⟨w.heap.size, 3, none⟩ = some (.int .u64 (uv a.cl)) ∧ w'.cell? ⟨w.heap.size + 1, 0, none⟩ = some (.int .u64 (uv b.vh)) ∧ w'.cell? ⟨w.heap.size + 1, 1, none⟩ = some (.int .u64 (uv b.vl)) ∧ w'.cell? ⟨w.heap.size + 1, 2, none⟩ = some (.int .u64 (uv b.ch)) ∧ w'.cell? ⟨w.heap.size + 1, 3, none⟩ = some (.int .u64 (uv b.cl)) ∧ w'.cell? ⟨w.heap.size + 1 + 1, 0, none⟩ = some (.int .u64 (uv hh)) ∧ w'.cell? ⟨w.heap.size + 1 + 1, 1, none⟩ = some (.int .u64 (uv hl)) ∧ w'.cell? ⟨g, k * 4, none⟩ = some (.int .u64 (uv c.vh)) ∧ w'.cell? ⟨g, k * 4 + 1, none⟩ = some (.int .u64 (uv c.vl)) ∧ w'.cell? ⟨g, k * 4 + 2, none⟩ = some (.int .u64 (uv c.ch)) ∧ w'.cell? ⟨g, k * 4 + 3, none⟩ = some (.int .u64 (uv c.cl))) ∧ Blk w' (w.heap.size) 26 #[.int .u64 (uv a.vh), .int .u64 (uv a.vl), .int .u64 (uv a.ch), .int .u64 (uv a.cl)] ∧ Blk w' (w.heap.size + 1) 26 #[.int .u64 (uv b.vh), .int .u64 (uv b.vl), .int .u64 (uv b.ch), .int .u64 (uv b.cl)] ∧ Blk w' (w.heap.size + 1 + 1) 24 #[.int .u64 (uv hh), .int .u64 (uv hl)] ∧ w'.ownsRow w6.heap.size 26 4 (.slice (some ⟨g, 0, none⟩) Q.length cap) Q.length (flat Q))
          (first | exact KEEP3 _ _ (by assumption) (by assumption) | exact KEEP3 _ _ (Below.refl _ _).drew S0)
          (first
            | (go_at_call 13; (with_reducible refine (chas _ c hh hl _ HX.out).mono ?_); rintro e wz10 ⟨rfl, hb⟩))
        clear S0 KEEP3 hb
        rename_i hS
        clear A B H O L
        obtain ⟨⟨L, _, _, _, _, _, _, _, _, _, _, _, _, _, _⟩, A, B, H, O⟩ := hS
        have eA := A.four
        have eB := B.four
        have eH := H.pair
        go_upto_region 13 with (fail)
        clear eA eB eH
        have KEEP4 : ∀ u1 u2 : World, Below u1.heap.size u1 u2 → ((Below w.heap.size w u1 ∧ u1.cell? ⟨w.heap.size, 0, none⟩ = some (.int .u64 (uv a.vh)) ∧ u1.cell? ⟨w.heap.size, 1, none⟩ = some (.int .u64 (uv a.vl)) ∧ u1.cell? ⟨w.heap.size, 2, none⟩ = some (.int .u64 (uv a.ch)) ∧ u1.cell? ⟨w.heap.size, 3, none⟩ = some (.int .u64 (uv a.cl)) ∧ u1.cell? ⟨w.heap.size + 1, 0, none⟩ = some (.int .u64 (uv b.vh)) ∧ u1.cell? ⟨w.heap.size + 1, 1, none⟩ = some (.int .u64 (uv b.vl)) ∧ u1.cell? ⟨w.heap.size + 1, 2, none⟩ = some (.int .u64 (uv b.ch)) ∧ u1.cell? ⟨w.heap.size + 1, 3, none⟩ = some (.int .u64 (uv b.cl)) ∧ u1.cell? ⟨w.heap.size + 1 + 1, 0, none⟩ = some (.int .u64 (uv hh)) ∧ u1.cell? ⟨w.heap.size + 1 + 1, 1, none⟩ = some (.int .u64 (uv hl)) ∧ u1.cell? ⟨g, k * 4, none⟩ = some (.int .u64 (uv c.vh)) ∧ u1.cell? ⟨g, k * 4 + 1, none⟩ = some (.int .u64 (uv c.vl)) ∧ u1.cell? ⟨g, k * 4 + 2, none⟩ = some (.int .u64 (uv c.ch)) ∧ u1.cell? ⟨g, k * 4 + 3, none⟩ = some (.int .u64 (uv c.cl))) ∧ Blk u1 (w.heap.size) 26 #[.int .u64 (uv a.vh), .int .u64 (uv a.vl), .int .u64 (uv a.ch), .int .u64 (uv a.cl)] ∧ Blk u1 (w.heap.size + 1) 26 #[.int .u64 (uv b.vh), .int .u64 (uv b.vl), .int .u64 (uv b.ch), .int .u64 (uv b.cl)] ∧ Blk u1 (w.heap.size + 1 + 1) 24 #[.int .u64 (uv hh), .int .u64 (uv hl)] ∧ u1.ownsRow w6.heap.size 26 4 (.slice (some ⟨g, 0, none⟩) Q.length cap) Q.length (flat Q)) → ((Below w.heap.size w u2 ∧ u2.cell? ⟨w.heap.size, 0, none⟩ = some (.int .u64 (uv a.vh)) ∧ u2.cell? ⟨w.heap.size, 1, none⟩ = some (.int .u64 (uv a.vl)) ∧ u2.cell? ⟨w.heap.size, 2, none⟩ = some (.int .u64 (uv a.ch)) ∧ u2.cell? ⟨w.heap.size, 3, none⟩ = some (.int .u64 (uv a.cl)) ∧ u2.cell? ⟨w.heap.size + 1, 0, none⟩ = some (.int .u64 (uv b.vh)) ∧ u2.cell? ⟨w.heap.size + 1, 1, none⟩ = some (.int .u64 (uv b.vl)) ∧ u2.cell? ⟨w.heap.size + 1, 2, none⟩ = some (.int .u64 (uv b.ch)) ∧ u2.cell? ⟨w.heap.size + 1, 3, none⟩ = some (.int .u64 (uv b.cl)) ∧ u2.cell? ⟨w.heap.size + 1 + 1, 0, none⟩ = some (.int .u64 (uv hh)) ∧ u2.cell? ⟨w.heap.size + 1 + 1, 1, none⟩ = some (.int .u64 (uv hl)) ∧ u2.cell? ⟨g, k * 4, none⟩ = some (.int .u64 (uv c.vh)) ∧ u2.cell? ⟨g, k * 4 + 1, none⟩ = some (.int .u64 (uv c.vl)) ∧ u2.cell? ⟨g, k * 4 + 2, none⟩ = some (.int .u64 (uv c.ch)) ∧ u2.cell? ⟨g, k * 4 + 3, none⟩ = some (.int .u64 (uv c.cl))) ∧ Blk u2 (w.heap.size) 26 #[.int .u64 (uv a.vh), .int .u64 (uv a.vl), .int .u64 (uv a.ch), .int .u64 (uv a.cl)] ∧ Blk u2 (w.heap.size + 1) 26 #[.int .u64 (uv b.vh), .int .u64 (uv b.vl), .int .u64 (uv b.ch), .int .u64 (uv b.cl)] ∧ Blk u2 (w.heap.size + 1 + 1) 24 #[.int .u64 (uv hh), .int .u64 (uv hl)] ∧ u2.ownsRow w6.heap.size 26 4 (.slice (some ⟨g, 0, none⟩) Q.length cap) Q.length (flat Q)) := fun _ _ hb h => ⟨hold14 hb h.1, (h.2.1).on hb, (h.2.2.1).on hb, (h.2.2.2.1).on hb, own_on (h.2.2.2.2) hb⟩
        have S0 : (Below w.heap.size w wz10 ∧ wz10.cell? ⟨w.heap.size, 0, none⟩ = some (.int .u64 (uv a.vh)) ∧ wz10.cell? ⟨w.heap.size, 1, none⟩ = some (.int .u64 (uv a.vl)) ∧ wz10.cell? ⟨w.heap.size, 2, none⟩ = some (.int .u64 (uv a.ch)) ∧ wz10.cell? ⟨w.heap.size, 3, none⟩ = some (.int .u64 (uv a.cl)) ∧ wz10.cell? ⟨w.heap.size + 1, 0, none⟩ = some (.int .u64 (uv b.vh)) ∧ wz10.cell? ⟨w.heap.size + 1, 1, none⟩ = some (.int .u64 (uv b.vl)) ∧ wz10.cell? ⟨w.heap.size + 1, 2, none⟩ = some (.int .u64 (uv b.ch)) ∧ wz10.cell? ⟨w.heap.size + 1, 3, none⟩ = some (.int .u64 (uv b.cl)) ∧ wz10.cell? ⟨w.heap.size + 1 + 1, 0, none⟩ = some (.int .u64 (uv hh)) ∧ wz10.cell? ⟨w.heap.size + 1 + 1, 1, none⟩ = some (.int .u64 (uv hl)) ∧ wz10.cell? ⟨g, k * 4, none⟩ = some (.int .u64 (uv c.vh)) ∧ wz10.cell? ⟨g, k * 4 + 1, none⟩ = some (.int .u64 (uv c.vl)) ∧ wz10.cell? ⟨g, k * 4 + 2, none⟩ = some (.int .u64 (uv c.ch)) ∧ wz10.cell? ⟨g, k * 4 + 3, none⟩ = some (.int .u64 (uv c.cl))) ∧ Blk wz10 (w.heap.size) 26 #[.int .u64 (uv a.vh), .int .u64 (uv a.vl), .int .u64 (uv a.ch), .int .u64 (uv a.cl)] ∧ Blk wz10 (w.heap.size + 1) 26 #[.int .u64 (uv b.vh), .int .u64 (uv b.vl), .int .u64 (uv b.ch), .int .u64 (uv b.cl)] ∧ Blk wz10 (w.heap.size + 1 + 1) 24 #[.int .u64 (uv hh), .int .u64 (uv hl)] ∧ wz10.ownsRow w6.heap.size 26 4 (.slice (some ⟨g, 0, none⟩) Q.length cap) Q.length (flat Q) := ⟨⟨L, A.cell 0, A.cell 1, A.cell 2, A.cell 3, B.cell 0, B.cell 1, B.cell 2, B.cell 3, H.cell 0, H.cell 1, own_at O k HC.out 0 (by omega), own_at O k HC.out 1 (by omega), own_at O k HC.out 2 (by omega), own_at O k HC.out 3 (by omega)⟩, A, B, H, O⟩
        go_region_held3 (fun w' => (Below w.heap.size w w' ∧ w'.cell? ⟨w.heap.size, 0, none⟩ = some (.int .u64 (uv a.vh)) ∧ w'.cell? ⟨w.heap.size, 1, none⟩ = some (.int .u64 (uv a.vl)) ∧ w'.cell? ⟨w.heap.size, 2, none⟩ = some (.int .u64 (uv a.ch)) ∧ w'.cell? ⟨w.heap.size, 3, none⟩ = some (.int .u64 (uv a.cl)) ∧ w'.cell? ⟨w.heap.size + 1, 0, none⟩ = some (.int .u64 (uv b.vh)) ∧ w'.cell? ⟨w.heap.size + 1, 1, none⟩ = some (.int .u64 (uv b.vl)) ∧ w'.cell? ⟨w.heap.size + 1, 2, none⟩ = some (.int .u64 (uv b.ch)) ∧ w'.cell? ⟨w.heap.size + 1, 3, none⟩ = some (.int .u64 (uv b.cl)) ∧ w'.cell? ⟨w.heap.size + 1 + 1, 0, none⟩ = some (.int .u64 (uv hh)) ∧ w'.cell? ⟨w.heap.size + 1 + 1, 1, none⟩ = some (.int .u64 (uv hl)) ∧ w'.cell? ⟨g, k * 4, none⟩ = some (.int .u64 (uv c.vh)) ∧ w'.cell? ⟨g, k * 4 + 1, none⟩ = some (.int .u64 (uv c.vl)) ∧ w'.cell? ⟨g, k * 4 + 2, none⟩ = some (.int .u64 (uv c.ch)) ∧ w'.cell? ⟨g, k * 4 + 3, none⟩ = some (.int .u64 (uv c.cl))) ∧ Blk w' (w.heap.size) 26 #[.int .u64 (uv a.vh), .int .u64 (uv a.vl), .int .u64 (uv a.ch), .int .u64 (uv a.cl)] ∧ Blk w' (w.heap.size + 1) 26 #[.int .u64 (uv b.vh), .int .u64 (uv b.vl), .int .u64 (uv b.ch), .int .u64 (uv b.cl)] ∧ Blk w' (w.heap.size + 1 + 1) 24 #[.int .u64 (uv hh), .int .u64 (uv hl)] ∧ w'.ownsRow w6.heap.size 26 4 (.slice (some ⟨g, 0, none⟩) Q.length cap) Q.length (flat Q))
          (first | exact KEEP4 _ _ (by assumption) (by assumption) | exact KEEP4 _ _ (Below.refl _ _).drew S0)
          (first
            | (go_at_call 16; (with_reducible refine (cwithin _ c a _ HW.out).mono ?_); rintro e wz11 ⟨rfl, hb⟩))
        clear S0 KEEP4 hb
        rename_i hS
        clear A B H O L
        obtain ⟨⟨L, _, _, _, _, _, _, _, _, _, _, _, _, _, _⟩, A, B, H, O⟩ := hS
        have eA := A.four
        have eB := B.four
        have eH := H.pair
        go_wp2
        go_roundg (Q.length - (k + 1))
        case measure => omega
        case rel => exact ⟨k + 1, by omega, rfl, by rw [HT.out]; simp only [Bool.toNat_true]; go_num, by go_num, L, A, B, H, O⟩
    · obtain rfl : k = Q.length := by omega
      rw [List.take_length]
      have ec : 1 + cntC hh hl Q = (a.has hh hl).toNat := HCNT.out
      have HL := HLEN.out
      clear cb tl
      have eA := A.four
      have eB := B.four
      have eH := H.pair
      cases ha : a.has hh hl
      · rw [ha] at ec
        simp only [Bool.toNat_false] at ec
        rw [ec]
        clear ec
        cases Q with
        | nil =>
          have hw : a.wit b = true := HL.1 rfl
          clear HL HLEN HCNT HWIT HQ
          go_wp2_with fail
          (with_reducible refine (chas _ a hh hl _ ha).mono ?_)
          rintro e w8 ⟨rfl, hb⟩
          clear eA eB eH
          replace A := A.on hb
          replace B := B.on hb
          replace H := H.on hb
          replace L := L.trans (hb.mono L.size)
          clear hb
          have eA := A.four
          have eB := B.four
          have eH := H.pair
          go_wp2_with fail
          (with_reducible refine (cwithin _ a b _ hw).mono ?_)
          rintro e w9 ⟨rfl, hb⟩
          clear eA eB eH
          replace A := A.on hb
          replace B := B.on hb
          replace H := H.on hb
          replace L := L.trans (hb.mono L.size)
          clear hb
          have eA := A.four
          have eB := B.four
          have eH := H.pair
          go_wp2
          go_ret
          exact ⟨rfl, L⟩
        | cons q Q =>
          have hw : a.wit b = false := by cases e : a.wit b with
            | false => rfl
            | true => exact absurd (HL.2 e) (by simp)
          clear HL HLEN HCNT HWIT HQ
          go_wp2_with fail
          (with_reducible refine (chas _ a hh hl _ ha).mono ?_)
          rintro e w8 ⟨rfl, hb⟩
          clear eA eB eH
          replace A := A.on hb
          replace B := B.on hb
          replace H := H.on hb
          replace L := L.trans (hb.mono L.size)
          clear hb
          have eA := A.four
          have eB := B.four
          have eH := H.pair
          go_wp2_with fail
          (with_reducible refine (cwithin _ a b _ hw).mono ?_)
          rintro e w9 ⟨rfl, hb⟩
          clear eA eB eH
          replace A := A.on hb
          replace B := B.on hb
          replace H := H.on hb
          replace L := L.trans (hb.mono L.size)
          clear hb
          have eA := A.four
          have eB := B.four
          have eH := H.pair
          go_wp2
          go_ret
          exact ⟨rfl, L⟩
      · rw [ha] at ec
        simp only [Bool.toNat_true] at ec
        rw [ec]
        clear ec
        cases Q with
        | nil =>
          have hw : a.wit b = true := HL.1 rfl
          clear HL HLEN HCNT HWIT HQ
          go_wp2_with fail
          (with_reducible refine (chas _ a hh hl _ ha).mono ?_)
          rintro e w8 ⟨rfl, hb⟩
          clear eA eB eH
          replace A := A.on hb
          replace B := B.on hb
          replace H := H.on hb
          replace L := L.trans (hb.mono L.size)
          clear hb
          have eA := A.four
          have eB := B.four
          have eH := H.pair
          go_wp2_with fail
          (with_reducible refine (cwithin _ a b _ hw).mono ?_)
          rintro e w9 ⟨rfl, hb⟩
          clear eA eB eH
          replace A := A.on hb
          replace B := B.on hb
          replace H := H.on hb
          replace L := L.trans (hb.mono L.size)
          clear hb
          have eA := A.four
          have eB := B.four
          have eH := H.pair
          go_wp2
          go_ret
          exact ⟨rfl, L⟩
        | cons q Q =>
          have hw : a.wit b = false := by cases e : a.wit b with
            | false => rfl
            | true => exact absurd (HL.2 e) (by simp)
          clear HL HLEN HCNT HWIT HQ
          go_wp2_with fail
          (with_reducible refine (chas _ a hh hl _ ha).mono ?_)
          rintro e w8 ⟨rfl, hb⟩
          clear eA eB eH
          replace A := A.on hb
          replace B := B.on hb
          replace H := H.on hb
          replace L := L.trans (hb.mono L.size)
          clear hb
          have eA := A.four
          have eB := B.four
          have eH := H.pair
          go_wp2_with fail
          (with_reducible refine (cwithin _ a b _ hw).mono ?_)
          rintro e w9 ⟨rfl, hb⟩
          clear eA eB eH
          replace A := A.on hb
          replace B := B.on hb
          replace H := H.on hb
          replace L := L.trans (hb.mono L.size)
          clear hb
          have eA := A.four
          have eB := B.four
          have eH := H.pair
          go_wp2
          go_ret
          exact ⟨rfl, L⟩

theorem parts_c (a b : Cb) (hh hl : BitVec 64) (w : World) :
    Calls Try.prog 8 #[.agg #[.int .u64 (uv a.vh), .int .u64 (uv a.vl), .int .u64 (uv a.ch), .int .u64 (uv a.cl)], .agg #[.int .u64 (uv b.vh), .int .u64 (uv b.vl), .int .u64 (uv b.ch), .int .u64 (uv b.cl)], .agg #[.int .u64 (uv hh), .int .u64 (uv hl)]] w fun e w' => e = .returned (.bool true) ∧ Below w.heap.size w w' := by
  cases h1 : a.snd with
  | false => exact parts_bad1 a b hh hl w h1
  | true =>
    cases h2 : b.snd with
    | false => exact parts_bad2 a b hh hl w h1 h2
    | true =>
      have hc := parts_count hh hl h1 h2
      have q2 := Lib.hid (lessC_wit (b := b) h1)
      have q3 := lessC_le a b
      have q4 := Lib.hid (lessC_len h1 h2)
      cases hm : a.met b with
      | false =>
        rw [hm, Bool.false_and, Bool.toNat_false] at hc
        exact parts_F a b hh hl w h1 h2 (lessC a b) (Lib.hid rfl) q2 q3 q4 (Lib.hid hc) hm
      | true =>
        rw [hm, Bool.true_and] at hc
        cases hj : (a.join b).has hh hl with
        | false => rw [hj, Bool.toNat_false] at hc; exact parts_0 a b hh hl w h1 h2 (lessC a b) (Lib.hid rfl) q2 q3 q4 (Lib.hid hc) hm hj
        | true => rw [hj, Bool.toNat_true] at hc; exact parts_1 a b hh hl w h1 h2 (lessC a b) (Lib.hid rfl) q2 q3 q4 (Lib.hid hc) hm hj
theorem cparts_w (avh avl ach acl bvh bvl bch bcl hh hl : BitVec 64) (w : World) :
    Calls Try.prog 8 #[.agg #[.int .u64 (uv avh), .int .u64 (uv avl), .int .u64 (uv ach), .int .u64 (uv acl)], .agg #[.int .u64 (uv bvh), .int .u64 (uv bvl), .int .u64 (uv bch), .int .u64 (uv bcl)], .agg #[.int .u64 (uv hh), .int .u64 (uv hl)]] w fun e w' => e = .returned (.bool true) ∧ Below w.heap.size w w' :=
  parts_c ⟨avh, avl, ach, acl⟩ ⟨bvh, bvl, bch, bcl⟩ hh hl w
end Go.Proofs
