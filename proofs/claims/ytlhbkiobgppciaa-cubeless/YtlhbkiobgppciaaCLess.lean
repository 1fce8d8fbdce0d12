/-
  The law CubeLess returns true for all cubes, and changes nothing that was there. No conditions.
-/
import Derived.Test.YtlhbkiobgppciaaRLess
namespace Go.Proofs
open Go.RowKit Go.Proofs.Hd
attribute [local go_sem] uv_nonneg eq4_self eq2_self
attribute [local go_sem high] run_eq2 run_eq4
theorem str_at {w : World} {base g cap : Nat} {t : TypeId} {L : List Cb} {c : Cb} (h : w.ownsRow base t 1 (.slice (some ⟨g, 0, none⟩) L.length cap) L.length (strs L)) (k : Nat) (hc : L[k]? = some c) : w.cell? ⟨g, k, none⟩ = some (.string (txt c)) := by
  have hk : k < L.length := (List.getElem?_eq_some_iff.1 hc).1
  rw [h.cellAt k (by omega)]
  unfold strs
  rw [List.getElem?_map, hc]; rfl
set_option maxHeartbeats 4000000 in
theorem lless_nn (a b : Cb) (w : World) (h1 : a.snd = false) (h2 : b.snd = false) :
    Calls Try.prog 5 #[.agg #[.int .u64 (uv a.vh), .int .u64 (uv a.vl), .int .u64 (uv a.ch), .int .u64 (uv a.cl)], .agg #[.int .u64 (uv b.vh), .int .u64 (uv b.vl), .int .u64 (uv b.ch), .int .u64 (uv b.cl)]] w fun e w' => e = .returned (.bool true) ∧ Below w.heap.size w w' := by
  have bx0 := below1 w (.cells #[.int .u64 (uv a.vh), .int .u64 (uv a.vl), .int .u64 (uv a.ch), .int .u64 (uv a.cl)] 26)
  have Ab0 : Blk (w.alloc (.cells #[.int .u64 (uv a.vh), .int .u64 (uv a.vl), .int .u64 (uv a.ch), .int .u64 (uv a.cl)] 26)) (w.heap.size) 26 #[.int .u64 (uv a.vh), .int .u64 (uv a.vl), .int .u64 (uv a.ch), .int .u64 (uv a.cl)] := Blk.new w _ _
  have L0 : Below w.heap.size w (w.alloc (.cells #[.int .u64 (uv a.vh), .int .u64 (uv a.vl), .int .u64 (uv a.ch), .int .u64 (uv a.cl)] 26)) := bx0
  have bx1 := below1 (w.alloc (.cells #[.int .u64 (uv a.vh), .int .u64 (uv a.vl), .int .u64 (uv a.ch), .int .u64 (uv a.cl)] 26)) (.cells #[.int .u64 (uv b.vh), .int .u64 (uv b.vl), .int .u64 (uv b.ch), .int .u64 (uv b.cl)] 26)
  have Ab1 := Ab0.on bx1
  have Bb1 : Blk ((w.alloc (.cells #[.int .u64 (uv a.vh), .int .u64 (uv a.vl), .int .u64 (uv a.ch), .int .u64 (uv a.cl)] 26)).alloc (.cells #[.int .u64 (uv b.vh), .int .u64 (uv b.vl), .int .u64 (uv b.ch), .int .u64 (uv b.cl)] 26)) (w.heap.size + 1) 26 #[.int .u64 (uv b.vh), .int .u64 (uv b.vl), .int .u64 (uv b.ch), .int .u64 (uv b.cl)] := by have h := Blk.new (w.alloc (.cells #[.int .u64 (uv a.vh), .int .u64 (uv a.vl), .int .u64 (uv a.ch), .int .u64 (uv a.cl)] 26)) 26 #[.int .u64 (uv b.vh), .int .u64 (uv b.vl), .int .u64 (uv b.ch), .int .u64 (uv b.cl)]; simpa only [World.size_alloc] using h
  have L1 : Below w.heap.size w ((w.alloc (.cells #[.int .u64 (uv a.vh), .int .u64 (uv a.vl), .int .u64 (uv a.ch), .int .u64 (uv a.cl)] 26)).alloc (.cells #[.int .u64 (uv b.vh), .int .u64 (uv b.vl), .int .u64 (uv b.ch), .int .u64 (uv b.cl)] 26)) := L0.trans (bx1.mono L0.size)
  have A := Ab1
  have B := Bb1
  have L := L1
  clear bx0 bx1 L0 L1 Ab0 Ab1 Bb1
  have eA := A.four
  have eB := B.four
  go_enter Try.func5, Try.ntmps5
  go_wp2_with fail
  (with_reducible refine (text_no a _ h1).mono ?_)
  rintro e w1 ⟨rfl, hb⟩
  clear eA eB
  replace A := A.on hb
  replace B := B.on hb
  replace L := L.trans (hb.mono L.size)
  clear hb
  have eA := A.four
  have eB := B.four
  go_wp2_with fail
  (with_reducible refine (text_no b _ h2).mono ?_)
  rintro e w2 ⟨rfl, hb⟩
  clear eA eB
  replace A := A.on hb
  replace B := B.on hb
  replace L := L.trans (hb.mono L.size)
  clear hb
  have eA := A.four
  have eB := B.four
  go_wp2_with fail
  (with_reducible refine (awake2_c _).mono ?_)
  rintro e w3 ⟨rfl, hb⟩
  clear eA eB
  replace A := A.on hb
  replace B := B.on hb
  replace L := L.trans (hb.mono L.size)
  clear hb
  have eA := A.four
  have eB := B.four
  go_wp2
  go_ret
  exact ⟨rfl, L⟩

set_option maxHeartbeats 4000000 in
theorem lless_ny (a b : Cb) (w : World) (h1 : a.snd = false) (h2 : b.snd = true) (t : ByteArray) (HT : Hid (txt b = t)) :
    Calls Try.prog 5 #[.agg #[.int .u64 (uv a.vh), .int .u64 (uv a.vl), .int .u64 (uv a.ch), .int .u64 (uv a.cl)], .agg #[.int .u64 (uv b.vh), .int .u64 (uv b.vl), .int .u64 (uv b.ch), .int .u64 (uv b.cl)]] w fun e w' => e = .returned (.bool true) ∧ Below w.heap.size w w' := by
  have bx0 := below1 w (.cells #[.int .u64 (uv a.vh), .int .u64 (uv a.vl), .int .u64 (uv a.ch), .int .u64 (uv a.cl)] 26)
  have Ab0 : Blk (w.alloc (.cells #[.int .u64 (uv a.vh), .int .u64 (uv a.vl), .int .u64 (uv a.ch), .int .u64 (uv a.cl)] 26)) (w.heap.size) 26 #[.int .u64 (uv a.vh), .int .u64 (uv a.vl), .int .u64 (uv a.ch), .int .u64 (uv a.cl)] := Blk.new w _ _
  have L0 : Below w.heap.size w (w.alloc (.cells #[.int .u64 (uv a.vh), .int .u64 (uv a.vl), .int .u64 (uv a.ch), .int .u64 (uv a.cl)] 26)) := bx0
  have bx1 := below1 (w.alloc (.cells #[.int .u64 (uv a.vh), .int .u64 (uv a.vl), .int .u64 (uv a.ch), .int .u64 (uv a.cl)] 26)) (.cells #[.int .u64 (uv b.vh), .int .u64 (uv b.vl), .int .u64 (uv b.ch), .int .u64 (uv b.cl)] 26)
  have Ab1 := Ab0.on bx1
  have Bb1 : Blk ((w.alloc (.cells #[.int .u64 (uv a.vh), .int .u64 (uv a.vl), .int .u64 (uv a.ch), .int .u64 (uv a.cl)] 26)).alloc (.cells #[.int .u64 (uv b.vh), .int .u64 (uv b.vl), .int .u64 (uv b.ch), .int .u64 (uv b.cl)] 26)) (w.heap.size + 1) 26 #[.int .u64 (uv b.vh), .int .u64 (uv b.vl), .int .u64 (uv b.ch), .int .u64 (uv b.cl)] := by have h := Blk.new (w.alloc (.cells #[.int .u64 (uv a.vh), .int .u64 (uv a.vl), .int .u64 (uv a.ch), .int .u64 (uv a.cl)] 26)) 26 #[.int .u64 (uv b.vh), .int .u64 (uv b.vl), .int .u64 (uv b.ch), .int .u64 (uv b.cl)]; simpa only [World.size_alloc] using h
  have L1 : Below w.heap.size w ((w.alloc (.cells #[.int .u64 (uv a.vh), .int .u64 (uv a.vl), .int .u64 (uv a.ch), .int .u64 (uv a.cl)] 26)).alloc (.cells #[.int .u64 (uv b.vh), .int .u64 (uv b.vl), .int .u64 (uv b.ch), .int .u64 (uv b.cl)] 26)) := L0.trans (bx1.mono L0.size)
  have A := Ab1
  have B := Bb1
  have L := L1
  clear bx0 bx1 L0 L1 Ab0 Ab1 Bb1
  have eA := A.four
  have eB := B.four
  go_enter Try.func5, Try.ntmps5
  go_wp2_with fail
  (with_reducible refine (text_no a _ h1).mono ?_)
  rintro e w1 ⟨rfl, hb⟩
  clear eA eB
  replace A := A.on hb
  replace B := B.on hb
  replace L := L.trans (hb.mono L.size)
  clear hb
  have eA := A.four
  have eB := B.four
  go_wp2_with fail
  (with_reducible refine (text_s t b _ h2 HT.out).mono ?_)
  rintro e w2 ⟨rfl, hb⟩
  clear eA eB
  replace A := A.on hb
  replace B := B.on hb
  replace L := L.trans (hb.mono L.size)
  clear hb
  have eA := A.four
  have eB := B.four
  go_wp2_with fail
  (with_reducible refine (awake2_c _).mono ?_)
  rintro e w3 ⟨rfl, hb⟩
  clear eA eB
  replace A := A.on hb
  replace B := B.on hb
  replace L := L.trans (hb.mono L.size)
  clear hb
  have eA := A.four
  have eB := B.four
  go_wp2
  go_ret
  exact ⟨rfl, L⟩

set_option maxHeartbeats 4000000 in
theorem lless_yn (a b : Cb) (w : World) (h1 : a.snd = true) (h2 : b.snd = false) (s : ByteArray) (HS : Hid (txt a = s)) :
    Calls Try.prog 5 #[.agg #[.int .u64 (uv a.vh), .int .u64 (uv a.vl), .int .u64 (uv a.ch), .int .u64 (uv a.cl)], .agg #[.int .u64 (uv b.vh), .int .u64 (uv b.vl), .int .u64 (uv b.ch), .int .u64 (uv b.cl)]] w fun e w' => e = .returned (.bool true) ∧ Below w.heap.size w w' := by
  have bx0 := below1 w (.cells #[.int .u64 (uv a.vh), .int .u64 (uv a.vl), .int .u64 (uv a.ch), .int .u64 (uv a.cl)] 26)
  have Ab0 : Blk (w.alloc (.cells #[.int .u64 (uv a.vh), .int .u64 (uv a.vl), .int .u64 (uv a.ch), .int .u64 (uv a.cl)] 26)) (w.heap.size) 26 #[.int .u64 (uv a.vh), .int .u64 (uv a.vl), .int .u64 (uv a.ch), .int .u64 (uv a.cl)] := Blk.new w _ _
  have L0 : Below w.heap.size w (w.alloc (.cells #[.int .u64 (uv a.vh), .int .u64 (uv a.vl), .int .u64 (uv a.ch), .int .u64 (uv a.cl)] 26)) := bx0
  have bx1 := below1 (w.alloc (.cells #[.int .u64 (uv a.vh), .int .u64 (uv a.vl), .int .u64 (uv a.ch), .int .u64 (uv a.cl)] 26)) (.cells #[.int .u64 (uv b.vh), .int .u64 (uv b.vl), .int .u64 (uv b.ch), .int .u64 (uv b.cl)] 26)
  have Ab1 := Ab0.on bx1
  have Bb1 : Blk ((w.alloc (.cells #[.int .u64 (uv a.vh), .int .u64 (uv a.vl), .int .u64 (uv a.ch), .int .u64 (uv a.cl)] 26)).alloc (.cells #[.int .u64 (uv b.vh), .int .u64 (uv b.vl), .int .u64 (uv b.ch), .int .u64 (uv b.cl)] 26)) (w.heap.size + 1) 26 #[.int .u64 (uv b.vh), .int .u64 (uv b.vl), .int .u64 (uv b.ch), .int .u64 (uv b.cl)] := by have h := Blk.new (w.alloc (.cells #[.int .u64 (uv a.vh), .int .u64 (uv a.vl), .int .u64 (uv a.ch), .int .u64 (uv a.cl)] 26)) 26 #[.int .u64 (uv b.vh), .int .u64 (uv b.vl), .int .u64 (uv b.ch), .int .u64 (uv b.cl)]; simpa only [World.size_alloc] using h
  have L1 : Below w.heap.size w ((w.alloc (.cells #[.int .u64 (uv a.vh), .int .u64 (uv a.vl), .int .u64 (uv a.ch), .int .u64 (uv a.cl)] 26)).alloc (.cells #[.int .u64 (uv b.vh), .int .u64 (uv b.vl), .int .u64 (uv b.ch), .int .u64 (uv b.cl)] 26)) := L0.trans (bx1.mono L0.size)
  have A := Ab1
  have B := Bb1
  have L := L1
  clear bx0 bx1 L0 L1 Ab0 Ab1 Bb1
  have eA := A.four
  have eB := B.four
  go_enter Try.func5, Try.ntmps5
  go_wp2_with fail
  (with_reducible refine (text_s s a _ h1 HS.out).mono ?_)
  rintro e w1 ⟨rfl, hb⟩
  clear eA eB
  replace A := A.on hb
  replace B := B.on hb
  replace L := L.trans (hb.mono L.size)
  clear hb
  have eA := A.four
  have eB := B.four
  go_wp2_with fail
  (with_reducible refine (text_no b _ h2).mono ?_)
  rintro e w2 ⟨rfl, hb⟩
  clear eA eB
  replace A := A.on hb
  replace B := B.on hb
  replace L := L.trans (hb.mono L.size)
  clear hb
  have eA := A.four
  have eB := B.four
  go_wp2_with fail
  (with_reducible refine (awake2_c _).mono ?_)
  rintro e w3 ⟨rfl, hb⟩
  clear eA eB
  replace A := A.on hb
  replace B := B.on hb
  replace L := L.trans (hb.mono L.size)
  clear hb
  have eA := A.four
  have eB := B.four
  go_wp2
  go_ret
  exact ⟨rfl, L⟩

set_option maxHeartbeats 4000000 in
theorem lless_yy (a b : Cb) (w : World) (h1 : a.snd = true) (h2 : b.snd = true) (s : ByteArray) (HS : Hid (txt a = s)) (t : ByteArray) (HT : Hid (txt b = t)) (Q : List Cb) (HQ : Hid (lessC a b = Q)) (HWIT : Hid (∀ c ∈ Q, c.wit a = true)) (hQ : Q.length ≤ 128) :
    Calls Try.prog 5 #[.agg #[.int .u64 (uv a.vh), .int .u64 (uv a.vl), .int .u64 (uv a.ch), .int .u64 (uv a.cl)], .agg #[.int .u64 (uv b.vh), .int .u64 (uv b.vl), .int .u64 (uv b.ch), .int .u64 (uv b.cl)]] w fun e w' => e = .returned (.bool true) ∧ Below w.heap.size w w' := by
  have bx0 := below1 w (.cells #[.int .u64 (uv a.vh), .int .u64 (uv a.vl), .int .u64 (uv a.ch), .int .u64 (uv a.cl)] 26)
  have Ab0 : Blk (w.alloc (.cells #[.int .u64 (uv a.vh), .int .u64 (uv a.vl), .int .u64 (uv a.ch), .int .u64 (uv a.cl)] 26)) (w.heap.size) 26 #[.int .u64 (uv a.vh), .int .u64 (uv a.vl), .int .u64 (uv a.ch), .int .u64 (uv a.cl)] := Blk.new w _ _
  have L0 : Below w.heap.size w (w.alloc (.cells #[.int .u64 (uv a.vh), .int .u64 (uv a.vl), .int .u64 (uv a.ch), .int .u64 (uv a.cl)] 26)) := bx0
  have bx1 := below1 (w.alloc (.cells #[.int .u64 (uv a.vh), .int .u64 (uv a.vl), .int .u64 (uv a.ch), .int .u64 (uv a.cl)] 26)) (.cells #[.int .u64 (uv b.vh), .int .u64 (uv b.vl), .int .u64 (uv b.ch), .int .u64 (uv b.cl)] 26)
  have Ab1 := Ab0.on bx1
  have Bb1 : Blk ((w.alloc (.cells #[.int .u64 (uv a.vh), .int .u64 (uv a.vl), .int .u64 (uv a.ch), .int .u64 (uv a.cl)] 26)).alloc (.cells #[.int .u64 (uv b.vh), .int .u64 (uv b.vl), .int .u64 (uv b.ch), .int .u64 (uv b.cl)] 26)) (w.heap.size + 1) 26 #[.int .u64 (uv b.vh), .int .u64 (uv b.vl), .int .u64 (uv b.ch), .int .u64 (uv b.cl)] := by have h := Blk.new (w.alloc (.cells #[.int .u64 (uv a.vh), .int .u64 (uv a.vl), .int .u64 (uv a.ch), .int .u64 (uv a.cl)] 26)) 26 #[.int .u64 (uv b.vh), .int .u64 (uv b.vl), .int .u64 (uv b.ch), .int .u64 (uv b.cl)]; simpa only [World.size_alloc] using h
  have L1 : Below w.heap.size w ((w.alloc (.cells #[.int .u64 (uv a.vh), .int .u64 (uv a.vl), .int .u64 (uv a.ch), .int .u64 (uv a.cl)] 26)).alloc (.cells #[.int .u64 (uv b.vh), .int .u64 (uv b.vl), .int .u64 (uv b.ch), .int .u64 (uv b.cl)] 26)) := L0.trans (bx1.mono L0.size)
  have A := Ab1
  have B := Bb1
  have L := L1
  clear bx0 bx1 L0 L1 Ab0 Ab1 Bb1
  have eA := A.four
  have eB := B.four
  go_enter Try.func5, Try.ntmps5
  go_wp2_with fail
  (with_reducible refine (text_s s a _ h1 HS.out).mono ?_)
  rintro e w1 ⟨rfl, hb⟩
  clear eA eB
  replace A := A.on hb
  replace B := B.on hb
  replace L := L.trans (hb.mono L.size)
  clear hb
  have eA := A.four
  have eB := B.four
  go_wp2_with fail
  (with_reducible refine (text_s t b _ h2 HT.out).mono ?_)
  rintro e w2 ⟨rfl, hb⟩
  clear eA eB
  replace A := A.on hb
  replace B := B.on hb
  replace L := L.trans (hb.mono L.size)
  clear hb
  have eA := A.four
  have eB := B.four
  go_wp2_with fail
  (with_reducible refine (cless_q a b Q _ h1 h2 HQ.out).mono ?_)
  rintro e w3 ⟨v, rfl, O, hb⟩
  clear eA eB
  replace A := A.on hb
  replace B := B.on hb
  replace L := L.trans (hb.mono L.size)
  clear hb
  have eA := A.four
  have eB := B.four
  go_wp2_with fail
  (with_reducible refine (rless_s s t a b _ h1 h2 HS.out HT.out Q HQ.out).mono ?_)
  rintro e w4 ⟨v2, rfl, P, hb⟩
  clear eA eB
  replace A := A.on hb
  replace B := B.on hb
  replace O := own_on O hb
  replace L := L.trans (hb.mono L.size)
  clear hb
  have eA := A.four
  have eB := B.four
  obtain ⟨ad, cap, rfl, hA⟩ := own_form O
  obtain ⟨ad2, cap2, rfl, hA2⟩ := own_form P
  clear eA eB
  clear A B
  go_wp2_with fail
  go_loopg [11] Q.length (fun gk i wr => ∃ k : Nat, k ≤ Q.length ∧ gk = Q.length - k ∧ i = .int .i64 k ∧ Below w.heap.size w wr ∧ wr.ownsRow w2.heap.size 26 4 (.slice ad Q.length cap) Q.length (flat Q) ∧ wr.ownsRow w3.heap.size 9 1 (.slice ad2 Q.length cap2) Q.length (strs Q))
  case atStart => exact ⟨0, Nat.zero_le _, rfl, rfl, L, O, P⟩
  case round =>
    clear L O P
    obtain ⟨k, hk, rfl, rfl, L, O, P⟩ := hrel
    by_cases hlt : k < Q.length
    · obtain ⟨g, rfl⟩ := hA (by omega)
      obtain ⟨g2, rfl⟩ := hA2 (by omega)
      obtain ⟨c, hc⟩ : ∃ c, Q[k]? = some c := ⟨_, List.getElem?_eq_getElem hlt⟩
      have hcm : c ∈ Q := List.mem_of_getElem? hc
      have hcs := ((Cb.wit_iff c a).1 (HWIT.out c hcm)).1
      have HCS := Lib.hid hcs
      have HC := Lib.hid hc
      clear hc hcm hcs
      obtain ⟨q, hq⟩ : ∃ q, txt c = q := ⟨_, rfl⟩
      have HQQ := Lib.hid hq
      clear hq
      go_upto_region 12 with (fail)
      have KEEP1 : ∀ u1 u2 : World, Below u1.heap.size u1 u2 → ((Below w.heap.size w u1 ∧ u1.cell? ⟨g, k * 4, none⟩ = some (.int .u64 (uv c.vh)) ∧ u1.cell? ⟨g, k * 4 + 1, none⟩ = some (.int .u64 (uv c.vl)) ∧ u1.cell? ⟨g, k * 4 + 2, none⟩ = some (.int .u64 (uv c.ch)) ∧ u1.cell? ⟨g, k * 4 + 3, none⟩ = some (.int .u64 (uv c.cl)) ∧ u1.cell? ⟨g2, k, none⟩ = some (.string q)) ∧ u1.ownsRow w2.heap.size 26 4 (.slice (some ⟨g, 0, none⟩) Q.length cap) Q.length (flat Q) ∧ u1.ownsRow w3.heap.size 9 1 (.slice (some ⟨g2, 0, none⟩) Q.length cap2) Q.length (strs Q)) → ((Below w.heap.size w u2 ∧ u2.cell? ⟨g, k * 4, none⟩ = some (.int .u64 (uv c.vh)) ∧ u2.cell? ⟨g, k * 4 + 1, none⟩ = some (.int .u64 (uv c.vl)) ∧ u2.cell? ⟨g, k * 4 + 2, none⟩ = some (.int .u64 (uv c.ch)) ∧ u2.cell? ⟨g, k * 4 + 3, none⟩ = some (.int .u64 (uv c.cl)) ∧ u2.cell? ⟨g2, k, none⟩ = some (.string q)) ∧ u2.ownsRow w2.heap.size 26 4 (.slice (some ⟨g, 0, none⟩) Q.length cap) Q.length (flat Q) ∧ u2.ownsRow w3.heap.size 9 1 (.slice (some ⟨g2, 0, none⟩) Q.length cap2) Q.length (strs Q)) := fun _ _ hb h => ⟨hold5 hb h.1, own_on (h.2.1) hb, own_on (h.2.2) hb⟩
      have S0 : (Below w.heap.size w wr ∧ wr.cell? ⟨g, k * 4, none⟩ = some (.int .u64 (uv c.vh)) ∧ wr.cell? ⟨g, k * 4 + 1, none⟩ = some (.int .u64 (uv c.vl)) ∧ wr.cell? ⟨g, k * 4 + 2, none⟩ = some (.int .u64 (uv c.ch)) ∧ wr.cell? ⟨g, k * 4 + 3, none⟩ = some (.int .u64 (uv c.cl)) ∧ wr.cell? ⟨g2, k, none⟩ = some (.string q)) ∧ wr.ownsRow w2.heap.size 26 4 (.slice (some ⟨g, 0, none⟩) Q.length cap) Q.length (flat Q) ∧ wr.ownsRow w3.heap.size 9 1 (.slice (some ⟨g2, 0, none⟩) Q.length cap2) Q.length (strs Q) := ⟨⟨L, own_at O k HC.out 0 (by omega), own_at O k HC.out 1 (by omega), own_at O k HC.out 2 (by omega), own_at O k HC.out 3 (by omega), by have h := str_at P k HC.out; rwa [HQQ.out] at h⟩, O, P⟩
      go_region_held3 (fun w' => (Below w.heap.size w w' ∧ w'.cell? ⟨g, k * 4, none⟩ = some (.int .u64 (uv c.vh)) ∧ w'.cell? ⟨g, k * 4 + 1, none⟩ = some (.int .u64 (uv c.vl)) ∧ w'.cell? ⟨g, k * 4 + 2, none⟩ = some (.int .u64 (uv c.ch)) ∧ w'.cell? ⟨g, k * 4 + 3, none⟩ = some (.int .u64 (uv c.cl)) ∧ w'.cell? ⟨g2, k, none⟩ = some (.string q)) ∧ w'.ownsRow w2.heap.size 26 4 (.slice (some ⟨g, 0, none⟩) Q.length cap) Q.length (flat Q) ∧ w'.ownsRow w3.heap.size 9 1 (.slice (some ⟨g2, 0, none⟩) Q.length cap2) Q.length (strs Q))
        (first | exact KEEP1 _ _ (by assumption) (by assumption) | exact KEEP1 _ _ (Below.refl _ _).drew S0)
        (first
          | (go_at_call 20; (with_reducible refine (rcube_s q c _ HCS.out HQQ.out).mono ?_); rintro e wz5 ⟨rfl, hb⟩))
      clear S0 KEEP1 hb
      rename_i hS
      clear O P L
      obtain ⟨⟨L, _, _, _, _, _⟩, O, P⟩ := hS
      go_wp2
      go_roundg (Q.length - (k + 1))
      case measure => omega
      case rel => exact ⟨k + 1, by omega, rfl, by go_num, L, O, P⟩
    · obtain rfl : k = Q.length := by omega
      clear O P hA hA2
      go_wp2_with fail
      (with_reducible refine (awake2_c _).mono ?_)
      rintro e w9 ⟨rfl, hb⟩
      replace L := L.trans (hb.mono L.size)
      clear hb
      go_wp2
      go_ret
      exact ⟨rfl, L⟩

theorem lless_c (a b : Cb) (w : World) : Calls Try.prog 5 #[.agg #[.int .u64 (uv a.vh), .int .u64 (uv a.vl), .int .u64 (uv a.ch), .int .u64 (uv a.cl)], .agg #[.int .u64 (uv b.vh), .int .u64 (uv b.vl), .int .u64 (uv b.ch), .int .u64 (uv b.cl)]] w fun e w' => e = .returned (.bool true) ∧ Below w.heap.size w w' := by
  cases h1 : a.snd with
  | false =>
    cases h2 : b.snd with
    | false => exact lless_nn a b w h1 h2
    | true => exact lless_ny a b w h1 h2 _ (Lib.hid rfl)
  | true =>
    cases h2 : b.snd with
    | false => exact lless_yn a b w h1 h2 _ (Lib.hid rfl)
    | true => exact lless_yy a b w h1 h2 _ (Lib.hid rfl) _ (Lib.hid rfl) (lessC a b) (Lib.hid rfl) (Lib.hid (lessC_wit (b := b) h1)) (lessC_le a b)
theorem lless_w (avh avl ach acl bvh bvl bch bcl : BitVec 64) (w : World) : Calls Try.prog 5 #[.agg #[.int .u64 (uv avh), .int .u64 (uv avl), .int .u64 (uv ach), .int .u64 (uv acl)], .agg #[.int .u64 (uv bvh), .int .u64 (uv bvl), .int .u64 (uv bch), .int .u64 (uv bcl)]] w fun e w' => e = .returned (.bool true) ∧ Below w.heap.size w w' :=
  lless_c ⟨avh, avl, ach, acl⟩ ⟨bvh, bvl, bch, bcl⟩ w
end Go.Proofs
