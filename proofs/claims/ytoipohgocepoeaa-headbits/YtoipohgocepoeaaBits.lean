/-
  The law HeadBits returns true for every two headers and every int, and changes nothing that was there.
-/
import Derived.Test.YtoipohgocepoeaaOrder
import Derived.Test.YtoipohgocepoeaaArrRow
namespace Go.Proofs
open Go.RowKit Go.Proofs.Hd
theorem bit_any (h l : BitVec 64) (n : Int) (w : World) : Calls Try.prog 16 #[.agg #[.int .u64 (uv h), .int .u64 (uv l)], .int .i64 n] w fun e w' => e = .returned (.bool (bitI h l n)) ∧ Below w.heap.size w w' := by
  by_cases c : 0 ≤ n ∧ n < 128
  · have := bit_in h l n.toNat w (by omega)
    rw [Int.toNat_of_nonneg c.1] at this
    unfold bitI; rw [if_pos c]; exact this
  · unfold bitI; rw [if_neg c]; exact bit_out h l n w (by omega)
theorem ref_and (h l p q : BitVec 64) (w : World) : Calls Try.prog 11 #[.agg (bl (fun j => hbit h l j && hbit p q j)).toArray] w fun e w' => e = .returned (.agg #[.int .u64 (uv (h &&& p)), .int .u64 (uv (l &&& q))]) ∧ Below w.heap.size w w' := by
  have := refhead_c (fun j => hbit h l j && hbit p q j) w
  rwa [(and_num h l p q).1, (and_num h l p q).2] at this
theorem ref_or (h l p q : BitVec 64) (w : World) : Calls Try.prog 11 #[.agg (bl (fun j => hbit h l j || hbit p q j)).toArray] w fun e w' => e = .returned (.agg #[.int .u64 (uv (h ||| p)), .int .u64 (uv (l ||| q))]) ∧ Below w.heap.size w w' := by
  have := refhead_c (fun j => hbit h l j || hbit p q j) w
  rwa [(or_num h l p q).1, (or_num h l p q).2] at this
theorem ref_xor (h l p q : BitVec 64) (w : World) : Calls Try.prog 11 #[.agg (bl (fun j => hbit h l j ^^ hbit p q j)).toArray] w fun e w' => e = .returned (.agg #[.int .u64 (uv (h ^^^ p)), .int .u64 (uv (l ^^^ q))]) ∧ Below w.heap.size w w' := by
  have := refhead_c (fun j => hbit h l j ^^ hbit p q j) w
  rwa [(xor_num h l p q).1, (xor_num h l p q).2] at this
theorem ref_less (h l p q : BitVec 64) (w : World) : Calls Try.prog 11 #[.agg (bl (fun j => hbit h l j && !hbit p q j)).toArray] w fun e w' => e = .returned (.agg #[.int .u64 (uv (h &&& ~~~p)), .int .u64 (uv (l &&& ~~~q))]) ∧ Below w.heap.size w w' := by
  have := refhead_c (fun j => hbit h l j && !hbit p q j) w
  rwa [(less_num h l p q).1, (less_num h l p q).2] at this
theorem ones_cnt (h l : BitVec 64) (w : World) : Calls Try.prog 15 #[.agg #[.int .u64 (uv h), .int .u64 (uv l)]] w fun e w' => e = .returned (.int .i64 (cnt (hbit h l) 128 : Nat)) ∧ Below w.heap.size w w' := by
  have := ones_c h l w
  rwa [← cnt_128] at this

theorem keep1 {B c : Nat} {cs : List Value} {W0 w1 w2 : World} (hb : Below B w1 w2) (h : Below B W0 w1 ∧ w1.rangeAt c 0 cs) (hcB : c < B) : Below B W0 w2 ∧ w2.rangeAt c 0 cs := ⟨h.1.trans hb, range_below hb h.2 hcB⟩
theorem keep1a {c : Nat} {cs : List Value} {W0 w1 : World} {o : Obj} (h : Below W0.heap.size W0 w1 ∧ w1.rangeAt c 0 cs) (hcB : c < W0.heap.size) : Below W0.heap.size W0 (w1.alloc o) ∧ (w1.alloc o).rangeAt c 0 cs := keep1 ((Below.refl _ _).alloc h.1.size o) h hcB
theorem keep1S {c p o : Nat} {cs vs : List Value} {W0 w1 : World} (h : Below W0.heap.size W0 w1 ∧ w1.rangeAt c 0 cs) (hp : W0.heap.size ≤ p) (hcB : c < W0.heap.size) : Below W0.heap.size W0 (w1.setCells p o vs) ∧ (w1.setCells p o vs).rangeAt c 0 cs := keep1 (Below.setCells vs o w1 (Below.refl _ _) hp) h hcB
theorem keep1d {B c : Nat} {cs : List Value} {W0 w1 : World} (h : Below B W0 w1 ∧ w1.rangeAt c 0 cs) : Below B W0 w1.drew ∧ w1.drew.rangeAt c 0 cs := ⟨h.1.drew, h.2⟩

theorem pack4 {wc V : World} {b c d e : Nat} (f : Nat → Bool) (hB : Below wc.heap.size wc ((((V.setCells b 0 (bl f)).setCells c 0 (bl f)).setCells d 0 (bl f)).setCells e 0 (bl f)))
    (h1 : V.there b 0 128) (h2 : V.there c 0 128) (h3 : V.there d 0 128) (h4 : V.there e 0 128) (g1 : wc.heap.size ≤ b) (g2 : wc.heap.size ≤ c) (g3 : wc.heap.size ≤ d) (g4 : wc.heap.size ≤ e) (n1 : b ≠ c) (n2 : b ≠ d) (n3 : b ≠ e) (n4 : c ≠ d) (n5 : c ≠ e) (n6 : d ≠ e) :
    Below wc.heap.size wc ((((V.setCells b 0 (bl f)).setCells c 0 (bl f)).setCells d 0 (bl f)).setCells e 0 (bl f)) ∧ Row ((((V.setCells b 0 (bl f)).setCells c 0 (bl f)).setCells d 0 (bl f)).setCells e 0 (bl f)) b f ∧
    Row ((((V.setCells b 0 (bl f)).setCells c 0 (bl f)).setCells d 0 (bl f)).setCells e 0 (bl f)) c f ∧ Row ((((V.setCells b 0 (bl f)).setCells c 0 (bl f)).setCells d 0 (bl f)).setCells e 0 (bl f)) d f ∧
    Row ((((V.setCells b 0 (bl f)).setCells c 0 (bl f)).setCells d 0 (bl f)).setCells e 0 (bl f)) e f ∧ wc.heap.size ≤ b ∧ wc.heap.size ≤ c ∧ wc.heap.size ≤ d ∧ wc.heap.size ≤ e ∧ b ≠ c ∧ b ≠ d ∧ b ≠ e ∧ c ≠ d ∧ c ≠ e ∧ d ≠ e := by
  obtain ⟨q1, q2, q3, q4⟩ := four_Rows f h1 h2 h3 h4 n1 n2 n3 n4 n5 n6
  exact ⟨hB, q1, q2, q3, q4, g1, g2, g3, g4, n1, n2, n3, n4, n5, n6⟩

theorem round_rows {w : World} {bx cy b1 b2 b3 b4 k : Nat} {X Y A O E L : Nat → Bool} {v1 v2 v3 v4 : Bool}
    (h : Row w bx X ∧ Row w cy Y ∧ Row w b1 (mix X A k) ∧ Row w b2 (mix X O k) ∧ Row w b3 (mix X E k) ∧ Row w b4 (mix X L k)) (hk : k < 128)
    (x1 : b1 ≠ bx) (x2 : b2 ≠ bx) (x3 : b3 ≠ bx) (x4 : b4 ≠ bx) (y1 : b1 ≠ cy) (y2 : b2 ≠ cy) (y3 : b3 ≠ cy) (y4 : b4 ≠ cy) (n12 : b1 ≠ b2) (n13 : b1 ≠ b3) (n14 : b1 ≠ b4) (n23 : b2 ≠ b3) (n24 : b2 ≠ b4) (n34 : b3 ≠ b4)
    (e1 : v1 = A k) (e2 : v2 = O k) (e3 : v3 = E k) (e4 : v4 = L k) :
    Row ((((w.setCell ⟨b1, k, none⟩ (.bool v1)).setCell ⟨b2, k, none⟩ (.bool v2)).setCell ⟨b3, k, none⟩ (.bool v3)).setCell ⟨b4, k, none⟩ (.bool v4)) bx X ∧
    Row ((((w.setCell ⟨b1, k, none⟩ (.bool v1)).setCell ⟨b2, k, none⟩ (.bool v2)).setCell ⟨b3, k, none⟩ (.bool v3)).setCell ⟨b4, k, none⟩ (.bool v4)) cy Y ∧
    Row ((((w.setCell ⟨b1, k, none⟩ (.bool v1)).setCell ⟨b2, k, none⟩ (.bool v2)).setCell ⟨b3, k, none⟩ (.bool v3)).setCell ⟨b4, k, none⟩ (.bool v4)) b1 (mix X A (k + 1)) ∧
    Row ((((w.setCell ⟨b1, k, none⟩ (.bool v1)).setCell ⟨b2, k, none⟩ (.bool v2)).setCell ⟨b3, k, none⟩ (.bool v3)).setCell ⟨b4, k, none⟩ (.bool v4)) b2 (mix X O (k + 1)) ∧
    Row ((((w.setCell ⟨b1, k, none⟩ (.bool v1)).setCell ⟨b2, k, none⟩ (.bool v2)).setCell ⟨b3, k, none⟩ (.bool v3)).setCell ⟨b4, k, none⟩ (.bool v4)) b3 (mix X E (k + 1)) ∧
    Row ((((w.setCell ⟨b1, k, none⟩ (.bool v1)).setCell ⟨b2, k, none⟩ (.bool v2)).setCell ⟨b3, k, none⟩ (.bool v3)).setCell ⟨b4, k, none⟩ (.bool v4)) b4 (mix X L (k + 1)) := by
  obtain ⟨r1, r2, r3, r4, r5, r6⟩ := h
  exact ⟨(((r1.far x1).far x2).far x3).far x4, (((r2.far y1).far y2).far y3).far y4,
    (((r3.set hk (mix_set X A k v1 e1)).far (Ne.symm n12)).far (Ne.symm n13)).far (Ne.symm n14),
    (((r4.far n12).set hk (mix_set X O k v2 e2)).far (Ne.symm n23)).far (Ne.symm n24),
    (((r5.far n13).far n23).set hk (mix_set X E k v3 e3)).far (Ne.symm n34),
    (((r6.far n14).far n24).far n34).set hk (mix_set X L k v4 e4)⟩

theorem keep8 {a c b1 b2 b3 b4 : Nat} {x y z u : Value} {f1 f2 f3 f4 : Nat → Bool} {W0 w1 w2 : World} (hb : Below w1.heap.size w1 w2)
    (h : Below W0.heap.size W0 w1 ∧ (w1.cell? ⟨a, 0, none⟩ = some x ∧ w1.cell? ⟨a, 1, none⟩ = some y) ∧ (w1.cell? ⟨c, 0, none⟩ = some z ∧ w1.cell? ⟨c, 1, none⟩ = some u) ∧ w1.rangeAt b1 0 (bl f1) ∧ w1.rangeAt b2 0 (bl f2) ∧ w1.rangeAt b3 0 (bl f3) ∧ w1.rangeAt b4 0 (bl f4)) :
    Below W0.heap.size W0 w2 ∧ (w2.cell? ⟨a, 0, none⟩ = some x ∧ w2.cell? ⟨a, 1, none⟩ = some y) ∧ (w2.cell? ⟨c, 0, none⟩ = some z ∧ w2.cell? ⟨c, 1, none⟩ = some u) ∧ w2.rangeAt b1 0 (bl f1) ∧ w2.rangeAt b2 0 (bl f2) ∧ w2.rangeAt b3 0 (bl f3) ∧ w2.rangeAt b4 0 (bl f4) := by
  have lt : ∀ {b : Nat} {f : Nat → Bool}, w1.rangeAt b 0 (bl f) → b < w1.heap.size := fun h => World.block_lt_of_cell? w1 ⟨_, 0, none⟩ (range_cell h (by omega))
  obtain ⟨h0, ⟨h1, h2⟩, ⟨h3, h4⟩, h5, h6, h7, h8⟩ := h
  exact ⟨h0.trans (hb.mono h0.size), ⟨on_some hb h1, on_some hb h2⟩, ⟨on_some hb h3, on_some hb h4⟩, range_below hb h5 (lt h5), range_below hb h6 (lt h6), range_below hb h7 (lt h7), range_below hb h8 (lt h8)⟩
theorem round_all {W1 w : World} {bx cy b1 b2 b3 b4 k : Nat} {X Y A O E L : Nat → Bool} (v1 v2 v3 v4 : Bool) (hb : Below W1.heap.size W1 w) (hg : W1.heap.size ≤ b1 ∧ W1.heap.size ≤ b2 ∧ W1.heap.size ≤ b3 ∧ W1.heap.size ≤ b4)
    (h : Row w bx X ∧ Row w cy Y ∧ Row w b1 (mix X A k) ∧ Row w b2 (mix X O k) ∧ Row w b3 (mix X E k) ∧ Row w b4 (mix X L k)) (hk : k < 128)
    (x1 : b1 ≠ bx) (x2 : b2 ≠ bx) (x3 : b3 ≠ bx) (x4 : b4 ≠ bx) (y1 : b1 ≠ cy) (y2 : b2 ≠ cy) (y3 : b3 ≠ cy) (y4 : b4 ≠ cy) (n12 : b1 ≠ b2) (n13 : b1 ≠ b3) (n14 : b1 ≠ b4) (n23 : b2 ≠ b3) (n24 : b2 ≠ b4) (n34 : b3 ≠ b4)
    (e1 : v1 = A k) (e2 : v2 = O k) (e3 : v3 = E k) (e4 : v4 = L k) (W : World) (hW : W = ((((w.setCell ⟨b1, k, none⟩ (.bool v1)).setCell ⟨b2, k, none⟩ (.bool v2)).setCell ⟨b3, k, none⟩ (.bool v3)).setCell ⟨b4, k, none⟩ (.bool v4)).drew) :
    Below W1.heap.size W1 W ∧ Row W bx X ∧ Row W cy Y ∧ Row W b1 (mix X A (k + 1)) ∧ Row W b2 (mix X O (k + 1)) ∧ Row W b3 (mix X E (k + 1)) ∧ Row W b4 (mix X L (k + 1)) := by
  subst hW
  obtain ⟨q1, q2, q3, q4, q5, q6⟩ := round_rows h hk x1 x2 x3 x4 y1 y2 y3 y4 n12 n13 n14 n23 n24 n34 e1 e2 e3 e4
  exact ⟨((((hb.setCell (p := ⟨b1, k, none⟩) hg.1 _).setCell (p := ⟨b2, k, none⟩) hg.2.1 _).setCell (p := ⟨b3, k, none⟩) hg.2.2.1 _).setCell (p := ⟨b4, k, none⟩) hg.2.2.2 _).drew,
    q1.drew, q2.drew, q3.drew, q4.drew, q5.drew, q6.drew⟩

set_option linter.unusedSimpArgs false in
set_option maxRecDepth 100000 in
set_option maxHeartbeats 8000000 in
theorem bits_walk (h l p q : BitVec 64) (n : Int) (w : World) :
    Calls Try.prog 3 #[.agg #[.int .u64 (uv h), .int .u64 (uv l)], .agg #[.int .u64 (uv p), .int .u64 (uv q)], .int .i64 n] w fun e w' => e = .returned (.bool true) ∧ Below w.heap.size w w' := by
  go_enter Try.func3, Try.ntmps3
  go_upto_region 1 with (fail)
  go_cut [7, 8] (fun i o wc => ∃ bx by' : Nat, i = .pointer (some ⟨bx, 0, none⟩) ∧ o = .pointer (some ⟨by', 0, none⟩) ∧ Below (w.heap.size + 2) ((w.alloc (.cells #[.int .u64 (uv h), .int .u64 (uv l)] 24)).alloc (.cells #[.int .u64 (uv p), .int .u64 (uv q)] 24)) wc ∧ Row wc bx (hbit h l) ∧ Row wc by' (hbit p q) ∧ bx ≠ by' ∧ w.heap.size + 2 ≤ bx ∧ w.heap.size + 2 ≤ by')
  case first =>
    have hz := zero25
    have hi1 : (Try.prog.info? 25).map (·.size) = some (bl (hbit h l)).length := by rw [(zero_of_info info25).2, bl_len]
    have hi2 : (Try.prog.info? 25).map (·.size) = some (bl (hbit p q)).length := by rw [(zero_of_info info25).2, bl_len]
    have ho1 := bl_one (hbit h l)
    have ho2 := bl_one (hbit p q)
    have hl1 := bl_len (hbit h l)
    have hl2 := bl_len (hbit p q)
    have r1 : ∀ (X : World) (b : Nat), b = X.heap.size → (X.alloc (.cells (bl (fun _ => false)).toArray 25)).there b 0 128 := fun X b e => e ▸ th_top X
    have r2 : ∀ (X : World) (o : Obj) (b : Nat), X.there b 0 128 → (X.alloc o).there b 0 128 := fun X o b t => th_alloc t o
    have r3 : ∀ (X : World) (b c : Nat) (vs : List Value), X.there b 0 128 → (X.setCells c 0 vs).there b 0 128 := fun X b c vs t => World.there_setCells t c 0 vs
    have r6 : ∀ (X : World) (o : Obj) (b : Nat), b = X.heap.size → ((X.alloc (.cells (bl (fun _ => false)).toArray 25)).alloc o).there b 0 128 := fun X o b e => e ▸ th_alloc (th_top X) o
    have r4 : ∀ (X : World) (b : Nat), X.there b 0 128 → X.drew.there b 0 128 := fun X b t => t
    have r5 : ∀ (X : World) (o : Obj), (X.alloc o).heap.size = X.heap.size + 1 := fun X o => World.size_alloc X o
    have KB : Below (w.heap.size + 2) ((w.alloc (.cells #[.int .u64 (uv h), .int .u64 (uv l)] 24)).alloc (.cells #[.int .u64 (uv p), .int .u64 (uv q)] 24)) ((w.alloc (.cells #[.int .u64 (uv h), .int .u64 (uv l)] 24)).alloc (.cells #[.int .u64 (uv p), .int .u64 (uv q)] 24)) ∧ ((w.alloc (.cells #[.int .u64 (uv h), .int .u64 (uv l)] 24)).alloc (.cells #[.int .u64 (uv p), .int .u64 (uv q)] 24)).cell? ⟨w.heap.size, 0, none⟩ = some (.int .u64 (uv h)) ∧ ((w.alloc (.cells #[.int .u64 (uv h), .int .u64 (uv l)] 24)).alloc (.cells #[.int .u64 (uv p), .int .u64 (uv q)] 24)).cell? ⟨w.heap.size, 1, none⟩ = some (.int .u64 (uv l)) ∧ ((w.alloc (.cells #[.int .u64 (uv h), .int .u64 (uv l)] 24)).alloc (.cells #[.int .u64 (uv p), .int .u64 (uv q)] 24)).cell? ⟨(w.heap.size + 1), 0, none⟩ = some (.int .u64 (uv p)) ∧ ((w.alloc (.cells #[.int .u64 (uv h), .int .u64 (uv l)] 24)).alloc (.cells #[.int .u64 (uv p), .int .u64 (uv q)] 24)).cell? ⟨(w.heap.size + 1), 1, none⟩ = some (.int .u64 (uv q)) := ⟨Below.refl _ _, by go_simp, by go_simp, by go_simp, by go_simp⟩
    go_region_held3 (fun w' => Below (w.heap.size + 2) ((w.alloc (.cells #[.int .u64 (uv h), .int .u64 (uv l)] 24)).alloc (.cells #[.int .u64 (uv p), .int .u64 (uv q)] 24)) w' ∧ w'.cell? ⟨w.heap.size, 0, none⟩ = some (.int .u64 (uv h)) ∧ w'.cell? ⟨w.heap.size, 1, none⟩ = some (.int .u64 (uv l)) ∧ w'.cell? ⟨(w.heap.size + 1), 0, none⟩ = some (.int .u64 (uv p)) ∧ w'.cell? ⟨(w.heap.size + 1), 1, none⟩ = some (.int .u64 (uv q)))
      (first
        | (repeat (first | assumption | (refine keep4d ?_) | (refine keep4a ?_ (by simp) (by omega) (by omega)) | (refine keep4S ?_ (by first | omega | (simp; omega) | simp) (by omega) (by omega)))); done
        | exact ⟨(Below.refl _ _).drew, by go_simp, by go_simp, by go_simp, by go_simp⟩)
      (first
        | (go_at_call 8; refine (bits_c _ _ _).mono ?_; rintro e w' ⟨rfl, hb⟩; have KK := keep4c (B := w.heap.size + 2) (b := w.heap.size) (c := w.heap.size + 1) hb (by assumption) (by simp) (by omega) (by omega); have hzz := hb.size; (try simp at hzz); (try have t3 := th_carry hb t1); (try have t3 := th_carry hb (th_alloc t1 _)); (try have t4 := th_carry hb t2); (try (first | have t1 := th_carry hb (th_top _) | have t1 := th_carry hb (th_drew (th_top _)))); (try simp only [World.size_alloc] at t1); (try (first | have t2 := th_carry hb (th_alloc (th_top _) _) | have t2 := th_carry hb (th_drew (th_alloc (th_top _) _)))); (try simp only [World.size_alloc] at t2)))
    all_goals (go_wp2_with fail; go_meet)
    all_goals (refine ⟨_, _, rfl, rfl, And.left (by assumption), (two_Rows _ _ ?_ ?_ ?_).1, (two_Rows _ _ ?_ ?_ ?_).2, ?_, ?_, ?_⟩)
    all_goals (go_light; first | assumption | (simp only [*]; done) | omega | (simp; done) | (simp; omega) | (simp [*]; done))
  case rest =>
    obtain ⟨bx, by', rfl, rfl, hbc, RX, RY, nxy, gx, gy⟩ := hcut
    have BC : Below w.heap.size w wc := (((Below.refl _ w).alloc (Nat.le_refl _) _).alloc (by simp) _).trans (hbc.mono (by omega))
    have a0 : wc.cell? ⟨w.heap.size, 0, none⟩ = some (.int .u64 (uv h)) := (hbc.cell (p := ⟨w.heap.size, 0, none⟩) (by simp)).trans (by go_simp)
    have a1 : wc.cell? ⟨w.heap.size, 1, none⟩ = some (.int .u64 (uv l)) := (hbc.cell (p := ⟨w.heap.size, 1, none⟩) (by simp)).trans (by go_simp)
    have a2 : wc.cell? ⟨(w.heap.size + 1), 0, none⟩ = some (.int .u64 (uv p)) := (hbc.cell (p := ⟨w.heap.size + 1, 0, none⟩) (by simp)).trans (by go_simp)
    have a3 : wc.cell? ⟨(w.heap.size + 1), 1, none⟩ = some (.int .u64 (uv q)) := (hbc.cell (p := ⟨w.heap.size + 1, 1, none⟩) (by simp)).trans (by go_simp)
    have zc : w.heap.size + 2 ≤ wc.heap.size := by have := hbc.size; simpa using this
    obtain ⟨W1, rfl⟩ : ∃ W1 : World, W1 = wc := ⟨_, rfl⟩
    clear hbc
    go_upto_region 2 with (fail)
    go_cut [9, 10, 11, 12] (fun i1 i2 i3 i4 wd => ∃ b1 b2 b3 b4 : Nat, i1 = .pointer (some ⟨b1, 0, none⟩) ∧ i2 = .pointer (some ⟨b2, 0, none⟩) ∧ i3 = .pointer (some ⟨b3, 0, none⟩) ∧ i4 = .pointer (some ⟨b4, 0, none⟩) ∧ Below W1.heap.size W1 wd ∧ Row wd b1 (hbit h l) ∧ Row wd b2 (hbit h l) ∧ Row wd b3 (hbit h l) ∧ Row wd b4 (hbit h l) ∧
      W1.heap.size ≤ b1 ∧ W1.heap.size ≤ b2 ∧ W1.heap.size ≤ b3 ∧ W1.heap.size ≤ b4 ∧ b1 ≠ b2 ∧ b1 ≠ b3 ∧ b1 ≠ b4 ∧ b2 ≠ b3 ∧ b2 ≠ b4 ∧ b3 ≠ b4)
    case first =>
      have hz := zero25
      have hi1 : (Try.prog.info? 25).map (·.size) = some (bl (hbit h l)).length := by rw [(zero_of_info info25).2, bl_len]
      have ho1 := bl_one (hbit h l)
      have hl1 := bl_len (hbit h l)
      have hu1 := Try.underlying25
      have hrx := RX.1
      have hlx := RX.lt
      clear a0 a1 a2 a3 RX RY nxy gx gy BC zc
      have v0 : ((((W1.alloc (.cells (bl (fun _ => false)).toArray 25)).alloc (.cells (bl (fun _ => false)).toArray 25)).alloc (.cells (bl (fun _ => false)).toArray 25)).alloc (.cells (bl (fun _ => false)).toArray 25)).drew.there W1.heap.size 0 128 := th_alloc (th_alloc (th_alloc (th_top W1) _) _) _
      have v1 : ((((W1.alloc (.cells (bl (fun _ => false)).toArray 25)).alloc (.cells (bl (fun _ => false)).toArray 25)).alloc (.cells (bl (fun _ => false)).toArray 25)).alloc (.cells (bl (fun _ => false)).toArray 25)).drew.there (W1.heap.size + 1) 0 128 := by
        have := th_alloc (th_alloc (th_top (W1.alloc (.cells (bl (fun _ => false)).toArray 25))) (.cells (bl (fun _ => false)).toArray 25)) (.cells (bl (fun _ => false)).toArray 25)
        rwa [World.size_alloc] at this
      have v2 : ((((W1.alloc (.cells (bl (fun _ => false)).toArray 25)).alloc (.cells (bl (fun _ => false)).toArray 25)).alloc (.cells (bl (fun _ => false)).toArray 25)).alloc (.cells (bl (fun _ => false)).toArray 25)).drew.there (W1.heap.size + 1 + 1) 0 128 := by
        have := th_alloc (th_top ((W1.alloc (.cells (bl (fun _ => false)).toArray 25)).alloc (.cells (bl (fun _ => false)).toArray 25))) (.cells (bl (fun _ => false)).toArray 25)
        rwa [World.size_alloc, World.size_alloc] at this
      have v3 : ((((W1.alloc (.cells (bl (fun _ => false)).toArray 25)).alloc (.cells (bl (fun _ => false)).toArray 25)).alloc (.cells (bl (fun _ => false)).toArray 25)).alloc (.cells (bl (fun _ => false)).toArray 25)).drew.there (W1.heap.size + 1 + 1 + 1) 0 128 := by
        have := th_top (((W1.alloc (.cells (bl (fun _ => false)).toArray 25)).alloc (.cells (bl (fun _ => false)).toArray 25)).alloc (.cells (bl (fun _ => false)).toArray 25))
        rwa [World.size_alloc, World.size_alloc, World.size_alloc] at this
      have KB : Below W1.heap.size W1 W1 ∧ W1.rangeAt bx 0 (bl (hbit h l)) := ⟨Below.refl _ _, hrx⟩
      refine wp_region_held_drew (S := fun w' => Below W1.heap.size W1 w' ∧ w'.rangeAt bx 0 (bl (hbit h l))) (by kernel_rfl) ⟨(Below.refl _ _).drew, hrx⟩ (fun hHeld => ?_)
      refine wpAnyH_take (i := 0) (oi := ⟨some 20, _, _, _, _, _⟩) (v := .agg (bl (hbit h l)).toArray) rfl (by kernel_rfl) (by kernel_rfl) (by kernel_rfl) (fun _ _ _ h => h) (yieldsIf_load_mid (by rfl) 25 _ rfl bx 0 rfl (bl (hbit h l)) _ (fun _ hw => hw.2) hu1 rfl hi1) (by assumption) ?_
      simp only [Act.put, List.setIfInBounds_toArray, List.set_cons_zero, List.set_cons_succ]
      refine wpAnyH_take (i := 1) (oi := ⟨some 21, _, _, _, _, _⟩) (v := .agg (bl (hbit h l)).toArray) rfl (by kernel_rfl) (by kernel_rfl) (by kernel_rfl) (fun _ _ _ h => h) (yieldsIf_load_mid (by rfl) 25 _ rfl bx 0 rfl (bl (hbit h l)) _ (fun _ hw => hw.2) hu1 rfl hi1) (by assumption) ?_
      simp only [Act.put, List.setIfInBounds_toArray, List.set_cons_zero, List.set_cons_succ]
      refine wpAnyH_take (i := 2) (oi := ⟨some 22, _, _, _, _, _⟩) (v := .agg (bl (hbit h l)).toArray) rfl (by kernel_rfl) (by kernel_rfl) (by kernel_rfl) (fun _ _ _ h => h) (yieldsIf_load_mid (by rfl) 25 _ rfl bx 0 rfl (bl (hbit h l)) _ (fun _ hw => hw.2) hu1 rfl hi1) (by assumption) ?_
      simp only [Act.put, List.setIfInBounds_toArray, List.set_cons_zero, List.set_cons_succ]
      refine wpAnyH_take (i := 3) (oi := ⟨some 23, _, _, _, _, _⟩) (v := .agg (bl (hbit h l)).toArray) rfl (by kernel_rfl) (by kernel_rfl) (by kernel_rfl) (fun _ _ _ h => h) (yieldsIf_load_mid (by rfl) 25 _ rfl bx 0 rfl (bl (hbit h l)) _ (fun _ hw => hw.2) hu1 rfl hi1) (by assumption) ?_
      simp only [Act.put, List.setIfInBounds_toArray, List.set_cons_zero, List.set_cons_succ]
      (refine wpAnyH_ready (rs := [4, 5, 6, 7]) (by decide +kernel) (by simp) ?_; refine (AllReadyH.cons (o := ⟨some 9, _, _, _, _, _⟩) rfl (fun K hK => ?_) (AllReadyH.cons (o := ⟨some 10, _, _, _, _, _⟩) rfl (fun K hK => ?_) (AllReadyH.cons (o := ⟨some 11, _, _, _, _, _⟩) rfl (fun K hK => ?_) (AllReadyH.cons (o := ⟨some 12, _, _, _, _, _⟩) rfl (fun K hK => ?_) AllReadyH.nil)))))
      all_goals (go_simp; refine hK.out _ _ (by repeat (first | assumption | (refine keep1d ?_) | (refine keep1a ?_ (by omega)) | (refine keep1S ?_ (by first | omega | (simp; omega) | simp) (by omega)))) (fun hHeld => ?_); clear hK K)
      all_goals (first | (refine wpAnyH_ready (rs := [5, 6, 7]) (by decide +kernel) (by simp) ?_; refine (AllReadyH.cons (o := ⟨some 10, _, _, _, _, _⟩) rfl (fun K hK => ?_) (AllReadyH.cons (o := ⟨some 11, _, _, _, _, _⟩) rfl (fun K hK => ?_) (AllReadyH.cons (o := ⟨some 12, _, _, _, _, _⟩) rfl (fun K hK => ?_) AllReadyH.nil)))) | (refine wpAnyH_ready (rs := [4, 6, 7]) (by decide +kernel) (by simp) ?_; refine (AllReadyH.cons (o := ⟨some 9, _, _, _, _, _⟩) rfl (fun K hK => ?_) (AllReadyH.cons (o := ⟨some 11, _, _, _, _, _⟩) rfl (fun K hK => ?_) (AllReadyH.cons (o := ⟨some 12, _, _, _, _, _⟩) rfl (fun K hK => ?_) AllReadyH.nil)))) | (refine wpAnyH_ready (rs := [4, 5, 7]) (by decide +kernel) (by simp) ?_; refine (AllReadyH.cons (o := ⟨some 9, _, _, _, _, _⟩) rfl (fun K hK => ?_) (AllReadyH.cons (o := ⟨some 10, _, _, _, _, _⟩) rfl (fun K hK => ?_) (AllReadyH.cons (o := ⟨some 12, _, _, _, _, _⟩) rfl (fun K hK => ?_) AllReadyH.nil)))) | (refine wpAnyH_ready (rs := [4, 5, 6]) (by decide +kernel) (by simp) ?_; refine (AllReadyH.cons (o := ⟨some 9, _, _, _, _, _⟩) rfl (fun K hK => ?_) (AllReadyH.cons (o := ⟨some 10, _, _, _, _, _⟩) rfl (fun K hK => ?_) (AllReadyH.cons (o := ⟨some 11, _, _, _, _, _⟩) rfl (fun K hK => ?_) AllReadyH.nil)))))
      all_goals (go_simp; refine hK.out _ _ (by repeat (first | assumption | (refine keep1d ?_) | (refine keep1a ?_ (by omega)) | (refine keep1S ?_ (by first | omega | (simp; omega) | simp) (by omega)))) (fun hHeld => ?_); clear hK K)
      all_goals (first | (refine wpAnyH_ready (rs := [4, 5]) (by decide +kernel) (by simp) ?_; refine (AllReadyH.cons (o := ⟨some 9, _, _, _, _, _⟩) rfl (fun K hK => ?_) (AllReadyH.cons (o := ⟨some 10, _, _, _, _, _⟩) rfl (fun K hK => ?_) AllReadyH.nil))) | (refine wpAnyH_ready (rs := [4, 6]) (by decide +kernel) (by simp) ?_; refine (AllReadyH.cons (o := ⟨some 9, _, _, _, _, _⟩) rfl (fun K hK => ?_) (AllReadyH.cons (o := ⟨some 11, _, _, _, _, _⟩) rfl (fun K hK => ?_) AllReadyH.nil))) | (refine wpAnyH_ready (rs := [4, 7]) (by decide +kernel) (by simp) ?_; refine (AllReadyH.cons (o := ⟨some 9, _, _, _, _, _⟩) rfl (fun K hK => ?_) (AllReadyH.cons (o := ⟨some 12, _, _, _, _, _⟩) rfl (fun K hK => ?_) AllReadyH.nil))) | (refine wpAnyH_ready (rs := [5, 6]) (by decide +kernel) (by simp) ?_; refine (AllReadyH.cons (o := ⟨some 10, _, _, _, _, _⟩) rfl (fun K hK => ?_) (AllReadyH.cons (o := ⟨some 11, _, _, _, _, _⟩) rfl (fun K hK => ?_) AllReadyH.nil))) | (refine wpAnyH_ready (rs := [5, 7]) (by decide +kernel) (by simp) ?_; refine (AllReadyH.cons (o := ⟨some 10, _, _, _, _, _⟩) rfl (fun K hK => ?_) (AllReadyH.cons (o := ⟨some 12, _, _, _, _, _⟩) rfl (fun K hK => ?_) AllReadyH.nil))) | (refine wpAnyH_ready (rs := [6, 7]) (by decide +kernel) (by simp) ?_; refine (AllReadyH.cons (o := ⟨some 11, _, _, _, _, _⟩) rfl (fun K hK => ?_) (AllReadyH.cons (o := ⟨some 12, _, _, _, _, _⟩) rfl (fun K hK => ?_) AllReadyH.nil))))
      all_goals (go_simp; refine hK.out _ _ (by repeat (first | assumption | (refine keep1d ?_) | (refine keep1a ?_ (by omega)) | (refine keep1S ?_ (by first | omega | (simp; omega) | simp) (by omega)))) (fun hHeld => ?_); clear hK K)
      all_goals (first | (refine wpAnyH_ready (rs := [4]) (by decide +kernel) (by simp) ?_; refine (AllReadyH.cons (o := ⟨some 9, _, _, _, _, _⟩) rfl (fun K hK => ?_) AllReadyH.nil)) | (refine wpAnyH_ready (rs := [5]) (by decide +kernel) (by simp) ?_; refine (AllReadyH.cons (o := ⟨some 10, _, _, _, _, _⟩) rfl (fun K hK => ?_) AllReadyH.nil)) | (refine wpAnyH_ready (rs := [6]) (by decide +kernel) (by simp) ?_; refine (AllReadyH.cons (o := ⟨some 11, _, _, _, _, _⟩) rfl (fun K hK => ?_) AllReadyH.nil)) | (refine wpAnyH_ready (rs := [7]) (by decide +kernel) (by simp) ?_; refine (AllReadyH.cons (o := ⟨some 12, _, _, _, _, _⟩) rfl (fun K hK => ?_) AllReadyH.nil)))
      all_goals (go_simp; refine hK.out _ _ (by repeat (first | assumption | (refine keep1d ?_) | (refine keep1a ?_ (by omega)) | (refine keep1S ?_ (by first | omega | (simp; omega) | simp) (by omega)))) (fun hHeld => ?_); clear hK K)
      all_goals (refine wpAnyH_ready (rs := [8]) (by decide +kernel) (by simp) ?_; refine (AllReadyH.cons (o := ⟨none, _, _, _, _, _⟩) rfl (fun K hK => ?_) AllReadyH.nil))
      all_goals (rw [if_pos (by rfl)]; refine wp_store_mid 25 _ _ rfl _ 0 (bl (hbit h l)).toArray rfl rfl (by rw [bl_size]; repeat (first | assumption | refine World.there_setCells ?_ _ _ _)) (size25 _) (all_oneCell_toArray ho1) ?_; simp only [Act.put, List.toList_toArray]; refine hK.out _ _ (by repeat (first | assumption | (refine keep1d ?_) | (refine keep1a ?_ (by omega)) | (refine keep1S ?_ (by first | omega | (simp; omega) | simp) (by omega)))) (fun hHeld => ?_); clear hK K)
      all_goals (refine wpAnyH_ready (rs := [9]) (by decide +kernel) (by simp) ?_; refine (AllReadyH.cons (o := ⟨none, _, _, _, _, _⟩) rfl (fun K hK => ?_) AllReadyH.nil))
      all_goals (rw [if_pos (by rfl)]; refine wp_store_mid 25 _ _ rfl _ 0 (bl (hbit h l)).toArray rfl rfl (by rw [bl_size]; repeat (first | assumption | refine World.there_setCells ?_ _ _ _)) (size25 _) (all_oneCell_toArray ho1) ?_; simp only [Act.put, List.toList_toArray]; refine hK.out _ _ (by repeat (first | assumption | (refine keep1d ?_) | (refine keep1a ?_ (by omega)) | (refine keep1S ?_ (by first | omega | (simp; omega) | simp) (by omega)))) (fun hHeld => ?_); clear hK K)
      all_goals (refine wpAnyH_ready (rs := [10]) (by decide +kernel) (by simp) ?_; refine (AllReadyH.cons (o := ⟨none, _, _, _, _, _⟩) rfl (fun K hK => ?_) AllReadyH.nil))
      all_goals (rw [if_pos (by rfl)]; refine wp_store_mid 25 _ _ rfl _ 0 (bl (hbit h l)).toArray rfl rfl (by rw [bl_size]; repeat (first | assumption | refine World.there_setCells ?_ _ _ _)) (size25 _) (all_oneCell_toArray ho1) ?_; simp only [Act.put, List.toList_toArray]; refine hK.out _ _ (by repeat (first | assumption | (refine keep1d ?_) | (refine keep1a ?_ (by omega)) | (refine keep1S ?_ (by first | omega | (simp; omega) | simp) (by omega)))) (fun hHeld => ?_); clear hK K)
      all_goals (refine wpAnyH_ready (rs := [11]) (by decide +kernel) (by simp) ?_; refine (AllReadyH.cons (o := ⟨none, _, _, _, _, _⟩) rfl (fun K hK => ?_) AllReadyH.nil))
      all_goals (rw [if_pos (by rfl)]; refine wp_store_mid 25 _ _ rfl _ 0 (bl (hbit h l)).toArray rfl rfl (by rw [bl_size]; repeat (first | assumption | refine World.there_setCells ?_ _ _ _)) (size25 _) (all_oneCell_toArray ho1) ?_; simp only [Act.put, List.toList_toArray]; refine hK.out _ _ (by repeat (first | assumption | (refine keep1d ?_) | (refine keep1a ?_ (by omega)) | (refine keep1S ?_ (by first | omega | (simp; omega) | simp) (by omega)))) (fun hHeld => ?_); clear hK K)
      all_goals (refine wpAnyH_done (by kernel_rfl) ?_ _)
      all_goals (go_wp2_with fail; go_meet)
      all_goals (refine ⟨_, _, _, _, rfl, rfl, rfl, rfl, ?_⟩)
      all_goals exact pack4 _ (And.left (by assumption)) (by assumption) (by assumption) (by assumption) (by assumption) (by omega) (by omega) (by omega) (by omega) (by omega) (by omega) (by omega) (by omega) (by omega) (by omega)
    case rest =>
      obtain ⟨b1, b2, b3, b4, rfl, rfl, rfl, rfl, hbd, R1, R2, R3, R4, g1, g2, g3, g4, n12, n13, n14, n23, n24, n34⟩ := hcut
      have lx := RX.lt
      have ly := RY.lt
      have SX := RX.below hbd lx
      have SY := RY.below hbd ly
      have nx1 : b1 ≠ bx := by omega
      have nx2 : b2 ≠ bx := by omega
      have nx3 : b3 ≠ bx := by omega
      have nx4 : b4 ≠ bx := by omega
      have ny1 : b1 ≠ by' := by omega
      have ny2 : b2 ≠ by' := by omega
      have ny3 : b3 ≠ by' := by omega
      have ny4 : b4 ≠ by' := by omega
      have HA : Hid (W1.cell? ⟨w.heap.size, 0, none⟩ = some (.int .u64 (uv h)) ∧ W1.cell? ⟨w.heap.size, 1, none⟩ = some (.int .u64 (uv l)) ∧ W1.cell? ⟨(w.heap.size + 1), 0, none⟩ = some (.int .u64 (uv p)) ∧ W1.cell? ⟨(w.heap.size + 1), 1, none⟩ = some (.int .u64 (uv q))) := Lib.hid ⟨a0, a1, a2, a3⟩
      have HR := Lib.hid (And.intro SX (And.intro SY (And.intro R1 (And.intro R2 (And.intro R3 R4)))))
      have HBD := Lib.hid hbd
      have HBC := Lib.hid BC
      have HG := Lib.hid (And.intro g1 (And.intro g2 (And.intro g3 g4)))
      have HZC := Lib.hid (And.intro zc (And.intro lx (And.intro ly hbd.size)))
      clear a0 a1 a2 a3 SX SY R1 R2 R3 R4 hbd BC RX RY
      go_wp2_with fail
      go_loopg [13, 14] 128 (fun g c i wr => ∃ k : Nat, k ≤ 128 ∧ g = 128 - k ∧ c = .int .i64 (cnt (hbit h l) k : Nat) ∧ i = .int .i64 k ∧ Below W1.heap.size W1 wr ∧ Row wr bx (hbit h l) ∧ Row wr by' (hbit p q) ∧ Row wr b1 (mix (hbit h l) (fun j => hbit h l j && hbit p q j) k) ∧ Row wr b2 (mix (hbit h l) (fun j => hbit h l j || hbit p q j) k) ∧ Row wr b3 (mix (hbit h l) (fun j => hbit h l j ^^ hbit p q j) k) ∧ Row wr b4 (mix (hbit h l) (fun j => hbit h l j && !hbit p q j) k))
      case atStart => exact ⟨0, by omega, rfl, rfl, rfl, HBD.out, by rw [mix_zero, mix_zero, mix_zero, mix_zero]; exact HR.out⟩
      case round =>
        obtain ⟨k, hk, rfl, rfl, rfl, hbr, hrows⟩ := hrel
        have HBR := Lib.hid hbr
        have HROWS := Lib.hid hrows
        clear HR HBD
        by_cases hlt : k < 128
        · have hlt' : (k : Int) < 128 := by omega
          have cl := cnt_le (hbit h l) k
          have cx := hrows.1.cell hlt
          have cy := hrows.2.1.cell hlt
          have c1 := hrows.2.2.1.cell hlt
          have c2 := hrows.2.2.2.1.cell hlt
          have c3 := hrows.2.2.2.2.1.cell hlt
          have c4 := hrows.2.2.2.2.2.cell hlt
          have f1 := hrows.2.2.1.froz hlt
          have f2 := hrows.2.2.2.1.froz hlt
          have f3 := hrows.2.2.2.2.1.froz hlt
          have f4 := hrows.2.2.2.2.2.froz hlt
          clear hrows hbr
          have ec : cnt (hbit h l) (k + 1) = cnt (hbit h l) k + (hbit h l k).toNat := rfl
          have EC := Lib.hid ec
          clear ec lx ly g1 g2 g3 g4 nxy gx gy zc hk
          cases h1 : hbit h l k <;> cases h2 : hbit p q k
          all_goals (rw [h1] at cx; rw [h2] at cy; rw [h1] at EC; have H1 := Lib.hid h1; have H2 := Lib.hid h2; clear h1 h2)
          all_goals go_wp2_with fail
          all_goals go_region_held3 (fun w' => w'.cell? ⟨bx, k, none⟩ = wr.cell? ⟨bx, k, none⟩ ∧ w'.cell? ⟨by', k, none⟩ = wr.cell? ⟨by', k, none⟩)
            (first
              | exact ⟨rfl, rfl⟩
              | (constructor <;> simp [*, World.cell?_setCell_far] <;> done))
            (fail)
          all_goals go_wp2
          · go_roundg (128 - (k + 1))
            case measure => omega
            case rel =>
              go_light
              refine ⟨k + 1, by omega, rfl, ?_, ?_, ?_⟩
              · rw [EC.out]; simp
              · go_num
              · exact round_all false false false false HBR.out HG.out HROWS.out hlt nx1 nx2 nx3 nx4 ny1 ny2 ny3 ny4 n12 n13 n14 n23 n24 n34 (by rw [H1.out, H2.out]; rfl) (by rw [H1.out, H2.out]; rfl) (by rw [H1.out, H2.out]; rfl) (by rw [H1.out, H2.out]; rfl) _ rfl
          · go_roundg (128 - (k + 1))
            case measure => omega
            case rel =>
              go_light
              refine ⟨k + 1, by omega, rfl, ?_, ?_, ?_⟩
              · rw [EC.out]; simp
              · go_num
              · exact round_all false true true false HBR.out HG.out HROWS.out hlt nx1 nx2 nx3 nx4 ny1 ny2 ny3 ny4 n12 n13 n14 n23 n24 n34 (by rw [H1.out, H2.out]; rfl) (by rw [H1.out, H2.out]; rfl) (by rw [H1.out, H2.out]; rfl) (by rw [H1.out, H2.out]; rfl) _ rfl
          · go_roundg (128 - (k + 1))
            case measure => omega
            case rel =>
              go_light
              refine ⟨k + 1, by omega, rfl, ?_, ?_, ?_⟩
              · rw [EC.out]; simp
              · go_num
              · exact round_all false true true true HBR.out HG.out HROWS.out hlt nx1 nx2 nx3 nx4 ny1 ny2 ny3 ny4 n12 n13 n14 n23 n24 n34 (by rw [H1.out, H2.out]; rfl) (by rw [H1.out, H2.out]; rfl) (by rw [H1.out, H2.out]; rfl) (by rw [H1.out, H2.out]; rfl) _ rfl
          · go_roundg (128 - (k + 1))
            case measure => omega
            case rel =>
              go_light
              refine ⟨k + 1, by omega, rfl, ?_, ?_, ?_⟩
              · rw [EC.out]; simp
              · go_num
              · exact round_all true true false false HBR.out HG.out HROWS.out hlt nx1 nx2 nx3 nx4 ny1 ny2 ny3 ny4 n12 n13 n14 n23 n24 n34 (by rw [H1.out, H2.out]; rfl) (by rw [H1.out, H2.out]; rfl) (by rw [H1.out, H2.out]; rfl) (by rw [H1.out, H2.out]; rfl) _ rfl
        · obtain rfl : k = 128 := by omega
          obtain ⟨SX, _, q1, q2, q3, q4⟩ := hrows
          have M1 : Row wr b1 (fun j => hbit h l j && hbit p q j) := q1.congr (mix_all _ _)
          have M2 : Row wr b2 (fun j => hbit h l j || hbit p q j) := q2.congr (mix_all _ _)
          have M3 : Row wr b3 (fun j => hbit h l j ^^ hbit p q j) := q3.congr (mix_all _ _)
          have M4 : Row wr b4 (fun j => hbit h l j && !hbit p q j) := q4.congr (mix_all _ _)
          have hz := HZC.out
          have a0 : wr.cell? ⟨w.heap.size, 0, none⟩ = some (.int .u64 (uv h)) := (hbr.cell (p := ⟨w.heap.size, 0, none⟩) (by simp; omega)).trans HA.out.1
          have a1 : wr.cell? ⟨w.heap.size, 1, none⟩ = some (.int .u64 (uv l)) := (hbr.cell (p := ⟨w.heap.size, 1, none⟩) (by simp; omega)).trans HA.out.2.1
          have a2 : wr.cell? ⟨(w.heap.size + 1), 0, none⟩ = some (.int .u64 (uv p)) := (hbr.cell (p := ⟨w.heap.size + 1, 0, none⟩) (by simp; omega)).trans HA.out.2.2.1
          have a3 : wr.cell? ⟨(w.heap.size + 1), 1, none⟩ = some (.int .u64 (uv q)) := (hbr.cell (p := ⟨w.heap.size + 1, 1, none⟩) (by simp; omega)).trans HA.out.2.2.2
          have BW : Below w.heap.size w wr := HBC.out.trans (hbr.mono HBC.out.size)
          have HS : Hid (Row wr bx (hbit h l)) := Lib.hid SX
          have HBW := Lib.hid BW
          have HM := Lib.hid (And.intro M1.1 (And.intro M2.1 (And.intro M3.1 M4.1)))
          have HP : Hid (wr.cell? ⟨w.heap.size, 0, none⟩ = some (.int .u64 (uv h)) ∧ wr.cell? ⟨w.heap.size, 1, none⟩ = some (.int .u64 (uv l)) ∧ wr.cell? ⟨(w.heap.size + 1), 0, none⟩ = some (.int .u64 (uv p)) ∧ wr.cell? ⟨(w.heap.size + 1), 1, none⟩ = some (.int .u64 (uv q))) := Lib.hid ⟨a0, a1, a2, a3⟩
          clear SX q1 q2 q3 q4 M1 M2 M3 M4 hz a0 a1 a2 a3 BW hbr HBR HROWS HA HG HZC HBC hlt hk lx ly g1 g2 g3 g4 nxy gx gy zc n12 n13 n14 n23 n24 n34 nx1 nx2 nx3 nx4 ny1 ny2 ny3 ny4
          obtain ⟨W3, rfl⟩ : ∃ W3 : World, W3 = wr := ⟨_, rfl⟩
          go_upto_region 13 with (fail)
          go_cut [15] (fun b wd => b = .bool (bitI h l n) ∧ W3 = wd)
          case first =>
            by_cases c0 : 0 ≤ n
            · by_cases c1 : n < 128
              · obtain ⟨m, rfl⟩ := Int.eq_ofNat_of_zero_le c0
                have hm : m < 128 := by omega
                have e1 := and127i m hm
                have cx := HS.out.cell hm
                go_wp2
                go_meet
                exact ⟨by unfold bitI; rw [if_pos ⟨c0, c1⟩]; rfl, rfl⟩
              · go_wp2
                go_meet
                exact ⟨by unfold bitI; rw [if_neg (by omega)], rfl⟩
            · go_wp2
              go_meet
              exact ⟨by unfold bitI; rw [if_neg (by omega)], rfl⟩
          case rest =>
            obtain ⟨rfl, rfl⟩ := hcut
            obtain ⟨a0, a1, a2, a3⟩ := HP.out
            obtain ⟨m1, m2, m3, m4⟩ := HM.out
            have hu1 := Try.underlying25
            have hi1 : ∀ f : Nat → Bool, (Try.prog.info? 25).map (·.size) = some (bl f).length := fun f => by rw [(zero_of_info info25).2, bl_len]
            clear HS
            go_wp2_with fail
            refine wp_region_held_drew (S := fun w' => Below W3.heap.size W3 w' ∧ (w'.cell? ⟨w.heap.size, 0, none⟩ = some (.int .u64 (uv h)) ∧ w'.cell? ⟨w.heap.size, 1, none⟩ = some (.int .u64 (uv l))) ∧ (w'.cell? ⟨(w.heap.size + 1), 0, none⟩ = some (.int .u64 (uv p)) ∧ w'.cell? ⟨(w.heap.size + 1), 1, none⟩ = some (.int .u64 (uv q))) ∧ w'.rangeAt b1 0 (bl (fun j => hbit h l j && hbit p q j)) ∧ w'.rangeAt b2 0 (bl (fun j => hbit h l j || hbit p q j)) ∧ w'.rangeAt b3 0 (bl (fun j => hbit h l j ^^ hbit p q j)) ∧ w'.rangeAt b4 0 (bl (fun j => hbit h l j && !hbit p q j))) (by kernel_rfl) ⟨(Below.refl _ _).drew, ⟨a0, a1⟩, ⟨a2, a3⟩, m1, m2, m3, m4⟩ (fun hHeld => ?_)
            refine wpAnyH_ready (rs := [0]) (by kernel_rfl) (by simp) ?_
            refine AllReadyH.cons (o := ⟨some 85, _, _, _, _, _⟩) rfl (fun K hK => ?_) AllReadyH.nil
            go_simp
            refine (awake_c _).mono ?_
            rintro e w5 ⟨rfl, hb⟩
            (try dsimp only)
            refine hK.out _ _ (keep8 hb hHeld) (fun hNext => ?_)
            clear hK K hHeld hb
            have hHeld := hNext
            clear hNext
            try simp only [Act.put, List.setIfInBounds_toArray, List.set_cons_zero, List.set_cons_succ]
            refine wpAnyH_take (i := 1) (oi := ⟨some 86, _, _, _, _, _⟩) (v := .bool true) rfl (by kernel_rfl) (by kernel_rfl) (by kernel_rfl) (fun _ _ _ h => h) (Or.inl ⟨by rfl, fun w' hSw => by (try dsimp only at hSw); go_simp⟩) hHeld ?_
            simp only [Act.put, List.setIfInBounds_toArray, List.set_cons_zero, List.set_cons_succ]
            refine wpAnyH_take (i := 2) (oi := ⟨some 87, _, _, _, _, _⟩) (v := .agg #[.int .u64 (uv h), .int .u64 (uv l)]) rfl (by kernel_rfl) (by kernel_rfl) (by kernel_rfl) (fun _ _ _ h => h) (Or.inl ⟨by rfl, fun w' hSw => by (try dsimp only at hSw); go_simp⟩) hHeld ?_
            simp only [Act.put, List.setIfInBounds_toArray, List.set_cons_zero, List.set_cons_succ]
            refine wpAnyH_take (i := 3) (oi := ⟨some 88, _, _, _, _, _⟩) (v := .agg #[.int .u64 (uv p), .int .u64 (uv q)]) rfl (by kernel_rfl) (by kernel_rfl) (by kernel_rfl) (fun _ _ _ h => h) (Or.inl ⟨by rfl, fun w' hSw => by (try dsimp only at hSw); go_simp⟩) hHeld ?_
            simp only [Act.put, List.setIfInBounds_toArray, List.set_cons_zero, List.set_cons_succ]
            refine wpAnyH_take (i := 5) (oi := ⟨some 90, _, _, _, _, _⟩) (v := .agg (bl (fun j => hbit h l j && hbit p q j)).toArray) rfl (by kernel_rfl) (by kernel_rfl) (by kernel_rfl) (fun _ _ _ h => h) (yieldsIf_load_mid (by rfl) 25 _ rfl b1 0 rfl (bl (fun j => hbit h l j && hbit p q j)) _ (fun _ hw => hw.2.2.2.1) hu1 rfl (hi1 _)) hHeld ?_
            simp only [Act.put, List.setIfInBounds_toArray, List.set_cons_zero, List.set_cons_succ]
            refine wpAnyH_ready (rs := [4]) (by kernel_rfl) (by simp) ?_
            refine AllReadyH.cons (o := ⟨some 89, _, _, _, _, _⟩) rfl (fun K hK => ?_) AllReadyH.nil
            go_simp
            refine (and_c h l p q _).mono ?_
            rintro e w5 ⟨rfl, hb⟩
            (try dsimp only)
            refine hK.out _ _ (keep8 hb hHeld) (fun hNext => ?_)
            clear hK K hHeld hb
            have hHeld := hNext
            clear hNext
            try simp only [Act.put, List.setIfInBounds_toArray, List.set_cons_zero, List.set_cons_succ]
            refine wpAnyH_ready (rs := [6]) (by kernel_rfl) (by simp) ?_
            refine AllReadyH.cons (o := ⟨some 91, _, _, _, _, _⟩) rfl (fun K hK => ?_) AllReadyH.nil
            go_simp
            refine (ref_and h l p q _).mono ?_
            rintro e w5 ⟨rfl, hb⟩
            (try dsimp only)
            refine hK.out _ _ (keep8 hb hHeld) (fun hNext => ?_)
            clear hK K hHeld hb
            have hHeld := hNext
            clear hNext
            try simp only [Act.put, List.setIfInBounds_toArray, List.set_cons_zero, List.set_cons_succ]
            refine wpAnyH_take (i := 7) (oi := ⟨some 92, _, _, _, _, _⟩) (v := .bool true) rfl (by kernel_rfl) (by kernel_rfl) (by kernel_rfl) (fun _ _ _ h => h) (Or.inl ⟨by rfl, fun w' hSw => by (try dsimp only at hSw); go_simp⟩) hHeld ?_
            simp only [Act.put, List.setIfInBounds_toArray, List.set_cons_zero, List.set_cons_succ]
            refine wpAnyH_take (i := 8) (oi := ⟨some 93, _, _, _, _, _⟩) (v := .bool true) rfl (by kernel_rfl) (by kernel_rfl) (by kernel_rfl) (fun _ _ _ h => h) (Or.inl ⟨by rfl, fun w' hSw => by (try dsimp only at hSw); go_simp⟩) hHeld ?_
            simp only [Act.put, List.setIfInBounds_toArray, List.set_cons_zero, List.set_cons_succ]
            refine wpAnyH_take (i := 9) (oi := ⟨some 94, _, _, _, _, _⟩) (v := .bool true) rfl (by kernel_rfl) (by kernel_rfl) (by kernel_rfl) (fun _ _ _ h => h) (Or.inl ⟨by rfl, fun w' hSw => by (try dsimp only at hSw); go_simp⟩) hHeld ?_
            simp only [Act.put, List.setIfInBounds_toArray, List.set_cons_zero, List.set_cons_succ]
            refine wpAnyH_take (i := 10) (oi := ⟨some 95, _, _, _, _, _⟩) (v := .agg #[.int .u64 (uv h), .int .u64 (uv l)]) rfl (by kernel_rfl) (by kernel_rfl) (by kernel_rfl) (fun _ _ _ h => h) (Or.inl ⟨by rfl, fun w' hSw => by (try dsimp only at hSw); go_simp⟩) hHeld ?_
            simp only [Act.put, List.setIfInBounds_toArray, List.set_cons_zero, List.set_cons_succ]
            refine wpAnyH_take (i := 11) (oi := ⟨some 96, _, _, _, _, _⟩) (v := .agg #[.int .u64 (uv p), .int .u64 (uv q)]) rfl (by kernel_rfl) (by kernel_rfl) (by kernel_rfl) (fun _ _ _ h => h) (Or.inl ⟨by rfl, fun w' hSw => by (try dsimp only at hSw); go_simp⟩) hHeld ?_
            simp only [Act.put, List.setIfInBounds_toArray, List.set_cons_zero, List.set_cons_succ]
            refine wpAnyH_take (i := 13) (oi := ⟨some 98, _, _, _, _, _⟩) (v := .agg (bl (fun j => hbit h l j || hbit p q j)).toArray) rfl (by kernel_rfl) (by kernel_rfl) (by kernel_rfl) (fun _ _ _ h => h) (yieldsIf_load_mid (by rfl) 25 _ rfl b2 0 rfl (bl (fun j => hbit h l j || hbit p q j)) _ (fun _ hw => hw.2.2.2.2.1) hu1 rfl (hi1 _)) hHeld ?_
            simp only [Act.put, List.setIfInBounds_toArray, List.set_cons_zero, List.set_cons_succ]
            refine wpAnyH_ready (rs := [12]) (by kernel_rfl) (by simp) ?_
            refine AllReadyH.cons (o := ⟨some 97, _, _, _, _, _⟩) rfl (fun K hK => ?_) AllReadyH.nil
            go_simp
            refine (or_c h l p q _).mono ?_
            rintro e w5 ⟨rfl, hb⟩
            (try dsimp only)
            refine hK.out _ _ (keep8 hb hHeld) (fun hNext => ?_)
            clear hK K hHeld hb
            have hHeld := hNext
            clear hNext
            try simp only [Act.put, List.setIfInBounds_toArray, List.set_cons_zero, List.set_cons_succ]
            refine wpAnyH_ready (rs := [14]) (by kernel_rfl) (by simp) ?_
            refine AllReadyH.cons (o := ⟨some 99, _, _, _, _, _⟩) rfl (fun K hK => ?_) AllReadyH.nil
            go_simp
            refine (ref_or h l p q _).mono ?_
            rintro e w5 ⟨rfl, hb⟩
            (try dsimp only)
            refine hK.out _ _ (keep8 hb hHeld) (fun hNext => ?_)
            clear hK K hHeld hb
            have hHeld := hNext
            clear hNext
            try simp only [Act.put, List.setIfInBounds_toArray, List.set_cons_zero, List.set_cons_succ]
            refine wpAnyH_take (i := 15) (oi := ⟨some 100, _, _, _, _, _⟩) (v := .bool true) rfl (by kernel_rfl) (by kernel_rfl) (by kernel_rfl) (fun _ _ _ h => h) (Or.inl ⟨by rfl, fun w' hSw => by (try dsimp only at hSw); go_simp⟩) hHeld ?_
            simp only [Act.put, List.setIfInBounds_toArray, List.set_cons_zero, List.set_cons_succ]
            refine wpAnyH_take (i := 16) (oi := ⟨some 101, _, _, _, _, _⟩) (v := .bool true) rfl (by kernel_rfl) (by kernel_rfl) (by kernel_rfl) (fun _ _ _ h => h) (Or.inl ⟨by rfl, fun w' hSw => by (try dsimp only at hSw); go_simp⟩) hHeld ?_
            simp only [Act.put, List.setIfInBounds_toArray, List.set_cons_zero, List.set_cons_succ]
            refine wpAnyH_take (i := 17) (oi := ⟨some 102, _, _, _, _, _⟩) (v := .bool true) rfl (by kernel_rfl) (by kernel_rfl) (by kernel_rfl) (fun _ _ _ h => h) (Or.inl ⟨by rfl, fun w' hSw => by (try dsimp only at hSw); go_simp⟩) hHeld ?_
            simp only [Act.put, List.setIfInBounds_toArray, List.set_cons_zero, List.set_cons_succ]
            refine wpAnyH_take (i := 18) (oi := ⟨some 103, _, _, _, _, _⟩) (v := .agg #[.int .u64 (uv h), .int .u64 (uv l)]) rfl (by kernel_rfl) (by kernel_rfl) (by kernel_rfl) (fun _ _ _ h => h) (Or.inl ⟨by rfl, fun w' hSw => by (try dsimp only at hSw); go_simp⟩) hHeld ?_
            simp only [Act.put, List.setIfInBounds_toArray, List.set_cons_zero, List.set_cons_succ]
            refine wpAnyH_take (i := 19) (oi := ⟨some 104, _, _, _, _, _⟩) (v := .agg #[.int .u64 (uv p), .int .u64 (uv q)]) rfl (by kernel_rfl) (by kernel_rfl) (by kernel_rfl) (fun _ _ _ h => h) (Or.inl ⟨by rfl, fun w' hSw => by (try dsimp only at hSw); go_simp⟩) hHeld ?_
            simp only [Act.put, List.setIfInBounds_toArray, List.set_cons_zero, List.set_cons_succ]
            refine wpAnyH_take (i := 21) (oi := ⟨some 106, _, _, _, _, _⟩) (v := .agg (bl (fun j => hbit h l j ^^ hbit p q j)).toArray) rfl (by kernel_rfl) (by kernel_rfl) (by kernel_rfl) (fun _ _ _ h => h) (yieldsIf_load_mid (by rfl) 25 _ rfl b3 0 rfl (bl (fun j => hbit h l j ^^ hbit p q j)) _ (fun _ hw => hw.2.2.2.2.2.1) hu1 rfl (hi1 _)) hHeld ?_
            simp only [Act.put, List.setIfInBounds_toArray, List.set_cons_zero, List.set_cons_succ]
            refine wpAnyH_ready (rs := [20]) (by kernel_rfl) (by simp) ?_
            refine AllReadyH.cons (o := ⟨some 105, _, _, _, _, _⟩) rfl (fun K hK => ?_) AllReadyH.nil
            go_simp
            refine (xor_c h l p q _).mono ?_
            rintro e w5 ⟨rfl, hb⟩
            (try dsimp only)
            refine hK.out _ _ (keep8 hb hHeld) (fun hNext => ?_)
            clear hK K hHeld hb
            have hHeld := hNext
            clear hNext
            try simp only [Act.put, List.setIfInBounds_toArray, List.set_cons_zero, List.set_cons_succ]
            refine wpAnyH_ready (rs := [22]) (by kernel_rfl) (by simp) ?_
            refine AllReadyH.cons (o := ⟨some 107, _, _, _, _, _⟩) rfl (fun K hK => ?_) AllReadyH.nil
            go_simp
            refine (ref_xor h l p q _).mono ?_
            rintro e w5 ⟨rfl, hb⟩
            (try dsimp only)
            refine hK.out _ _ (keep8 hb hHeld) (fun hNext => ?_)
            clear hK K hHeld hb
            have hHeld := hNext
            clear hNext
            try simp only [Act.put, List.setIfInBounds_toArray, List.set_cons_zero, List.set_cons_succ]
            refine wpAnyH_take (i := 23) (oi := ⟨some 108, _, _, _, _, _⟩) (v := .bool true) rfl (by kernel_rfl) (by kernel_rfl) (by kernel_rfl) (fun _ _ _ h => h) (Or.inl ⟨by rfl, fun w' hSw => by (try dsimp only at hSw); go_simp⟩) hHeld ?_
            simp only [Act.put, List.setIfInBounds_toArray, List.set_cons_zero, List.set_cons_succ]
            refine wpAnyH_take (i := 24) (oi := ⟨some 109, _, _, _, _, _⟩) (v := .bool true) rfl (by kernel_rfl) (by kernel_rfl) (by kernel_rfl) (fun _ _ _ h => h) (Or.inl ⟨by rfl, fun w' hSw => by (try dsimp only at hSw); go_simp⟩) hHeld ?_
            simp only [Act.put, List.setIfInBounds_toArray, List.set_cons_zero, List.set_cons_succ]
            refine wpAnyH_take (i := 25) (oi := ⟨some 110, _, _, _, _, _⟩) (v := .bool true) rfl (by kernel_rfl) (by kernel_rfl) (by kernel_rfl) (fun _ _ _ h => h) (Or.inl ⟨by rfl, fun w' hSw => by (try dsimp only at hSw); go_simp⟩) hHeld ?_
            simp only [Act.put, List.setIfInBounds_toArray, List.set_cons_zero, List.set_cons_succ]
            refine wpAnyH_take (i := 26) (oi := ⟨some 111, _, _, _, _, _⟩) (v := .agg #[.int .u64 (uv h), .int .u64 (uv l)]) rfl (by kernel_rfl) (by kernel_rfl) (by kernel_rfl) (fun _ _ _ h => h) (Or.inl ⟨by rfl, fun w' hSw => by (try dsimp only at hSw); go_simp⟩) hHeld ?_
            simp only [Act.put, List.setIfInBounds_toArray, List.set_cons_zero, List.set_cons_succ]
            refine wpAnyH_take (i := 27) (oi := ⟨some 112, _, _, _, _, _⟩) (v := .agg #[.int .u64 (uv p), .int .u64 (uv q)]) rfl (by kernel_rfl) (by kernel_rfl) (by kernel_rfl) (fun _ _ _ h => h) (Or.inl ⟨by rfl, fun w' hSw => by (try dsimp only at hSw); go_simp⟩) hHeld ?_
            simp only [Act.put, List.setIfInBounds_toArray, List.set_cons_zero, List.set_cons_succ]
            refine wpAnyH_take (i := 29) (oi := ⟨some 114, _, _, _, _, _⟩) (v := .agg (bl (fun j => hbit h l j && !hbit p q j)).toArray) rfl (by kernel_rfl) (by kernel_rfl) (by kernel_rfl) (fun _ _ _ h => h) (yieldsIf_load_mid (by rfl) 25 _ rfl b4 0 rfl (bl (fun j => hbit h l j && !hbit p q j)) _ (fun _ hw => hw.2.2.2.2.2.2) hu1 rfl (hi1 _)) hHeld ?_
            simp only [Act.put, List.setIfInBounds_toArray, List.set_cons_zero, List.set_cons_succ]
            refine wpAnyH_ready (rs := [28]) (by kernel_rfl) (by simp) ?_
            refine AllReadyH.cons (o := ⟨some 113, _, _, _, _, _⟩) rfl (fun K hK => ?_) AllReadyH.nil
            go_simp
            refine (less_c h l p q _).mono ?_
            rintro e w5 ⟨rfl, hb⟩
            (try dsimp only)
            refine hK.out _ _ (keep8 hb hHeld) (fun hNext => ?_)
            clear hK K hHeld hb
            have hHeld := hNext
            clear hNext
            try simp only [Act.put, List.setIfInBounds_toArray, List.set_cons_zero, List.set_cons_succ]
            refine wpAnyH_ready (rs := [30]) (by kernel_rfl) (by simp) ?_
            refine AllReadyH.cons (o := ⟨some 115, _, _, _, _, _⟩) rfl (fun K hK => ?_) AllReadyH.nil
            go_simp
            refine (ref_less h l p q _).mono ?_
            rintro e w5 ⟨rfl, hb⟩
            (try dsimp only)
            refine hK.out _ _ (keep8 hb hHeld) (fun hNext => ?_)
            clear hK K hHeld hb
            have hHeld := hNext
            clear hNext
            try simp only [Act.put, List.setIfInBounds_toArray, List.set_cons_zero, List.set_cons_succ]
            refine wpAnyH_take (i := 31) (oi := ⟨some 116, _, _, _, _, _⟩) (v := .bool true) rfl (by kernel_rfl) (by kernel_rfl) (by kernel_rfl) (fun _ _ _ h => h) (Or.inl ⟨by rfl, fun w' hSw => by (try dsimp only at hSw); go_simp⟩) hHeld ?_
            simp only [Act.put, List.setIfInBounds_toArray, List.set_cons_zero, List.set_cons_succ]
            refine wpAnyH_take (i := 32) (oi := ⟨some 117, _, _, _, _, _⟩) (v := .bool true) rfl (by kernel_rfl) (by kernel_rfl) (by kernel_rfl) (fun _ _ _ h => h) (Or.inl ⟨by rfl, fun w' hSw => by (try dsimp only at hSw); go_simp⟩) hHeld ?_
            simp only [Act.put, List.setIfInBounds_toArray, List.set_cons_zero, List.set_cons_succ]
            refine wpAnyH_take (i := 33) (oi := ⟨some 118, _, _, _, _, _⟩) (v := .bool true) rfl (by kernel_rfl) (by kernel_rfl) (by kernel_rfl) (fun _ _ _ h => h) (Or.inl ⟨by rfl, fun w' hSw => by (try dsimp only at hSw); go_simp⟩) hHeld ?_
            simp only [Act.put, List.setIfInBounds_toArray, List.set_cons_zero, List.set_cons_succ]
            refine wpAnyH_take (i := 34) (oi := ⟨some 119, _, _, _, _, _⟩) (v := .agg #[.int .u64 (uv h), .int .u64 (uv l)]) rfl (by kernel_rfl) (by kernel_rfl) (by kernel_rfl) (fun _ _ _ h => h) (Or.inl ⟨by rfl, fun w' hSw => by (try dsimp only at hSw); go_simp⟩) hHeld ?_
            simp only [Act.put, List.setIfInBounds_toArray, List.set_cons_zero, List.set_cons_succ]
            refine wpAnyH_take (i := 36) (oi := ⟨some 121, _, _, _, _, _⟩) (v := .int .i64 (cnt (hbit h l) 128 : Nat)) rfl (by kernel_rfl) (by kernel_rfl) (by kernel_rfl) (fun _ _ _ h => h) (Or.inl ⟨by rfl, fun w' hSw => by (try dsimp only at hSw); go_simp⟩) hHeld ?_
            simp only [Act.put, List.setIfInBounds_toArray, List.set_cons_zero, List.set_cons_succ]
            refine wpAnyH_ready (rs := [35]) (by kernel_rfl) (by simp) ?_
            refine AllReadyH.cons (o := ⟨some 120, _, _, _, _, _⟩) rfl (fun K hK => ?_) AllReadyH.nil
            go_simp
            refine (ones_cnt h l _).mono ?_
            rintro e w5 ⟨rfl, hb⟩
            (try dsimp only)
            refine hK.out _ _ (keep8 hb hHeld) (fun hNext => ?_)
            clear hK K hHeld hb
            have hHeld := hNext
            clear hNext
            try simp only [Act.put, List.setIfInBounds_toArray, List.set_cons_zero, List.set_cons_succ]
            refine wpAnyH_take (i := 37) (oi := ⟨some 122, _, _, _, _, _⟩) (v := .bool true) rfl (by kernel_rfl) (by kernel_rfl) (by kernel_rfl) (fun _ _ _ h => h) (Or.inl ⟨by rfl, fun w' hSw => by (try dsimp only at hSw); go_simp⟩) hHeld ?_
            simp only [Act.put, List.setIfInBounds_toArray, List.set_cons_zero, List.set_cons_succ]
            refine wpAnyH_take (i := 38) (oi := ⟨some 123, _, _, _, _, _⟩) (v := .bool true) rfl (by kernel_rfl) (by kernel_rfl) (by kernel_rfl) (fun _ _ _ h => h) (Or.inl ⟨by rfl, fun w' hSw => by (try dsimp only at hSw); go_simp⟩) hHeld ?_
            simp only [Act.put, List.setIfInBounds_toArray, List.set_cons_zero, List.set_cons_succ]
            refine wpAnyH_take (i := 39) (oi := ⟨some 124, _, _, _, _, _⟩) (v := .bool true) rfl (by kernel_rfl) (by kernel_rfl) (by kernel_rfl) (fun _ _ _ h => h) (Or.inl ⟨by rfl, fun w' hSw => by (try dsimp only at hSw); go_simp⟩) hHeld ?_
            simp only [Act.put, List.setIfInBounds_toArray, List.set_cons_zero, List.set_cons_succ]
            refine wpAnyH_take (i := 40) (oi := ⟨some 125, _, _, _, _, _⟩) (v := .agg #[.int .u64 (uv h), .int .u64 (uv l)]) rfl (by kernel_rfl) (by kernel_rfl) (by kernel_rfl) (fun _ _ _ h => h) (Or.inl ⟨by rfl, fun w' hSw => by (try dsimp only at hSw); go_simp⟩) hHeld ?_
            simp only [Act.put, List.setIfInBounds_toArray, List.set_cons_zero, List.set_cons_succ]
            refine wpAnyH_take (i := 41) (oi := ⟨some 126, _, _, _, _, _⟩) (v := .int .i64 n) rfl (by kernel_rfl) (by kernel_rfl) (by kernel_rfl) (fun _ _ _ h => h) (Or.inl ⟨by rfl, fun w' hSw => by (try dsimp only at hSw); go_simp⟩) hHeld ?_
            simp only [Act.put, List.setIfInBounds_toArray, List.set_cons_zero, List.set_cons_succ]
            refine wpAnyH_take (i := 43) (oi := ⟨some 128, _, _, _, _, _⟩) (v := .bool (bitI h l n)) rfl (by kernel_rfl) (by kernel_rfl) (by kernel_rfl) (fun _ _ _ h => h) (Or.inl ⟨by rfl, fun w' hSw => by (try dsimp only at hSw); go_simp⟩) hHeld ?_
            simp only [Act.put, List.setIfInBounds_toArray, List.set_cons_zero, List.set_cons_succ]
            refine wpAnyH_ready (rs := [42]) (by kernel_rfl) (by simp) ?_
            refine AllReadyH.cons (o := ⟨some 127, _, _, _, _, _⟩) rfl (fun K hK => ?_) AllReadyH.nil
            go_simp
            refine (bit_any h l n _).mono ?_
            rintro e w5 ⟨rfl, hb⟩
            (try dsimp only)
            refine hK.out _ _ (keep8 hb hHeld) (fun hNext => ?_)
            clear hK K hHeld hb
            have hHeld := hNext
            clear hNext
            try simp only [Act.put, List.setIfInBounds_toArray, List.set_cons_zero, List.set_cons_succ]
            refine wpAnyH_take (i := 44) (oi := ⟨some 129, _, _, _, _, _⟩) (v := .bool true) rfl (by kernel_rfl) (by kernel_rfl) (by kernel_rfl) (fun _ _ _ h => h) (Or.inl ⟨by rfl, fun w' hSw => by (try dsimp only at hSw); go_simp⟩) hHeld ?_
            simp only [Act.put, List.setIfInBounds_toArray, List.set_cons_zero, List.set_cons_succ]
            refine wpAnyH_take (i := 45) (oi := ⟨some 130, _, _, _, _, _⟩) (v := .bool true) rfl (by kernel_rfl) (by kernel_rfl) (by kernel_rfl) (fun _ _ _ h => h) (Or.inl ⟨by rfl, fun w' hSw => by (try dsimp only at hSw); go_simp⟩) hHeld ?_
            simp only [Act.put, List.setIfInBounds_toArray, List.set_cons_zero, List.set_cons_succ]
            refine wpAnyH_take (i := 46) (oi := ⟨some 6, _, _, _, _, _⟩) (v := .bool true) rfl (by kernel_rfl) (by kernel_rfl) (by kernel_rfl) (fun _ _ _ h => h) (Or.inl ⟨by rfl, fun w' hSw => by (try dsimp only at hSw); go_simp⟩) hHeld ?_
            simp only [Act.put, List.setIfInBounds_toArray, List.set_cons_zero, List.set_cons_succ]

            refine wpAnyH_done (by kernel_rfl) ?_ _
            go_wp2
            go_ret
            exact ⟨rfl, HBW.out.trans (hHeld.1.mono HBW.out.size)⟩
end Go.Proofs
