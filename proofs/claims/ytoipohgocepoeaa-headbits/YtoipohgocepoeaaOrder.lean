/-
  The law HeadOrder returns true for every two headers, and changes nothing that was there.
-/
import Derived.Test.YtoipohgocepoeaaRefC
import Derived.Test.YtoipohgocepoeaaArrOrd
import Derived.Test.YtoipohgocepoeaaParts
namespace Go.Proofs
open Go.RowKit Go.Proofs.Hd

/-- An array of 128 cells is there in block b, and more blocks than b are there. -/
def Th (w : World) (b : Nat) : Prop := w.there b 0 128 ∧ b < w.heap.size ∧ b ≠ w.heap.size ∧ w.heap.size ≠ b
theorem Th.mk {w : World} {b : Nat} (h : w.there b 0 128) : Th w b := by
  have hl : b < w.heap.size := by
    have := (h 0 (by omega)).1
    obtain ⟨u, hu⟩ := Option.isSome_iff_exists.1 this
    exact World.block_lt_of_cell? w ⟨b, 0 + 0, none⟩ hu
  exact ⟨h, hl, Nat.ne_of_lt hl, Nat.ne_of_gt hl⟩
theorem th_lt {w : World} {b : Nat} (h : w.there b 0 128) : b < w.heap.size := (Th.mk h).2.1
theorem th_carry {W w' : World} {b : Nat} (hb : Below W.heap.size W w') (h : W.there b 0 128) : w'.there b 0 128 := there_below hb h (th_lt h)
theorem th_alloc {W : World} {b : Nat} (h : W.there b 0 128) (o : Obj) : (W.alloc o).there b 0 128 := World.there_alloc h o
theorem th_top (X : World) : (X.alloc (.cells (bl (fun _ => false)).toArray 25)).there X.heap.size 0 128 := there_of_alloc X _ 25
theorem th_drew {W : World} {b : Nat} (h : W.there b 0 128) : W.drew.there b 0 128 := h
theorem keep4S {B b c p o : Nat} {x y z u : Option Value} {W0 w1 : World} {vs : List Value} (h : Below B W0 w1 ∧ w1.cell? ⟨b, 0, none⟩ = x ∧ w1.cell? ⟨b, 1, none⟩ = y ∧ w1.cell? ⟨c, 0, none⟩ = z ∧ w1.cell? ⟨c, 1, none⟩ = u) (hp : B ≤ p) (hbB : b < B) (hcB : c < B) :
    Below B W0 (w1.setCells p o vs) ∧ (w1.setCells p o vs).cell? ⟨b, 0, none⟩ = x ∧ (w1.setCells p o vs).cell? ⟨b, 1, none⟩ = y ∧ (w1.setCells p o vs).cell? ⟨c, 0, none⟩ = z ∧ (w1.setCells p o vs).cell? ⟨c, 1, none⟩ = u :=
  keep4 (Below.setCells vs o w1 (Below.refl _ _) hp) h hbB hcB
theorem two_rows {V : World} {b c : Nat} (f g : Nat → Bool) (h1 : V.there b 0 128) (h2 : V.there c 0 128) (hne : b ≠ c) :
    ((V.setCells b 0 (bl f)).setCells c 0 (bl g)).rangeAt b 0 (bl f) ∧ ((V.setCells b 0 (bl f)).setCells c 0 (bl g)).rangeAt c 0 (bl g) :=
  ⟨World.rangeAt_setCells_apart (World.rangeAt_setCells_same V b 0 (bl f) (by rw [bl_len]; exact h1)) c 0 (bl g) (Or.inl hne),
   World.rangeAt_setCells_same _ c 0 (bl g) (by rw [bl_len]; exact World.there_setCells h2 b 0 (bl f))⟩

set_option maxRecDepth 100000 in
set_option maxHeartbeats 4000000 in
theorem order_walk (h l p q : BitVec 64) (w : World) :
    Calls Try.prog 5 #[.agg #[.int .u64 (uv h), .int .u64 (uv l)], .agg #[.int .u64 (uv p), .int .u64 (uv q)]] w fun e w' => e = .returned (.bool true) ∧ Below w.heap.size w w' := by
  go_enter Try.func5, Try.ntmps5
  go_upto_region 1 with (fail)
  go_cut [5, 6] (fun i o wc => ∃ bx by' : Nat, i = .pointer (some ⟨bx, 0, none⟩) ∧ o = .pointer (some ⟨by', 0, none⟩) ∧ Below (w.heap.size + 2) ((w.alloc (.cells #[.int .u64 (uv h), .int .u64 (uv l)] 24)).alloc (.cells #[.int .u64 (uv p), .int .u64 (uv q)] 24)) wc ∧ wc.rangeAt bx 0 (bl (hbit h l)) ∧ wc.rangeAt by' 0 (bl (hbit p q)))
  case first =>
    have hz := zero25
    have hi1 : (Try.prog.info? 25).map (·.size) = some (bl (hbit h l)).length := by rw [(zero_of_info info25).2, bl_len]
    have hi2 : (Try.prog.info? 25).map (·.size) = some (bl (hbit p q)).length := by rw [(zero_of_info info25).2, bl_len]
    have ho1 := bl_one (hbit h l)
    have ho2 := bl_one (hbit p q)
    have hl1 := bl_len (hbit h l)
    have hl2 := bl_len (hbit p q)
    have r1 : ∀ (X : World) (b : Nat), b = X.heap.size → (X.alloc (.cells (bl (fun _ => false)).toArray 25)).there b 0 128 := fun X b e => e ▸ th_top X
    have r2 : ∀ (X : World) (o : Obj) (b : Nat), X.there b 0 128 → (X.alloc o).there b 0 128 := fun X o b t => th_alloc t o
    have r3 : ∀ (X : World) (b c : Nat) (vs : List Value), X.there b 0 128 → (X.setCells c 0 vs).there b 0 128 := fun X b c vs t => World.there_setCells t c 0 vs
    have r6 : ∀ (X : World) (o : Obj) (b : Nat), b = X.heap.size → ((X.alloc (.cells (bl (fun _ => false)).toArray 25)).alloc o).there b 0 128 := fun X o b e => e ▸ th_alloc (th_top X) o
    have r4 : ∀ (X : World) (b : Nat), X.there b 0 128 → X.drew.there b 0 128 := fun X b t => t
    have r5 : ∀ (X : World) (o : Obj), (X.alloc o).heap.size = X.heap.size + 1 := fun X o => World.size_alloc X o
    have KB : Below (w.heap.size + 2) ((w.alloc (.cells #[.int .u64 (uv h), .int .u64 (uv l)] 24)).alloc (.cells #[.int .u64 (uv p), .int .u64 (uv q)] 24)) ((w.alloc (.cells #[.int .u64 (uv h), .int .u64 (uv l)] 24)).alloc (.cells #[.int .u64 (uv p), .int .u64 (uv q)] 24)) ∧ ((w.alloc (.cells #[.int .u64 (uv h), .int .u64 (uv l)] 24)).alloc (.cells #[.int .u64 (uv p), .int .u64 (uv q)] 24)).cell? ⟨w.heap.size, 0, none⟩ = some (.int .u64 (uv h)) ∧ ((w.alloc (.cells #[.int .u64 (uv h), .int .u64 (uv l)] 24)).alloc (.cells #[.int .u64 (uv p), .int .u64 (uv q)] 24)).cell? ⟨w.heap.size, 1, none⟩ = some (.int .u64 (uv l)) ∧ ((w.alloc (.cells #[.int .u64 (uv h), .int .u64 (uv l)] 24)).alloc (.cells #[.int .u64 (uv p), .int .u64 (uv q)] 24)).cell? ⟨(w.heap.size + 1), 0, none⟩ = some (.int .u64 (uv p)) ∧ ((w.alloc (.cells #[.int .u64 (uv h), .int .u64 (uv l)] 24)).alloc (.cells #[.int .u64 (uv p), .int .u64 (uv q)] 24)).cell? ⟨(w.heap.size + 1), 1, none⟩ = some (.int .u64 (uv q)) := ⟨Below.refl _ _, by go_simp, by go_simp, by go_simp, by go_simp⟩
    go_region_held3 (fun w' => Below (w.heap.size + 2) ((w.alloc (.cells #[.int .u64 (uv h), .int .u64 (uv l)] 24)).alloc (.cells #[.int .u64 (uv p), .int .u64 (uv q)] 24)) w' ∧ w'.cell? ⟨w.heap.size, 0, none⟩ = some (.int .u64 (uv h)) ∧ w'.cell? ⟨w.heap.size, 1, none⟩ = some (.int .u64 (uv l)) ∧ w'.cell? ⟨(w.heap.size + 1), 0, none⟩ = some (.int .u64 (uv p)) ∧ w'.cell? ⟨(w.heap.size + 1), 1, none⟩ = some (.int .u64 (uv q)))
      (first
        | (repeat (first | assumption | (refine keep4d ?_) | (refine keep4a ?_ (by simp) (by omega) (by omega)) | (refine keep4S ?_ (by first | omega | (simp; omega) | simp) (by omega) (by omega)))); done
        | exact ⟨(Below.refl _ _).drew, by go_simp, by go_simp, by go_simp, by go_simp⟩)
      (first
        | (go_at_call 8; refine (bits_c _ _ _).mono ?_; rintro e w' ⟨rfl, hb⟩; have KK := keep4c (B := w.heap.size + 2) (b := w.heap.size) (c := w.heap.size + 1) hb (by assumption) (by simp) (by omega) (by omega); have hzz := hb.size; (try simp at hzz); (try have t3 := th_carry hb t1); (try have t3 := th_carry hb (th_alloc t1 _)); (try have t4 := th_carry hb t2); (try (first | have t1 := th_carry hb (th_top _) | have t1 := th_carry hb (th_drew (th_top _)))); (try simp only [World.size_alloc] at t1); (try (first | have t2 := th_carry hb (th_alloc (th_top _) _) | have t2 := th_carry hb (th_drew (th_alloc (th_top _) _)))); (try simp only [World.size_alloc] at t2)))
    all_goals (go_wp2_with fail; go_meet)
    all_goals (refine ⟨_, _, rfl, rfl, And.left (by assumption), (two_rows _ _ ?_ ?_ ?_).1, (two_rows _ _ ?_ ?_ ?_).2⟩)
    all_goals (go_light; first | assumption | (simp only [*]; done) | omega | (simp; done) | (simp; omega) | (simp [*]; done))
  case rest =>
    obtain ⟨bx, by', rfl, rfl, hbc, hx, hy⟩ := hcut
    have BC : Below w.heap.size w wc := (((Below.refl _ w).alloc (Nat.le_refl _) _).alloc (by simp) _).trans (hbc.mono (by omega))
    have a0 : wc.cell? ⟨w.heap.size, 0, none⟩ = some (.int .u64 (uv h)) := (hbc.cell (p := ⟨w.heap.size, 0, none⟩) (by simp)).trans (by go_simp)
    have a1 : wc.cell? ⟨w.heap.size, 1, none⟩ = some (.int .u64 (uv l)) := (hbc.cell (p := ⟨w.heap.size, 1, none⟩) (by simp)).trans (by go_simp)
    have a2 : wc.cell? ⟨w.heap.size + 1, 0, none⟩ = some (.int .u64 (uv p)) := (hbc.cell (p := ⟨w.heap.size + 1, 0, none⟩) (by simp)).trans (by go_simp)
    have a3 : wc.cell? ⟨w.heap.size + 1, 1, none⟩ = some (.int .u64 (uv q)) := (hbc.cell (p := ⟨w.heap.size + 1, 1, none⟩) (by simp)).trans (by go_simp)
    have HX := Lib.hid hx
    have HY := Lib.hid hy
    clear hbc hx hy
    go_wp2_with fail
    go_loopg [7, 8] 128 (fun g c i wr => ∃ k : Nat, k ≤ 128 ∧ g = 128 - k ∧ c = .int .i64 (ordN (hbit h l) (hbit p q) k) ∧ i = .int .i64 k ∧ wr = wc)
    case atStart => exact ⟨0, by omega, rfl, rfl, rfl, rfl⟩
    case round =>
      obtain ⟨k, hk, rfl, rfl, rfl, rfl⟩ := hrel
      by_cases hlt : k < 128
      · have hlt' : (k : Int) < 128 := by omega
        have hx := range_cell HX.out hlt
        have hy := range_cell HY.out hlt
        have e : ordN (hbit h l) (hbit p q) (k + 1) = if (hbit h l k && !hbit p q k) = true then 1 else if (!hbit h l k && hbit p q k) = true then -1 else ordN (hbit h l) (hbit p q) k := rfl
        cases h1 : hbit h l k <;> cases h2 : hbit p q k <;> rw [h1] at hx e <;> rw [h2] at hy e <;> clear h1 h2
        all_goals simp at e
        all_goals (have E := Lib.hid e; clear e)
        all_goals go_wp2
        all_goals go_roundg (128 - (k + 1))
        all_goals (first | omega | exact ⟨k + 1, by omega, rfl, by rw [E.out], by go_num, rfl⟩)
      · obtain rfl : k = 128 := by omega
        rw [ordN_cmp]
        have cb := cmpH_bd h l p q
        have hw : IntKind.i64.wrap (- cmpH h l p q) = - cmpH h l p q := by rw [IntKind.wrap_i64]; omega
        go_wp2_with fail
        refine (awake_c _).mono ?_
        rintro e w1 ⟨rfl, hb1⟩
        have b0 := on_some hb1 a0
        have b1 := on_some hb1 a1
        have b2 := on_some hb1 a2
        have b3 := on_some hb1 a3
        go_wp2_with fail
        refine (compare_c h l p q _).mono ?_
        rintro e w2 ⟨rfl, hb2⟩
        have c0 := on_some hb2 b0
        have c1 := on_some hb2 b1
        have c2 := on_some hb2 b2
        have c3 := on_some hb2 b3
        go_wp2_with fail
        refine (compare_c p q h l _).mono ?_
        rintro e w3 ⟨rfl, hb3⟩
        rw [cmpH_neg h l p q]
        go_wp2
        go_ret
        exact ⟨rfl, ((BC.trans (hb1.mono BC.size)).trans (hb2.mono (Nat.le_trans BC.size hb1.size))).trans (hb3.mono (Nat.le_trans (Nat.le_trans BC.size hb1.size) hb2.size))⟩
end Go.Proofs
