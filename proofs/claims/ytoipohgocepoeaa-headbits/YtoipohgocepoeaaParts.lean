/-
  The law HeadParts returns true for every header and all two bytes, and changes nothing that was there.
-/
import Derived.Test.YtoipohgocepoeaaHdF
import Derived.Test.YtoipohgocepoeaaMath
import Derived.Deep.DeepCutAuto
import Derived.Deep.Light
namespace Go.Proofs
open Go.RowKit Go.Proofs.Hd

/-- Two words lie at the head of a block. -/
theorem pair_on {B b : Nat} {x y : Option Value} {W w1 : World} (hb : Below B W w1) (h : W.cell? ⟨b, 0, none⟩ = x ∧ W.cell? ⟨b, 1, none⟩ = y) (hl : b < B) : w1.cell? ⟨b, 0, none⟩ = x ∧ w1.cell? ⟨b, 1, none⟩ = y :=
  ⟨(hb.cell (p := ⟨b, 0, none⟩) hl).trans h.1, (hb.cell (p := ⟨b, 1, none⟩) hl).trans h.2⟩

theorem fresh_top (X : World) : ((X.alloc (.cells #[.int .u64 0, .int .u64 0] 24)).cell? ⟨X.heap.size, 0, none⟩ = some (.int .u64 0) ∧ (X.alloc (.cells #[.int .u64 0, .int .u64 0] 24)).cell? ⟨X.heap.size, 1, none⟩ = some (.int .u64 0) ∧ (X.alloc (.cells #[.int .u64 0, .int .u64 0] 24)).frozen? ⟨X.heap.size, 0, none⟩ = false ∧ (X.alloc (.cells #[.int .u64 0, .int .u64 0] 24)).frozen? ⟨X.heap.size, 1, none⟩ = false ∧ X.heap.size < (X.alloc (.cells #[.int .u64 0, .int .u64 0] 24)).heap.size ∧ X.heap.size ≠ (X.alloc (.cells #[.int .u64 0, .int .u64 0] 24)).heap.size ∧ (X.alloc (.cells #[.int .u64 0, .int .u64 0] 24)).heap.size ≠ X.heap.size) := by
  refine ⟨by simp [World.cell?_alloc_new], by simp [World.cell?_alloc_new], ?_, ?_, ?_, ?_, ?_⟩ <;> simp
theorem fresh_carry {W w' : World} {b : Nat} (hb : Below W.heap.size W w') (f : (W.cell? ⟨b, 0, none⟩ = some (.int .u64 0) ∧ W.cell? ⟨b, 1, none⟩ = some (.int .u64 0) ∧ W.frozen? ⟨b, 0, none⟩ = false ∧ W.frozen? ⟨b, 1, none⟩ = false ∧ b < W.heap.size ∧ b ≠ W.heap.size ∧ W.heap.size ≠ b)) : (w'.cell? ⟨b, 0, none⟩ = some (.int .u64 0) ∧ w'.cell? ⟨b, 1, none⟩ = some (.int .u64 0) ∧ w'.frozen? ⟨b, 0, none⟩ = false ∧ w'.frozen? ⟨b, 1, none⟩ = false ∧ b < w'.heap.size ∧ b ≠ w'.heap.size ∧ w'.heap.size ≠ b) := by
  have hl : b < W.heap.size := World.block_lt_of_cell? W ⟨b, 0, none⟩ f.1
  exact ⟨(hb.cell (p := ⟨b, 0, none⟩) hl).trans f.1, (hb.cell (p := ⟨b, 1, none⟩) hl).trans f.2.1, (hb.frozen (p := ⟨b, 0, none⟩) hl).trans f.2.2.1, (hb.frozen (p := ⟨b, 1, none⟩) hl).trans f.2.2.2.1, Nat.lt_of_lt_of_le hl hb.size, Nat.ne_of_lt (Nat.lt_of_lt_of_le hl hb.size), Nat.ne_of_gt (Nat.lt_of_lt_of_le hl hb.size)⟩
theorem fresh_alloc {W : World} {b : Nat} (f : (W.cell? ⟨b, 0, none⟩ = some (.int .u64 0) ∧ W.cell? ⟨b, 1, none⟩ = some (.int .u64 0) ∧ W.frozen? ⟨b, 0, none⟩ = false ∧ W.frozen? ⟨b, 1, none⟩ = false ∧ b < W.heap.size ∧ b ≠ W.heap.size ∧ W.heap.size ≠ b)) (o : Obj) : ((W.alloc o).cell? ⟨b, 0, none⟩ = some (.int .u64 0) ∧ (W.alloc o).cell? ⟨b, 1, none⟩ = some (.int .u64 0) ∧ (W.alloc o).frozen? ⟨b, 0, none⟩ = false ∧ (W.alloc o).frozen? ⟨b, 1, none⟩ = false ∧ b < (W.alloc o).heap.size ∧ b ≠ (W.alloc o).heap.size ∧ (W.alloc o).heap.size ≠ b) :=
  fresh_carry ((Below.refl _ W).alloc (Nat.le_refl _) o) f

theorem fresh_drew {W : World} {b : Nat} (f : (W.cell? ⟨b, 0, none⟩ = some (.int .u64 0) ∧ W.cell? ⟨b, 1, none⟩ = some (.int .u64 0) ∧ W.frozen? ⟨b, 0, none⟩ = false ∧ W.frozen? ⟨b, 1, none⟩ = false ∧ b < W.heap.size ∧ b ≠ W.heap.size ∧ W.heap.size ≠ b)) : (W.drew.cell? ⟨b, 0, none⟩ = some (.int .u64 0) ∧ W.drew.cell? ⟨b, 1, none⟩ = some (.int .u64 0) ∧ W.drew.frozen? ⟨b, 0, none⟩ = false ∧ W.drew.frozen? ⟨b, 1, none⟩ = false ∧ b < W.drew.heap.size ∧ b ≠ W.drew.heap.size ∧ W.drew.heap.size ≠ b) := f

theorem mask_i (x y : Int) (w : World) (hx : 0 ≤ x) (hy : 0 ≤ y) (h : x + y ≤ 128) : Calls Try.prog 17 #[.int .i64 x, .int .i64 y] w fun e w' => e = .returned (.tuple #[.agg #[.int .u64 (uv (maskH x.toNat y.toNat)), .int .u64 (uv (maskL x.toNat y.toNat))], .int .i64 0]) ∧ Below w.heap.size w w' := by
  have := mask_c x.toNat y.toNat w (by omega)
  rwa [Int.toNat_of_nonneg hx, Int.toNat_of_nonneg hy] at this

theorem some_mask (x y : Int) (w : World) (hx : 0 ≤ x) (hy : 0 ≤ y) (h : x + y ≤ 128) : Calls Try.prog 17 #[.int .i64 x, .int .i64 y] w fun e w' => ∃ mh ml : BitVec 64, e = .returned (.tuple #[.agg #[.int .u64 (uv mh), .int .u64 (uv ml)], .int .i64 0]) ∧ Below w.heap.size w w' :=
  (mask_i x y w hx hy h).mono fun _ _ hh => ⟨_, _, hh⟩

theorem keep4 {B b c : Nat} {x y z u : Option Value} {W0 w1 w2 : World} (hb : Below B w1 w2) (h : Below B W0 w1 ∧ w1.cell? ⟨b, 0, none⟩ = x ∧ w1.cell? ⟨b, 1, none⟩ = y ∧ w1.cell? ⟨c, 0, none⟩ = z ∧ w1.cell? ⟨c, 1, none⟩ = u) (hbB : b < B) (hcB : c < B) :
    Below B W0 w2 ∧ w2.cell? ⟨b, 0, none⟩ = x ∧ w2.cell? ⟨b, 1, none⟩ = y ∧ w2.cell? ⟨c, 0, none⟩ = z ∧ w2.cell? ⟨c, 1, none⟩ = u := by
  exact ⟨h.1.trans hb, (hb.cell (p := ⟨b, 0, none⟩) hbB).trans h.2.1, (hb.cell (p := ⟨b, 1, none⟩) hbB).trans h.2.2.1, (hb.cell (p := ⟨c, 0, none⟩) hcB).trans h.2.2.2.1, (hb.cell (p := ⟨c, 1, none⟩) hcB).trans h.2.2.2.2⟩
theorem keep4c {B b c : Nat} {x y z u : Option Value} {W0 w1 w2 : World} (hb : Below w1.heap.size w1 w2) (h : Below B W0 w1 ∧ w1.cell? ⟨b, 0, none⟩ = x ∧ w1.cell? ⟨b, 1, none⟩ = y ∧ w1.cell? ⟨c, 0, none⟩ = z ∧ w1.cell? ⟨c, 1, none⟩ = u) (hB : B ≤ W0.heap.size) (hbB : b < B) (hcB : c < B) :
    Below B W0 w2 ∧ w2.cell? ⟨b, 0, none⟩ = x ∧ w2.cell? ⟨b, 1, none⟩ = y ∧ w2.cell? ⟨c, 0, none⟩ = z ∧ w2.cell? ⟨c, 1, none⟩ = u :=
  keep4 (hb.mono (Nat.le_trans hB h.1.size)) h hbB hcB
theorem keep4a {B b c : Nat} {x y z u : Option Value} {W0 w1 : World} {o : Obj} (h : Below B W0 w1 ∧ w1.cell? ⟨b, 0, none⟩ = x ∧ w1.cell? ⟨b, 1, none⟩ = y ∧ w1.cell? ⟨c, 0, none⟩ = z ∧ w1.cell? ⟨c, 1, none⟩ = u) (hB : B ≤ W0.heap.size) (hbB : b < B) (hcB : c < B) :
    Below B W0 (w1.alloc o) ∧ (w1.alloc o).cell? ⟨b, 0, none⟩ = x ∧ (w1.alloc o).cell? ⟨b, 1, none⟩ = y ∧ (w1.alloc o).cell? ⟨c, 0, none⟩ = z ∧ (w1.alloc o).cell? ⟨c, 1, none⟩ = u :=
  keep4 ((Below.refl _ _).alloc (Nat.le_trans hB h.1.size) _) h hbB hcB

theorem keep4s {B b c : Nat} {x y z u : Option Value} {W0 w1 : World} {p : Addr} {v : Value} (h : Below B W0 w1 ∧ w1.cell? ⟨b, 0, none⟩ = x ∧ w1.cell? ⟨b, 1, none⟩ = y ∧ w1.cell? ⟨c, 0, none⟩ = z ∧ w1.cell? ⟨c, 1, none⟩ = u) (hp : B ≤ p.block) (hbB : b < B) (hcB : c < B) :
    Below B W0 (w1.setCell p v) ∧ (w1.setCell p v).cell? ⟨b, 0, none⟩ = x ∧ (w1.setCell p v).cell? ⟨b, 1, none⟩ = y ∧ (w1.setCell p v).cell? ⟨c, 0, none⟩ = z ∧ (w1.setCell p v).cell? ⟨c, 1, none⟩ = u :=
  keep4 ((Below.refl _ _).setCell hp _) h hbB hcB

theorem keep4d {B b c : Nat} {x y z u : Option Value} {W0 w1 : World} (h : Below B W0 w1 ∧ w1.cell? ⟨b, 0, none⟩ = x ∧ w1.cell? ⟨b, 1, none⟩ = y ∧ w1.cell? ⟨c, 0, none⟩ = z ∧ w1.cell? ⟨c, 1, none⟩ = u) :
    Below B W0 w1.drew ∧ w1.drew.cell? ⟨b, 0, none⟩ = x ∧ w1.drew.cell? ⟨b, 1, none⟩ = y ∧ w1.drew.cell? ⟨c, 0, none⟩ = z ∧ w1.drew.cell? ⟨c, 1, none⟩ = u := ⟨h.1.drew, h.2⟩

theorem on_some {W w1 : World} {p : Addr} {v : Value} (hb : Below W.heap.size W w1) (h : W.cell? p = some v) : w1.cell? p = some v :=
  (hb.cell (World.block_lt_of_cell? W p h)).trans h
theorem or_parts (h l mh ml : BitVec 64) (w : World) : Calls Try.prog 12 #[.agg #[.int .u64 (uv (h &&& mh)), .int .u64 (uv (l &&& ml))], .agg #[.int .u64 (uv (h &&& ~~~mh)), .int .u64 (uv (l &&& ~~~ml))]] w fun e w' => e = .returned (.agg #[.int .u64 (uv h), .int .u64 (uv l)]) ∧ Below w.heap.size w w' := by
  have := or_c (h &&& mh) (l &&& ml) (h &&& ~~~mh) (l &&& ~~~ml) w
  rwa [bv_or_parts, bv_or_parts] at this
theorem xor_parts (h l mh ml : BitVec 64) (w : World) : Calls Try.prog 13 #[.agg #[.int .u64 (uv (h &&& mh)), .int .u64 (uv (l &&& ml))], .agg #[.int .u64 (uv (h &&& ~~~mh)), .int .u64 (uv (l &&& ~~~ml))]] w fun e w' => e = .returned (.agg #[.int .u64 (uv h), .int .u64 (uv l)]) ∧ Below w.heap.size w w' := by
  have := xor_c (h &&& mh) (l &&& ml) (h &&& ~~~mh) (l &&& ~~~ml) w
  rwa [bv_xor_parts, bv_xor_parts] at this
theorem and_parts (h l mh ml : BitVec 64) (w : World) : Calls Try.prog 10 #[.agg #[.int .u64 (uv (h &&& mh)), .int .u64 (uv (l &&& ml))], .agg #[.int .u64 (uv (h &&& ~~~mh)), .int .u64 (uv (l &&& ~~~ml))]] w fun e w' => e = .returned (.agg #[.int .u64 0, .int .u64 0]) ∧ Below w.heap.size w w' := by
  have := and_c (h &&& mh) (l &&& ml) (h &&& ~~~mh) (l &&& ~~~ml) w
  rw [bv_and_parts, bv_and_parts, ← uv_zero] at this
  exact this
theorem ones_in (h l mh ml : BitVec 64) (w : World) : Calls Try.prog 15 #[.agg #[.int .u64 (uv (h &&& mh)), .int .u64 (uv (l &&& ml))]] w fun e w' => e = .returned (.int .i64 (nin h l mh ml)) ∧ Below w.heap.size w w' := ones_c _ _ w
theorem ones_out (h l mh ml : BitVec 64) (w : World) : Calls Try.prog 15 #[.agg #[.int .u64 (uv (h &&& ~~~mh)), .int .u64 (uv (l &&& ~~~ml))]] w fun e w' => e = .returned (.int .i64 (nout h l mh ml)) ∧ Below w.heap.size w w' := ones_c _ _ w
theorem ones_all (h l mh ml : BitVec 64) (w : World) : Calls Try.prog 15 #[.agg #[.int .u64 (uv h), .int .u64 (uv l)]] w fun e w' => e = .returned (.int .i64 (nin h l mh ml + nout h l mh ml)) ∧ Below w.heap.size w w' := by
  have := ones_c h l w
  rwa [nin_nout h l mh ml] at this
theorem compare_in (h l mh ml : BitVec 64) (w : World) : Calls Try.prog 22 #[.agg #[.int .u64 (uv (h &&& mh)), .int .u64 (uv (l &&& ml))], .agg #[.int .u64 (uv h), .int .u64 (uv l)]] w fun e w' => e = .returned (.int .i64 (cin h l mh ml)) ∧ Below w.heap.size w w' := compare_c _ _ _ _ w
theorem keep6 {a b c : Nat} {x y z u p q : Value} {W0 w1 w2 : World} (hb : Below w1.heap.size w1 w2) (h : Below W0.heap.size W0 w1 ∧ w1.cell? ⟨a, 0, none⟩ = some x ∧ w1.cell? ⟨a, 1, none⟩ = some y ∧ w1.cell? ⟨b, 0, none⟩ = some z ∧ w1.cell? ⟨b, 1, none⟩ = some u ∧ w1.cell? ⟨c, 0, none⟩ = some p ∧ w1.cell? ⟨c, 1, none⟩ = some q) :
    Below W0.heap.size W0 w2 ∧ w2.cell? ⟨a, 0, none⟩ = some x ∧ w2.cell? ⟨a, 1, none⟩ = some y ∧ w2.cell? ⟨b, 0, none⟩ = some z ∧ w2.cell? ⟨b, 1, none⟩ = some u ∧ w2.cell? ⟨c, 0, none⟩ = some p ∧ w2.cell? ⟨c, 1, none⟩ = some q :=
  ⟨h.1.trans (hb.mono h.1.size), on_some hb h.2.1, on_some hb h.2.2.1, on_some hb h.2.2.2.1, on_some hb h.2.2.2.2.1, on_some hb h.2.2.2.2.2.1, on_some hb h.2.2.2.2.2.2⟩

set_option maxHeartbeats 4000000 in
theorem parts_walk (h l : BitVec 64) (a s : Int) (w : World) (ha : 0 ≤ a) (ha' : a ≤ 255) (hs : 0 ≤ s) (hs' : s ≤ 255) :
    Calls Try.prog 7 #[.agg #[.int .u64 (uv h), .int .u64 (uv l)], .int .u8 a, .int .u8 s] w fun e w' => e = .returned (.bool true) ∧ Below w.heap.size w w' := by
  go_enter Try.func7, Try.ntmps7
  go_wp2_with fail
  have g1 : s % 129 < 129 := Int.emod_lt_of_pos _ (by omega)
  have g2 : 0 ≤ s % 129 := Int.emod_nonneg _ (by omega)
  have g3 : a % (129 - s % 129) < 129 - s % 129 := Int.emod_lt_of_pos _ (by omega)
  have g4 : 0 ≤ a % (129 - s % 129) := Int.emod_nonneg _ (by omega)
  refine (some_mask _ _ _ g4 g2 (by omega)).mono ?_
  rintro e w1 ⟨mh, ml, rfl, hb1⟩
  generalize s % 129 = ss at *
  generalize a % (129 - ss) = aa at *
  have p1 : w1.cell? ⟨w.heap.size, 0, none⟩ = some (.int .u64 (uv h)) ∧ w1.cell? ⟨w.heap.size, 1, none⟩ = some (.int .u64 (uv l)) := pair_on hb1 (by go_simp) (by go_simp)
  obtain ⟨p2, p3⟩ := p1
  have z1 : w.heap.size < w1.heap.size := by have := hb1.size; simp at this; omega
  have B1 : Below w.heap.size w w1 := ((Below.refl _ w).alloc (Nat.le_refl _) _).trans (hb1.mono (by simp))
  clear hb1 g1 g2 g3 g4
  go_upto_region 4 with (fail)
  go_cut [11, 12] (fun i o wc => ∃ bi bo : Nat, i = .pointer (some ⟨bi, 0, none⟩) ∧ o = .pointer (some ⟨bo, 0, none⟩) ∧ Below (w1.heap.size + 1) (w1.alloc (.cells #[.int .u64 (uv mh), .int .u64 (uv ml)] 24)) wc ∧ wc.cell? ⟨bi, 0, none⟩ = some (.int .u64 (uv (h &&& mh))) ∧ wc.cell? ⟨bi, 1, none⟩ = some (.int .u64 (uv (l &&& ml))) ∧ wc.cell? ⟨bo, 0, none⟩ = some (.int .u64 (uv (h &&& ~~~mh))) ∧ wc.cell? ⟨bo, 1, none⟩ = some (.int .u64 (uv (l &&& ~~~ml))))
  case first =>
    have KB : Below (w1.heap.size + 1) (w1.alloc (.cells #[.int .u64 (uv mh), .int .u64 (uv ml)] 24)) (w1.alloc (.cells #[.int .u64 (uv mh), .int .u64 (uv ml)] 24)) ∧ (w1.alloc (.cells #[.int .u64 (uv mh), .int .u64 (uv ml)] 24)).cell? ⟨w.heap.size, 0, none⟩ = some (.int .u64 (uv h)) ∧ (w1.alloc (.cells #[.int .u64 (uv mh), .int .u64 (uv ml)] 24)).cell? ⟨w.heap.size, 1, none⟩ = some (.int .u64 (uv l)) ∧ (w1.alloc (.cells #[.int .u64 (uv mh), .int .u64 (uv ml)] 24)).cell? ⟨w1.heap.size, 0, none⟩ = some (.int .u64 (uv mh)) ∧ (w1.alloc (.cells #[.int .u64 (uv mh), .int .u64 (uv ml)] 24)).cell? ⟨w1.heap.size, 1, none⟩ = some (.int .u64 (uv ml)) := ⟨Below.refl _ _, by go_simp, by go_simp, by go_simp, by go_simp⟩
    go_region_held3 (fun w' => Below (w1.heap.size + 1) (w1.alloc (.cells #[.int .u64 (uv mh), .int .u64 (uv ml)] 24)) w' ∧ w'.cell? ⟨w.heap.size, 0, none⟩ = some (.int .u64 (uv h)) ∧ w'.cell? ⟨w.heap.size, 1, none⟩ = some (.int .u64 (uv l)) ∧ w'.cell? ⟨w1.heap.size, 0, none⟩ = some (.int .u64 (uv mh)) ∧ w'.cell? ⟨w1.heap.size, 1, none⟩ = some (.int .u64 (uv ml)))
      (first
        | (repeat (first | assumption | (refine keep4d ?_) | (refine keep4a ?_ (by simp) (by omega) (by omega)) | (refine keep4s ?_ (by simp <;> omega) (by omega) (by omega)))); done
        | exact ⟨(Below.refl _ _).drew, by go_simp, by go_simp, by go_simp, by go_simp⟩
        | go_keep)
      (first
        | (go_at_call 10; refine (and_c _ _ _ _ _).mono ?_; rintro e w' ⟨rfl, hb⟩; have KK := keep4c (B := w1.heap.size + 1) (b := w.heap.size) (c := w1.heap.size) hb (by assumption) (by simp) (by omega) (by omega); have hz := hb.size; (try simp at hz); (try have t3 := fresh_carry hb t1); (try have t3 := fresh_carry hb (fresh_alloc t1 _)); (try have t4 := fresh_carry hb t2); (try (first | have t1 := fresh_carry hb (fresh_top _) | have t1 := fresh_carry hb (fresh_drew (fresh_top _)))); (try simp only [World.size_alloc] at t1); (try (first | have t2 := fresh_carry hb (fresh_alloc (fresh_top _) _) | have t2 := fresh_carry hb (fresh_drew (fresh_alloc (fresh_top _) _)))); (try simp only [World.size_alloc] at t2))
        | (go_at_call 14; refine (less_c _ _ _ _ _).mono ?_; rintro e w' ⟨rfl, hb⟩; have KK := keep4c (B := w1.heap.size + 1) (b := w.heap.size) (c := w1.heap.size) hb (by assumption) (by simp) (by omega) (by omega); have hz := hb.size; (try simp at hz); (try have t3 := fresh_carry hb t1); (try have t3 := fresh_carry hb (fresh_alloc t1 _)); (try have t4 := fresh_carry hb t2); (try (first | have t1 := fresh_carry hb (fresh_top _) | have t1 := fresh_carry hb (fresh_drew (fresh_top _)))); (try simp only [World.size_alloc] at t1); (try (first | have t2 := fresh_carry hb (fresh_alloc (fresh_top _) _) | have t2 := fresh_carry hb (fresh_drew (fresh_alloc (fresh_top _) _)))); (try simp only [World.size_alloc] at t2)))
    all_goals (go_wp2_with fail; go_meet)
    all_goals (refine ⟨_, _, rfl, rfl, And.left (by assumption), ?_, ?_, ?_, ?_⟩)
    all_goals (go_light; go_simp)
  case rest =>
    obtain ⟨bi, bo, rfl, rfl, hbc, i0, i1, o0, o1⟩ := hcut
    have BC : Below w.heap.size w wc := (B1.alloc (by omega) _).trans (hbc.mono (by omega))
    have a0 : wc.cell? ⟨w.heap.size, 0, none⟩ = some (.int .u64 (uv h)) := (hbc.cell (p := ⟨w.heap.size, 0, none⟩) (by simp; omega)).trans (by go_simp)
    have a1 : wc.cell? ⟨w.heap.size, 1, none⟩ = some (.int .u64 (uv l)) := (hbc.cell (p := ⟨w.heap.size, 1, none⟩) (by simp; omega)).trans (by go_simp)
    have zc : w.heap.size ≤ wc.heap.size := BC.size
    clear hbc B1 z1 p2 p3
    have c1 : decide (cin h l mh ml ≤ 0) = true := by simp [cin_le]
    have n1 := nin_bd h l mh ml
    have n2 := nout_bd h l mh ml
    have hw : IntKind.i64.wrap (nin h l mh ml + nout h l mh ml) = nin h l mh ml + nout h l mh ml := by rw [IntKind.wrap_i64]; omega
    go_wp2_with fail
    go_region_held3 (fun w' => Below wc.heap.size wc w' ∧ w'.cell? ⟨w.heap.size, 0, none⟩ = some (.int .u64 (uv h)) ∧ w'.cell? ⟨w.heap.size, 1, none⟩ = some (.int .u64 (uv l)) ∧ w'.cell? ⟨bi, 0, none⟩ = some (.int .u64 (uv (h &&& mh))) ∧ w'.cell? ⟨bi, 1, none⟩ = some (.int .u64 (uv (l &&& ml))) ∧ w'.cell? ⟨bo, 0, none⟩ = some (.int .u64 (uv (h &&& ~~~mh))) ∧ w'.cell? ⟨bo, 1, none⟩ = some (.int .u64 (uv (l &&& ~~~ml))))
      (first
        | exact keep6 (by assumption) (by assumption)
        | exact ⟨(Below.refl _ _).drew, by go_simp, by go_simp, by go_simp, by go_simp, by go_simp, by go_simp⟩)
      (first
        | (go_at_call 9; (with_reducible refine (awake_c _).mono ?_); rintro e w' ⟨rfl, hb⟩)
        | (go_at_call 12; (with_reducible refine (or_parts h l mh ml _).mono ?_); rintro e w' ⟨rfl, hb⟩)
        | (go_at_call 13; (with_reducible refine (xor_parts h l mh ml _).mono ?_); rintro e w' ⟨rfl, hb⟩)
        | (go_at_call 10; (with_reducible refine (and_parts h l mh ml _).mono ?_); rintro e w' ⟨rfl, hb⟩)
        | (go_at_call 15; (with_reducible refine (ones_in h l mh ml _).mono ?_); rintro e w' ⟨rfl, hb⟩)
        | (go_at_call 15; (with_reducible refine (ones_out h l mh ml _).mono ?_); rintro e w' ⟨rfl, hb⟩)
        | (go_at_call 15; (with_reducible refine (ones_all h l mh ml _).mono ?_); rintro e w' ⟨rfl, hb⟩)
        | (go_at_call 22; (with_reducible refine (compare_in h l mh ml _).mono ?_); rintro e w' ⟨rfl, hb⟩))
    all_goals go_wp2
    all_goals go_ret
    all_goals exact ⟨rfl, BC.trans ((And.left (by assumption) : Below wc.heap.size wc _).mono zc)⟩
end Go.Proofs
