/-
  Contracts of cube.Field: the field's cube, or an error. Conditions as each theorem lists them.
-/
import Derived.Test.YtlhbkiobgppciaaCuA
import Derived.Test.YtlhbkiobgppciaaHdD
import Derived.Test.YtlhbkiobgppciaaCuL
import Derived.Lib.Hide
namespace Go.Proofs
open Go.RowKit Go.Proofs.Hd
attribute [local go_sem] uv_nonneg

theorem put_z (a n : Nat) (v : BitVec 64) (w : World) (hn : a + n ≤ 128) (h64 : n ≤ 64) (hv : ¬ uv (low n) < uv v) :
    Calls Try.prog 39 #[.agg #[.int .u64 0, .int .u64 0], .int .i64 a, .int .i64 n, .int .u64 (uv v)] w fun e w' => e = .returned (.tuple #[.agg #[.int .u64 (uv (putH 0#64 a n v)), .int .u64 (uv (putL 0#64 a n v))], .int .i64 0]) ∧ Below w.heap.size w w' :=
  put_c 0#64 0#64 a n v w hn h64 hv
theorem mask_i (x : Int) (a n : Nat) (w : World) (hx : x = (a : Int)) (h : a + n ≤ 128) : Calls Try.prog 40 #[.int .i64 x, .int .i64 n] w fun e w' => e = .returned (.tuple #[.agg #[.int .u64 (uv (maskH a n)), .int .u64 (uv (maskL a n))], .int .i64 0]) ∧ Below w.heap.size w w' := by
  subst hx; exact mask_c a n w h

set_option maxHeartbeats 1000000 in
theorem cfield_yes (a n len : Nat) (v : BitVec 64) (w : World) (hn : a + n ≤ 128) (h64 : n ≤ 64) (hv : ¬ uv (low n) < uv v) (hl : len ≤ n) :
    Calls Try.prog 26 #[.int .i64 a, .int .i64 n, .int .u64 (uv v), .int .i64 len] w fun e w' => e = .returned (.tuple #[.agg #[.int .u64 (uv (putH 0#64 a n v &&& maskH (a + n - len) len)), .int .u64 (uv (putL 0#64 a n v &&& maskL (a + n - len) len)), .int .u64 (uv (maskH (a + n - len) len)), .int .u64 (uv (maskL (a + n - len) len))], .int .i64 0]) ∧ Below w.heap.size w w' := by
  have HV := Lib.hid hv
  clear hv
  have b0 := below1 w (.cells #[.int .u64 0, .int .u64 0, .int .u64 0, .int .u64 0] 26)
  have Z0 := zero4_new w
  go_enter Try.func26, Try.ntmps26
  go_wp2_with fail
  (with_reducible refine (put_z a n v _ hn h64 (by have := HV.out; omega)).mono ?_)
  rintro e w1 ⟨rfl, hb1⟩
  have B1 := b0.trans (hb1.mono b0.size)
  have Z1 := Zero4.on hb1 Z0
  have bl1 := below1 w1 (.cells #[.int .u64 (uv (putH 0#64 a n v)), .int .u64 (uv (putL 0#64 a n v))] 24)
  have X1 : Blk (w1.alloc (.cells #[.int .u64 (uv (putH 0#64 a n v)), .int .u64 (uv (putL 0#64 a n v))] 24)) w1.heap.size 24 (hArr (putH 0#64 a n v) (putL 0#64 a n v)) := Blk.new w1 _ _
  have B2 := B1.trans (bl1.mono B1.size)
  have Z2 := Zero4.on bl1 Z1
  clear hb1 Z0 b0 B1 Z1 bl1
  have hl' : (len : Int) ≤ n := by omega
  go_wp2_with fail
  (with_reducible refine (mask_i _ (a + n - len) len _ (by omega) (by omega)).mono ?_)
  rintro e w3 ⟨rfl, hb3⟩
  have B3 := B2.trans (hb3.mono B2.size)
  have Z3 := Zero4.on hb3 Z2
  have X3 := X1.on hb3
  have x3 := X3.two
  have l3 : w1.heap.size < w3.heap.size := X3.lt
  clear hb3 Z2 X1 B2
  have bl3 := below1 w3 (.cells #[.int .u64 (uv (maskH (a + n - len) len)), .int .u64 (uv (maskL (a + n - len) len))] 24)
  have B4 := B3.trans (bl3.mono B3.size)
  have Z4 := Zero4.on bl3 Z3
  clear Z3 B3 bl3
  go_wp2_with fail
  (with_reducible refine (make_c _ _ _ _ _).mono ?_)
  rintro e w5 ⟨rfl, hb5⟩
  have B5 := B4.trans (hb5.mono B4.size)
  have Z5 := Zero4.on hb5 Z4
  have Y5 := Z5.out
  clear Z4 B4 hb5 x3 X3
  go_wp2
  exact bodyPost_ret (v := .tuple #[.agg #[.int .u64 (uv (putH 0#64 a n v &&& maskH (a + n - len) len)), .int .u64 (uv (putL 0#64 a n v &&& maskL (a + n - len) len)), .int .u64 (uv (maskH (a + n - len) len)), .int .u64 (uv (maskL (a + n - len) len))], .int .i64 0]) (by simp [results, Try.results26, go_sem, Y5]) rfl ⟨rfl, B5.trans ((sets4 _ _ _ _ _ _).mono (Nat.le_refl _))⟩

set_option maxHeartbeats 1000000 in
theorem cfield_bad (a n : Int) (len : Int) (v : BitVec 64) (er : Int) (w : World) (her : (er != 0) = true)
    (hp : ∀ w, Calls Try.prog 39 #[.agg #[.int .u64 0, .int .u64 0], .int .i64 a, .int .i64 n, .int .u64 (uv v)] w fun e w' => e = .returned (.tuple #[.agg #[.int .u64 (uv 0#64), .int .u64 (uv 0#64)], .int .i64 er]) ∧ Below w.heap.size w w') :
    Calls Try.prog 26 #[.int .i64 a, .int .i64 n, .int .u64 (uv v), .int .i64 len] w fun e w' => e = .returned (.tuple #[.agg #[.int .u64 0, .int .u64 0, .int .u64 0, .int .u64 0], .int .i64 er]) ∧ Below w.heap.size w w' := by
  have HP := Lib.hid hp
  clear hp
  have b0 := below1 w (.cells #[.int .u64 0, .int .u64 0, .int .u64 0, .int .u64 0] 26)
  have Z0 := zero4_new w
  go_enter Try.func26, Try.ntmps26
  go_wp2_with fail
  (with_reducible refine (HP.out _).mono ?_)
  rintro e w1 ⟨rfl, hb1⟩
  have B1 := b0.trans (hb1.mono b0.size)
  have Z1 := Zero4.on hb1 Z0
  have bl1 := below1 w1 (.cells #[.int .u64 (uv 0#64), .int .u64 (uv 0#64)] 24)
  have B2 := B1.trans (bl1.mono B1.size)
  have Z2 := Zero4.on bl1 Z1
  have Y2 := Z2.out
  clear hb1 Z0 b0 B1 Z1 bl1
  go_wp2
  exact bodyPost_ret (v := .tuple #[.agg #[.int .u64 0, .int .u64 0, .int .u64 0, .int .u64 0], .int .i64 er]) (by simp [results, Try.results26, go_sem, Y2]) rfl ⟨rfl, B2.trans ((sets4 _ _ _ _ _ _).mono (Nat.le_refl _))⟩

set_option maxHeartbeats 1000000 in
theorem cfield_len (a n : Nat) (len : Int) (v : BitVec 64) (w : World) (hn : a + n ≤ 128) (h64 : n ≤ 64) (hv : ¬ uv (low n) < uv v) (hl : len < 0 ∨ (n : Int) < len) :
    Calls Try.prog 26 #[.int .i64 a, .int .i64 n, .int .u64 (uv v), .int .i64 len] w fun e w' => e = .returned (.tuple #[.agg #[.int .u64 0, .int .u64 0, .int .u64 0, .int .u64 0], .int .i64 4]) ∧ Below w.heap.size w w' := by
  have HV := Lib.hid hv
  clear hv
  rcases hl with hl | hl
  all_goals (
    have b0 := below1 w (.cells #[.int .u64 0, .int .u64 0, .int .u64 0, .int .u64 0] 26)
    have Z0 := zero4_new w
    go_enter Try.func26, Try.ntmps26
    go_wp2_with fail
    (with_reducible refine (put_z a n v _ hn h64 (by have := HV.out; omega)).mono ?_)
    rintro e w1 ⟨rfl, hb1⟩
    have B1 := b0.trans (hb1.mono b0.size)
    have Z1 := Zero4.on hb1 Z0
    have bl1 := below1 w1 (.cells #[.int .u64 (uv (putH 0#64 a n v)), .int .u64 (uv (putL 0#64 a n v))] 24)
    have B2 := B1.trans (bl1.mono B1.size)
    have Z2 := Zero4.on bl1 Z1
    have Y2 := Z2.out
    clear hb1 Z0 b0 B1 Z1 bl1
    go_wp2
    exact bodyPost_ret (v := .tuple #[.agg #[.int .u64 0, .int .u64 0, .int .u64 0, .int .u64 0], .int .i64 4]) (by simp [results, Try.results26, go_sem, Y2]) rfl ⟨rfl, B2.trans ((sets4 _ _ _ _ _ _).mono (Nat.le_refl _))⟩)
end Go.Proofs
