/-
  Contract: Set of the reference of layer 2: a header some bits of which are set. No conditions.
-/
import Derived.Test.YtmlammdipbkkfaaJ12Tablespare
namespace Go.Proofs
open Go.RowKit Go.Proofs.Hd
attribute [local go_sem] uv_nonneg
def setB (hh hl svh svl sch scl : BitVec 64) : Nat → Bool := fun j => if hbit sch scl j = true then hbit svh svl j else hbit hh hl j
theorem setB_num (hh hl svh svl sch scl : BitVec 64) : num (setB hh hl svh svl sch scl) 64 64 = ((hh &&& ~~~sch) ||| (svh &&& sch)) ∧ num (setB hh hl svh svl sch scl) 0 64 = ((hl &&& ~~~scl) ||| (svl &&& scl)) :=
  num_of_bits fun j hj => by
    rw [hbit_or, hbit_andNot _ _ _ _ _ hj, hbit_and]
    unfold setB
    cases hbit sch scl j <;> cases hbit svh svl j <;> cases hbit hh hl j <;> rfl
theorem mix_stay (f g : Nat → Bool) (k : Nat) (h : g k = f k) : bl (mix f g k) = bl (mix f g (k + 1)) := bl_congr fun j _ => by
  unfold mix
  by_cases e : j = k
  · subst e; rw [if_neg (by omega), if_pos (by omega), h]
  · by_cases c : j < k
    · rw [if_pos c, if_pos (by omega)]
    · rw [if_neg c, if_neg (by omega)]
theorem z2far {w : World} {r : Nat} {p : Addr} {v : Value} (h : Zero2 w r) (hp : p.block ≠ r) : Zero2 (w.setCell p v) r := fun i hi =>
  ⟨(World.cell?_setCell_far w p ⟨r, i, none⟩ v hp).trans (h i hi).1, by rw [World.frozen?_setCell]; exact (h i hi).2⟩

set_option maxRecDepth 100000 in
set_option maxHeartbeats 4000000 in
theorem rset_c (hh hl svh svl sch scl : BitVec 64) (w : World) : Calls Try.prog 21 #[.agg #[.int .u64 (uv hh), .int .u64 (uv hl)], .agg #[.int .u64 (uv svh), .int .u64 (uv svl), .int .u64 (uv sch), .int .u64 (uv scl)]] w fun e w' => e = .returned (.agg #[.int .u64 (uv ((hh &&& ~~~sch) ||| (svh &&& sch))), .int .u64 (uv ((hl &&& ~~~scl) ||| (svl &&& scl)))]) ∧ Below w.heap.size w w' := by
  have S0 := below3 w (.cells #[.int .u64 (uv hh), .int .u64 (uv hl)] 25) (.cells #[.int .u64 (uv svh), .int .u64 (uv svl), .int .u64 (uv sch), .int .u64 (uv scl)] 51) (.cells #[.int .u64 0, .int .u64 0] 25)
  have Z0 := zero2_at ((w.alloc (.cells #[.int .u64 (uv hh), .int .u64 (uv hl)] 25)).alloc (.cells #[.int .u64 (uv svh), .int .u64 (uv svl), .int .u64 (uv sch), .int .u64 (uv scl)] 51)) (w.heap.size + 1 + 1) (by simp)
  go_enter Try.func21, Try.ntmps21
  go_upto_region 1 with (fail)
  refine set_region hh hl svh svl sch scl w _ _ ?_ ?_ ⟨S0, by go_simp, by go_simp, by go_simp, by go_simp, by go_simp, by go_simp⟩ Z0
  · intro c a d v w h; exact h
  intro b8 b9 b10 u BW ZW R8 R9 R10 g8 n1 n2 n3
  clear S0 Z0
  go_wp2_with fail
  go_loopg [8] 128 (fun g i wr => ∃ k : Nat, k ≤ 128 ∧ g = 128 - k ∧ i = .int .i64 k ∧ Below w.heap.size w wr ∧ Zero2 wr (w.heap.size + 1 + 1) ∧ Row wr b8 (mix (hbit hh hl) (setB hh hl svh svl sch scl) k) ∧ Row wr b9 (hbit svh svl) ∧ Row wr b10 (hbit sch scl))
  case atStart => exact ⟨0, by omega, rfl, rfl, BW, ZW, by rw [mix_zero]; exact R8, R9, R10⟩
  case round =>
    clear BW ZW R8 R9 R10
    obtain ⟨k, hk, rfl, rfl, BW, ZW, R8, R9, R10⟩ := hrel
    by_cases hlt : k < 128
    · have hlt' : (k : Int) < 128 := by omega
      have c8 := R8.cell hlt
      have f8 := R8.froz hlt
      have c9 := R9.cell hlt
      have c10 := R10.cell hlt
      cases hK : hbit sch scl k
      · have HN : Hid (setB hh hl svh svl sch scl k = hbit hh hl k) := Lib.hid (by unfold setB; rw [hK]; rfl)
        rw [hK] at c10
        clear hK
        go_wp2
        go_roundg (128 - (k + 1))
        case measure => omega
        case rel => exact ⟨k + 1, by omega, rfl, by go_num, BW, ZW, R8.congr (mix_stay _ _ k HN.out), R9, R10⟩
      · have HN : Hid (hbit svh svl k = setB hh hl svh svl sch scl k) := Lib.hid (by unfold setB; rw [hK]; rfl)
        rw [hK] at c10
        clear hK
        go_wp2
        go_roundg (128 - (k + 1))
        case measure => omega
        case rel => exact ⟨k + 1, by omega, rfl, by go_num, BW.setCell (by dsimp only; omega) _, z2far ZW (by dsimp only; omega), R8.set hlt (mix_set _ _ k _ HN.out), R9.far (by dsimp only; omega), R10.far (by dsimp only; omega)⟩
    · obtain rfl : k = 128 := by omega
      have RX := R8.congr (mix_all _ _)
      have hi1 : (Try.prog.info? 71).map (·.size) = some (bl (setB hh hl svh svl sch scl)).length := by rw [(zero_of_info info25).2, bl_len]
      have hN := Lib.hid (setB_num hh hl svh svl sch scl)
      clear R8 R9 R10
      go_wp2_with (refine wpList_load_mid rfl 71 (.tmp 5) rfl b8 0 rfl (bl (setB hh hl svh svl sch scl)) _ RX.1 Try.underlying71 rfl hi1 ?_)
      (with_reducible refine (rhead_is (setB hh hl svh svl sch scl) _ _ _ hN.out).mono ?_)
      rintro e w1 ⟨rfl, hb⟩
      have BE := BW.trans (hb.mono BW.size)
      have Y := (Zero2.on hb ZW).out
      clear hb RX BW ZW hi1
      go_wp2
      exact bodyPost_ret (v := .agg #[.int .u64 (uv ((hh &&& ~~~sch) ||| (svh &&& sch))), .int .u64 (uv ((hl &&& ~~~scl) ||| (svl &&& scl)))]) (by simp [results, Try.results21, go_sem, Y]) rfl ⟨rfl, BE.trans ((sets2 _ _ _ _).mono (by omega))⟩
end Go.Proofs
