/-
  Contracts: And, Or, Xor and Less of package head return the bitwise results, and change nothing that was there. No conditions.
-/
import Derived.Test.YtlhbkiobgppciaaProg
import Derived.Test.YtlhbkiobgppciaaMath
import Derived.Deep.RegionHeld3
import Derived.Deep.QuietTactic
import Derived.BigQuiet
import Derived.Laws.StructEq
import Derived.KernelRfl
import Derived.Outline
namespace Go.Proofs
open Go.RowKit Go.Proofs.Hd
attribute [local go_sem] uv_and uv_or uv_xor uv_andNot uv_shr uv_shl uv_add uv_sub uv_nonneg
theorem bcell {W w1 : World} (hb : Below W.heap.size W w1) : (∀ b o, b < W.heap.size → w1.cell? ⟨b, o, none⟩ = W.cell? ⟨b, o, none⟩) ∧ (∀ b o, b < W.heap.size → w1.frozen? ⟨b, o, none⟩ = W.frozen? ⟨b, o, none⟩) :=
  ⟨fun b o h => hb.cell (p := ⟨b, o, none⟩) h, fun b o h => hb.frozen (p := ⟨b, o, none⟩) h⟩

theorem half_and (a b : BitVec 64) (w : World) : Calls Try.prog 42 #[.int .u64 (uv a), .int .u64 (uv b)] w fun e w' => e = .returned (.int .u64 (uv (a &&& b))) ∧ w = w' := by
  go_enter Try.func42, Try.ntmps42
  go_wp2
  go_ret
  exact ⟨rfl, rfl⟩

theorem both_and (ah al bh bl : BitVec 64) (w : World) : Calls Try.prog 41 #[.func (Fn.func 42) #[] #[], .agg #[.int .u64 (uv ah), .int .u64 (uv al)], .agg #[.int .u64 (uv bh), .int .u64 (uv bl)]] w fun e w' => e = .returned (.agg #[.int .u64 (uv (ah &&& bh)), .int .u64 (uv (al &&& bl))]) ∧ Below w.heap.size w w' := by
  go_enter Try.func41, Try.ntmps41
  go_wp2_with fail
  go_region_held3 (fun w' => w'.cell? ⟨w.heap.size, 0, none⟩ = some (.int .u64 (uv ah)) ∧ w'.cell? ⟨w.heap.size, 1, none⟩ = some (.int .u64 (uv al)) ∧ w'.cell? ⟨w.heap.size + 1, 0, none⟩ = some (.int .u64 (uv bh)) ∧ w'.cell? ⟨w.heap.size + 1, 1, none⟩ = some (.int .u64 (uv bl))) (go_keep)
    (first | (go_at_call 42; refine (half_and _ _ _).mono ?_; rintro e w' ⟨rfl, rfl⟩))
  go_wp2
  exact bodyPost_ret (v := .agg #[.int .u64 (uv (ah &&& bh)), .int .u64 (uv (al &&& bl))]) (by simp [results, Try.results41, go_sem]) rfl ⟨rfl, by repeat (first | exact Below.refl _ _ | apply Below.drew | (refine Below.alloc ?_ (by simp <;> omega) _))⟩

theorem and_c (ah al bh bl : BitVec 64) (w : World) : Calls Try.prog 32 #[.agg #[.int .u64 (uv ah), .int .u64 (uv al)], .agg #[.int .u64 (uv bh), .int .u64 (uv bl)]] w fun e w' => e = .returned (.agg #[.int .u64 (uv (ah &&& bh)), .int .u64 (uv (al &&& bl))]) ∧ Below w.heap.size w w' := by
  go_enter Try.func32, Try.ntmps32
  go_wp2_with fail
  refine (both_and _ _ _ _ _).mono ?_
  rintro e w1 ⟨rfl, hb⟩
  obtain ⟨hc, hf⟩ := bcell hb
  go_wp2
  exact bodyPost_ret (v := .agg #[.int .u64 (uv (ah &&& bh)), .int .u64 (uv (al &&& bl))]) (by simp [results, Try.results32, go_sem, hc]) rfl ⟨rfl, (((((Below.refl _ w).alloc (Nat.le_refl _) _).alloc (by simp) _).alloc (by simp <;> omega) _).trans (hb.mono (by simp <;> omega))).setCell (by simp <;> omega) _ |>.setCell (by simp <;> omega) _⟩

theorem half_or (a b : BitVec 64) (w : World) : Calls Try.prog 43 #[.int .u64 (uv a), .int .u64 (uv b)] w fun e w' => e = .returned (.int .u64 (uv (a ||| b))) ∧ w = w' := by
  go_enter Try.func43, Try.ntmps43
  go_wp2
  go_ret
  exact ⟨rfl, rfl⟩

theorem both_or (ah al bh bl : BitVec 64) (w : World) : Calls Try.prog 41 #[.func (Fn.func 43) #[] #[], .agg #[.int .u64 (uv ah), .int .u64 (uv al)], .agg #[.int .u64 (uv bh), .int .u64 (uv bl)]] w fun e w' => e = .returned (.agg #[.int .u64 (uv (ah ||| bh)), .int .u64 (uv (al ||| bl))]) ∧ Below w.heap.size w w' := by
  go_enter Try.func41, Try.ntmps41
  go_wp2_with fail
  go_region_held3 (fun w' => w'.cell? ⟨w.heap.size, 0, none⟩ = some (.int .u64 (uv ah)) ∧ w'.cell? ⟨w.heap.size, 1, none⟩ = some (.int .u64 (uv al)) ∧ w'.cell? ⟨w.heap.size + 1, 0, none⟩ = some (.int .u64 (uv bh)) ∧ w'.cell? ⟨w.heap.size + 1, 1, none⟩ = some (.int .u64 (uv bl))) (go_keep)
    (first | (go_at_call 43; refine (half_or _ _ _).mono ?_; rintro e w' ⟨rfl, rfl⟩))
  go_wp2
  exact bodyPost_ret (v := .agg #[.int .u64 (uv (ah ||| bh)), .int .u64 (uv (al ||| bl))]) (by simp [results, Try.results41, go_sem]) rfl ⟨rfl, by repeat (first | exact Below.refl _ _ | apply Below.drew | (refine Below.alloc ?_ (by simp <;> omega) _))⟩

theorem or_c (ah al bh bl : BitVec 64) (w : World) : Calls Try.prog 34 #[.agg #[.int .u64 (uv ah), .int .u64 (uv al)], .agg #[.int .u64 (uv bh), .int .u64 (uv bl)]] w fun e w' => e = .returned (.agg #[.int .u64 (uv (ah ||| bh)), .int .u64 (uv (al ||| bl))]) ∧ Below w.heap.size w w' := by
  go_enter Try.func34, Try.ntmps34
  go_wp2_with fail
  refine (both_or _ _ _ _ _).mono ?_
  rintro e w1 ⟨rfl, hb⟩
  obtain ⟨hc, hf⟩ := bcell hb
  go_wp2
  exact bodyPost_ret (v := .agg #[.int .u64 (uv (ah ||| bh)), .int .u64 (uv (al ||| bl))]) (by simp [results, Try.results34, go_sem, hc]) rfl ⟨rfl, (((((Below.refl _ w).alloc (Nat.le_refl _) _).alloc (by simp) _).alloc (by simp <;> omega) _).trans (hb.mono (by simp <;> omega))).setCell (by simp <;> omega) _ |>.setCell (by simp <;> omega) _⟩

theorem half_xor (a b : BitVec 64) (w : World) : Calls Try.prog 46 #[.int .u64 (uv a), .int .u64 (uv b)] w fun e w' => e = .returned (.int .u64 (uv (a ^^^ b))) ∧ w = w' := by
  go_enter Try.func46, Try.ntmps46
  go_wp2
  go_ret
  exact ⟨rfl, rfl⟩

theorem both_xor (ah al bh bl : BitVec 64) (w : World) : Calls Try.prog 41 #[.func (Fn.func 46) #[] #[], .agg #[.int .u64 (uv ah), .int .u64 (uv al)], .agg #[.int .u64 (uv bh), .int .u64 (uv bl)]] w fun e w' => e = .returned (.agg #[.int .u64 (uv (ah ^^^ bh)), .int .u64 (uv (al ^^^ bl))]) ∧ Below w.heap.size w w' := by
  go_enter Try.func41, Try.ntmps41
  go_wp2_with fail
  go_region_held3 (fun w' => w'.cell? ⟨w.heap.size, 0, none⟩ = some (.int .u64 (uv ah)) ∧ w'.cell? ⟨w.heap.size, 1, none⟩ = some (.int .u64 (uv al)) ∧ w'.cell? ⟨w.heap.size + 1, 0, none⟩ = some (.int .u64 (uv bh)) ∧ w'.cell? ⟨w.heap.size + 1, 1, none⟩ = some (.int .u64 (uv bl))) (go_keep)
    (first | (go_at_call 46; refine (half_xor _ _ _).mono ?_; rintro e w' ⟨rfl, rfl⟩))
  go_wp2
  exact bodyPost_ret (v := .agg #[.int .u64 (uv (ah ^^^ bh)), .int .u64 (uv (al ^^^ bl))]) (by simp [results, Try.results41, go_sem]) rfl ⟨rfl, by repeat (first | exact Below.refl _ _ | apply Below.drew | (refine Below.alloc ?_ (by simp <;> omega) _))⟩

theorem xor_c (ah al bh bl : BitVec 64) (w : World) : Calls Try.prog 38 #[.agg #[.int .u64 (uv ah), .int .u64 (uv al)], .agg #[.int .u64 (uv bh), .int .u64 (uv bl)]] w fun e w' => e = .returned (.agg #[.int .u64 (uv (ah ^^^ bh)), .int .u64 (uv (al ^^^ bl))]) ∧ Below w.heap.size w w' := by
  go_enter Try.func38, Try.ntmps38
  go_wp2_with fail
  refine (both_xor _ _ _ _ _).mono ?_
  rintro e w1 ⟨rfl, hb⟩
  obtain ⟨hc, hf⟩ := bcell hb
  go_wp2
  exact bodyPost_ret (v := .agg #[.int .u64 (uv (ah ^^^ bh)), .int .u64 (uv (al ^^^ bl))]) (by simp [results, Try.results38, go_sem, hc]) rfl ⟨rfl, (((((Below.refl _ w).alloc (Nat.le_refl _) _).alloc (by simp) _).alloc (by simp <;> omega) _).trans (hb.mono (by simp <;> omega))).setCell (by simp <;> omega) _ |>.setCell (by simp <;> omega) _⟩

theorem half_less (a b : BitVec 64) (w : World) : Calls Try.prog 44 #[.int .u64 (uv a), .int .u64 (uv b)] w fun e w' => e = .returned (.int .u64 (uv (a &&& ~~~b))) ∧ w = w' := by
  go_enter Try.func44, Try.ntmps44
  go_wp2
  go_ret
  exact ⟨rfl, rfl⟩

theorem both_less (ah al bh bl : BitVec 64) (w : World) : Calls Try.prog 41 #[.func (Fn.func 44) #[] #[], .agg #[.int .u64 (uv ah), .int .u64 (uv al)], .agg #[.int .u64 (uv bh), .int .u64 (uv bl)]] w fun e w' => e = .returned (.agg #[.int .u64 (uv (ah &&& ~~~bh)), .int .u64 (uv (al &&& ~~~bl))]) ∧ Below w.heap.size w w' := by
  go_enter Try.func41, Try.ntmps41
  go_wp2_with fail
  go_region_held3 (fun w' => w'.cell? ⟨w.heap.size, 0, none⟩ = some (.int .u64 (uv ah)) ∧ w'.cell? ⟨w.heap.size, 1, none⟩ = some (.int .u64 (uv al)) ∧ w'.cell? ⟨w.heap.size + 1, 0, none⟩ = some (.int .u64 (uv bh)) ∧ w'.cell? ⟨w.heap.size + 1, 1, none⟩ = some (.int .u64 (uv bl))) (go_keep)
    (first | (go_at_call 44; refine (half_less _ _ _).mono ?_; rintro e w' ⟨rfl, rfl⟩))
  go_wp2
  exact bodyPost_ret (v := .agg #[.int .u64 (uv (ah &&& ~~~bh)), .int .u64 (uv (al &&& ~~~bl))]) (by simp [results, Try.results41, go_sem]) rfl ⟨rfl, by repeat (first | exact Below.refl _ _ | apply Below.drew | (refine Below.alloc ?_ (by simp <;> omega) _))⟩

theorem less_c (ah al bh bl : BitVec 64) (w : World) : Calls Try.prog 35 #[.agg #[.int .u64 (uv ah), .int .u64 (uv al)], .agg #[.int .u64 (uv bh), .int .u64 (uv bl)]] w fun e w' => e = .returned (.agg #[.int .u64 (uv (ah &&& ~~~bh)), .int .u64 (uv (al &&& ~~~bl))]) ∧ Below w.heap.size w w' := by
  go_enter Try.func35, Try.ntmps35
  go_wp2_with fail
  refine (both_less _ _ _ _ _).mono ?_
  rintro e w1 ⟨rfl, hb⟩
  obtain ⟨hc, hf⟩ := bcell hb
  go_wp2
  exact bodyPost_ret (v := .agg #[.int .u64 (uv (ah &&& ~~~bh)), .int .u64 (uv (al &&& ~~~bl))]) (by simp [results, Try.results35, go_sem, hc]) rfl ⟨rfl, (((((Below.refl _ w).alloc (Nat.le_refl _) _).alloc (by simp) _).alloc (by simp <;> omega) _).trans (hb.mono (by simp <;> omega))).setCell (by simp <;> omega) _ |>.setCell (by simp <;> omega) _⟩
end Go.Proofs
