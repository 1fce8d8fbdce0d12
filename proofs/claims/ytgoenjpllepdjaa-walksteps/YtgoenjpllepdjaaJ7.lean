/-
  Contracts of rule.Before and of the comparison of two places of a table, with what they add to memory. Conditions as each theorem lists them.
  Contract of math/bits.LeadingZeros64, out of the library's own contract, which is proved over any program: the function's bodies are compared by the kernel. No conditions.
  Contract of cube.highest: the header with the highest bit alone. No conditions.
  What memory holds at the head of the loop of cube.Less, and how it is carried on: plain facts on worlds. No conditions.
  Contract of cube.Less: the difference of two cubes as a list. Conditions as each theorem lists them.
  Contracts of cube.Field: the field's cube, or an error. Conditions as each theorem lists them.
  The function awake of the laws of layer 2 returns true. No conditions.
  The law CubeParts returns true for all cubes and headers, and changes nothing that was there. No conditions.
  Contract of table.Find: the first rule that is tried and whose match has the header. Conditions as each theorem lists them.
  What a run of a sound configuration looks like, hop by hop. No program in sight. Conditions as each theorem lists them.
  Contract of topo.Other. Conditions as the theorem lists them.
  Contracts of package config: sized. Conditions as the theorem lists them.
  Contract of package config: formed. Conditions as the theorem lists them.
  Contract of package config: Sound. Conditions as the theorem lists them.
  Plain facts on the bits of a field. No conditions.
-/
import Derived.Test.YtgoenjpllepdjaaJ6
import Derived.OrdersHeld
import Derived.Deep.DeepCutAuto
import Derived.BigQuiet
import Derived.Lib.Hide
import Derived.Shelf.Small.Bits
import Derived.Shelf.Strconv.Itoa0
import Derived.Test.YtgoenjpllepdjaaProg
import Derived.Deep.AppendLies
import Derived.Laws.OwnMore
import Derived.OneCell
import Derived.Deep.Onto
import Derived.Deep.RegionHeld3
import Derived.Deep.LoopGhost
import Derived.Deep.Light
import Derived.OwnWalk
namespace Go.Proofs.Hd
open Go.RowKit Go.Sort
/-- How the places i and j of rules p and q are compared. -/
def cfP (p q : Rl) (i j : Nat) : Int := if q.pri < p.pri then -1 else if p.pri < q.pri then 1 else icmp (i : Int) (j : Int)
/-- How two places of a table are compared. -/
def cfB (L : List Rl) (i j : Nat) : Int := cfP L[i]! L[j]! i j
theorem cfP_lt (p q : Rl) (i j : Nat) : decide (cfP p q i j < 0) = decide (q.pri < p.pri ∨ (p.pri = q.pri ∧ i < j)) := by
  unfold cfP icmp
  by_cases h1 : q.pri < p.pri
  · simp [h1]
  · by_cases h2 : p.pri < q.pri
    · have : ¬ p.pri = q.pri := by omega
      simp [h1, h2, this]
    · have : p.pri = q.pri := by omega
      by_cases h3 : i < j
      · simp [this, h3]
      · by_cases h4 : j < i <;> simp [this, h3, h4]
theorem cfB_lt (L : List Rl) (i j : Nat) : decide (cfB L i j < 0) = decide (L[j]!.pri < L[i]!.pri ∨ (L[i]!.pri = L[j]!.pri ∧ i < j)) := cfP_lt _ _ _ _
end Go.Proofs.Hd
namespace Go.Proofs
open Go.RowKit Go.Proofs.Hd Go.Sort Go.Lib
attribute [local go_sem] uv_nonneg
set_option maxRecDepth 100000 in
theorem before_g (a b : Rl) (x : Bool) (w : World) (hx : decide (b.pri < a.pri) = x) : Calls Try.prog 64 #[.agg #[.int .i64 a.pri, .int .u64 (uv a.m.vh), .int .u64 (uv a.m.vl), .int .u64 (uv a.m.ch), .int .u64 (uv a.m.cl), .int .i64 a.kind, .int .i64 a.port, .int .i64 a.tab, .int .u64 (uv a.s.vh), .int .u64 (uv a.s.vl), .int .u64 (uv a.s.ch), .int .u64 (uv a.s.cl)], .agg #[.int .i64 b.pri, .int .u64 (uv b.m.vh), .int .u64 (uv b.m.vl), .int .u64 (uv b.m.ch), .int .u64 (uv b.m.cl), .int .i64 b.kind, .int .i64 b.port, .int .i64 b.tab, .int .u64 (uv b.s.vh), .int .u64 (uv b.s.vl), .int .u64 (uv b.s.ch), .int .u64 (uv b.s.cl)]] w fun e w' => e = .returned (.bool x) ∧ Grew w w' := by
  have B0 : Grew w ((w.alloc (.cells #[.int .i64 a.pri, .int .u64 (uv a.m.vh), .int .u64 (uv a.m.vl), .int .u64 (uv a.m.ch), .int .u64 (uv a.m.cl), .int .i64 a.kind, .int .i64 a.port, .int .i64 a.tab, .int .u64 (uv a.s.vh), .int .u64 (uv a.s.vl), .int .u64 (uv a.s.ch), .int .u64 (uv a.s.cl)] 38)).alloc (.cells #[.int .i64 b.pri, .int .u64 (uv b.m.vh), .int .u64 (uv b.m.vl), .int .u64 (uv b.m.ch), .int .u64 (uv b.m.cl), .int .i64 b.kind, .int .i64 b.port, .int .i64 b.tab, .int .u64 (uv b.s.vh), .int .u64 (uv b.s.vl), .int .u64 (uv b.s.ch), .int .u64 (uv b.s.cl)] 38)) := (Grew.alloc1 _ _).trans (Grew.alloc1 _ _)
  obtain ⟨r, hr⟩ : ∃ r, icmp b.pri a.pri = r := ⟨_, rfl⟩
  have hrx : decide (r < 0) = x := by
    rw [← hx, ← hr]
    unfold icmp
    by_cases h1 : b.pri < a.pri
    · rw [if_pos h1]; simp [h1]
    · rw [if_neg h1]; by_cases h2 : a.pri < b.pri <;> simp [h1, h2]
  clear hx
  go_enter Try.func64, Try.ntmps64
  go_wp2_with fail
  refine (comp_g a b r _ hr).mono ?_
  rintro e w' ⟨rfl, hb⟩
  have B := B0.trans hb
  clear B0 hb
  go_wp2
  go_ret
  exact ⟨by subst hrx; rfl, B⟩
set_option maxHeartbeats 4000000 in
set_option maxRecDepth 100000 in
theorem tcmp_lt (p q : Rl) (i j n b o cap : Nat) (w : World) (hi : i < n) (hj : j < n) (hn : n ≤ 4611686018427387904) (hp : AtR w b (o + i * 12) p) (hq : AtR w b (o + j * 12) q) (h1 : decide (q.pri < p.pri) = true) : Calls Try.prog 49 #[.slice (some ⟨b, o, none⟩) n cap, .int .i64 i, .int .i64 j] w fun e w' => e = .returned (.int .i64 (-1)) ∧ Grew w w' := by
  have H1 := h1
  clear h1
  have hiz : (i : Int) < (n : Int) := by omega
  have hjz : (j : Int) < (n : Int) := by omega
  have hnz : (n : Int) ≤ 4611686018427387904 := by omega
  have KP : ∀ W, Grew w W → (Grew w W ∧ W.cell? ⟨b, o + i * 12, none⟩ = some (.int .i64 p.pri) ∧ W.cell? ⟨b, o + i * 12 + 1, none⟩ = some (.int .u64 (uv p.m.vh)) ∧ W.cell? ⟨b, o + i * 12 + 2, none⟩ = some (.int .u64 (uv p.m.vl)) ∧ W.cell? ⟨b, o + i * 12 + 3, none⟩ = some (.int .u64 (uv p.m.ch)) ∧ W.cell? ⟨b, o + i * 12 + 4, none⟩ = some (.int .u64 (uv p.m.cl)) ∧ W.cell? ⟨b, o + i * 12 + 5, none⟩ = some (.int .i64 p.kind) ∧ W.cell? ⟨b, o + i * 12 + 6, none⟩ = some (.int .i64 p.port) ∧ W.cell? ⟨b, o + i * 12 + 7, none⟩ = some (.int .i64 p.tab) ∧ W.cell? ⟨b, o + i * 12 + 8, none⟩ = some (.int .u64 (uv p.s.vh)) ∧ W.cell? ⟨b, o + i * 12 + 9, none⟩ = some (.int .u64 (uv p.s.vl)) ∧ W.cell? ⟨b, o + i * 12 + 10, none⟩ = some (.int .u64 (uv p.s.ch)) ∧ W.cell? ⟨b, o + i * 12 + 11, none⟩ = some (.int .u64 (uv p.s.cl)) ∧ W.cell? ⟨b, o + j * 12, none⟩ = some (.int .i64 q.pri) ∧ W.cell? ⟨b, o + j * 12 + 1, none⟩ = some (.int .u64 (uv q.m.vh)) ∧ W.cell? ⟨b, o + j * 12 + 2, none⟩ = some (.int .u64 (uv q.m.vl)) ∧ W.cell? ⟨b, o + j * 12 + 3, none⟩ = some (.int .u64 (uv q.m.ch)) ∧ W.cell? ⟨b, o + j * 12 + 4, none⟩ = some (.int .u64 (uv q.m.cl)) ∧ W.cell? ⟨b, o + j * 12 + 5, none⟩ = some (.int .i64 q.kind) ∧ W.cell? ⟨b, o + j * 12 + 6, none⟩ = some (.int .i64 q.port) ∧ W.cell? ⟨b, o + j * 12 + 7, none⟩ = some (.int .i64 q.tab) ∧ W.cell? ⟨b, o + j * 12 + 8, none⟩ = some (.int .u64 (uv q.s.vh)) ∧ W.cell? ⟨b, o + j * 12 + 9, none⟩ = some (.int .u64 (uv q.s.vl)) ∧ W.cell? ⟨b, o + j * 12 + 10, none⟩ = some (.int .u64 (uv q.s.ch)) ∧ W.cell? ⟨b, o + j * 12 + 11, none⟩ = some (.int .u64 (uv q.s.cl))) := fun W hb => by
    obtain ⟨x0, x1, x2, x3, x4, x5, x6, x7, x8, x9, x10, x11⟩ := (hp.on hb.below).out
    obtain ⟨y0, y1, y2, y3, y4, y5, y6, y7, y8, y9, y10, y11⟩ := (hq.on hb.below).out
    exact ⟨hb, x0, x1, x2, x3, x4, x5, x6, x7, x8, x9, x10, x11, y0, y1, y2, y3, y4, y5, y6, y7, y8, y9, y10, y11⟩
  have HKP := Lib.hid KP
  clear KP hp hq
  go_enter Try.func49, Try.ntmps49
  go_upto_region 1 with (fail)
  refine wp_region_held_drew (S := fun w' => Grew w w' ∧ w'.cell? ⟨b, o + i * 12, none⟩ = some (.int .i64 p.pri) ∧ w'.cell? ⟨b, o + i * 12 + 1, none⟩ = some (.int .u64 (uv p.m.vh)) ∧ w'.cell? ⟨b, o + i * 12 + 2, none⟩ = some (.int .u64 (uv p.m.vl)) ∧ w'.cell? ⟨b, o + i * 12 + 3, none⟩ = some (.int .u64 (uv p.m.ch)) ∧ w'.cell? ⟨b, o + i * 12 + 4, none⟩ = some (.int .u64 (uv p.m.cl)) ∧ w'.cell? ⟨b, o + i * 12 + 5, none⟩ = some (.int .i64 p.kind) ∧ w'.cell? ⟨b, o + i * 12 + 6, none⟩ = some (.int .i64 p.port) ∧ w'.cell? ⟨b, o + i * 12 + 7, none⟩ = some (.int .i64 p.tab) ∧ w'.cell? ⟨b, o + i * 12 + 8, none⟩ = some (.int .u64 (uv p.s.vh)) ∧ w'.cell? ⟨b, o + i * 12 + 9, none⟩ = some (.int .u64 (uv p.s.vl)) ∧ w'.cell? ⟨b, o + i * 12 + 10, none⟩ = some (.int .u64 (uv p.s.ch)) ∧ w'.cell? ⟨b, o + i * 12 + 11, none⟩ = some (.int .u64 (uv p.s.cl)) ∧ w'.cell? ⟨b, o + j * 12, none⟩ = some (.int .i64 q.pri) ∧ w'.cell? ⟨b, o + j * 12 + 1, none⟩ = some (.int .u64 (uv q.m.vh)) ∧ w'.cell? ⟨b, o + j * 12 + 2, none⟩ = some (.int .u64 (uv q.m.vl)) ∧ w'.cell? ⟨b, o + j * 12 + 3, none⟩ = some (.int .u64 (uv q.m.ch)) ∧ w'.cell? ⟨b, o + j * 12 + 4, none⟩ = some (.int .u64 (uv q.m.cl)) ∧ w'.cell? ⟨b, o + j * 12 + 5, none⟩ = some (.int .i64 q.kind) ∧ w'.cell? ⟨b, o + j * 12 + 6, none⟩ = some (.int .i64 q.port) ∧ w'.cell? ⟨b, o + j * 12 + 7, none⟩ = some (.int .i64 q.tab) ∧ w'.cell? ⟨b, o + j * 12 + 8, none⟩ = some (.int .u64 (uv q.s.vh)) ∧ w'.cell? ⟨b, o + j * 12 + 9, none⟩ = some (.int .u64 (uv q.s.vl)) ∧ w'.cell? ⟨b, o + j * 12 + 10, none⟩ = some (.int .u64 (uv q.s.ch)) ∧ w'.cell? ⟨b, o + j * 12 + 11, none⟩ = some (.int .u64 (uv q.s.cl))) (by kernel_rfl) (HKP.out _ (Grew.drew1 w)) (fun hHeld => ?_)
  refine wpAnyH_take (i := 0) (oi := ⟨some 8, _, _, _, _, _⟩) (v := ?vf0) rfl (by kernel_rfl) (by kernel_rfl) (by kernel_rfl) (fun _ _ _ h => h) (Or.inl ⟨by rfl, ?yf0⟩) hHeld ?rf0
  case yf0 => (intro w' hSw; (try dsimp only at hSw); go_simp; try (with_reducible rfl))
  simp only [Act.put, List.setIfInBounds_toArray, List.set_cons_zero, List.set_cons_succ]
  refine wpAnyH_take (i := 1) (oi := ⟨some 9, _, _, _, _, _⟩) (v := ?vf1) rfl (by kernel_rfl) (by kernel_rfl) (by kernel_rfl) (fun _ _ _ h => h) (Or.inl ⟨by rfl, ?yf1⟩) hHeld ?rf1
  case yf1 => (intro w' hSw; (try dsimp only at hSw); go_simp; try (with_reducible rfl))
  simp only [Act.put, List.setIfInBounds_toArray, List.set_cons_zero, List.set_cons_succ]
  refine wpAnyH_take (i := 2) (oi := ⟨some 10, _, _, _, _, _⟩) (v := ?vf2) rfl (by kernel_rfl) (by kernel_rfl) (by kernel_rfl) (fun _ _ _ h => h) (Or.inl ⟨by rfl, ?yf2⟩) hHeld ?rf2
  case yf2 => (intro w' hSw; (try dsimp only at hSw); go_simp; try (with_reducible rfl))
  simp only [Act.put, List.setIfInBounds_toArray, List.set_cons_zero, List.set_cons_succ]
  refine wpAnyH_take (i := 3) (oi := ⟨some 11, _, _, _, _, _⟩) (v := ?vf3) rfl (by kernel_rfl) (by kernel_rfl) (by kernel_rfl) (fun _ _ _ h => h) (Or.inl ⟨by rfl, ?yf3⟩) hHeld ?rf3
  case yf3 => (intro w' hSw; (try dsimp only at hSw); go_simp; try (with_reducible rfl))
  simp only [Act.put, List.setIfInBounds_toArray, List.set_cons_zero, List.set_cons_succ]
  refine wpAnyH_take (i := 4) (oi := ⟨some 12, _, _, _, _, _⟩) (v := ?vf4) rfl (by kernel_rfl) (by kernel_rfl) (by kernel_rfl) (fun _ _ _ h => h) (Or.inl ⟨by rfl, ?yf4⟩) hHeld ?rf4
  case yf4 => (intro w' hSw; (try dsimp only at hSw); go_simp; try (with_reducible rfl))
  simp only [Act.put, List.setIfInBounds_toArray, List.set_cons_zero, List.set_cons_succ]
  refine wpAnyH_take (i := 5) (oi := ⟨some 13, _, _, _, _, _⟩) (v := ?vf5) rfl (by kernel_rfl) (by kernel_rfl) (by kernel_rfl) (fun _ _ _ h => h) (Or.inl ⟨by rfl, ?yf5⟩) hHeld ?rf5
  case yf5 => (intro w' hSw; (try dsimp only at hSw); go_simp; try (with_reducible rfl))
  simp only [Act.put, List.setIfInBounds_toArray, List.set_cons_zero, List.set_cons_succ]
  refine wpAnyH_take (i := 6) (oi := ⟨some 14, _, _, _, _, _⟩) (v := ?vf6) rfl (by kernel_rfl) (by kernel_rfl) (by kernel_rfl) (fun _ _ _ h => h) (Or.inl ⟨by rfl, ?yf6⟩) hHeld ?rf6
  case yf6 => (intro w' hSw; (try dsimp only at hSw); go_simp; try (with_reducible rfl))
  simp only [Act.put, List.setIfInBounds_toArray, List.set_cons_zero, List.set_cons_succ]
  refine wpAnyH_take (i := 7) (oi := ⟨some 15, _, _, _, _, _⟩) (v := ?vf7) rfl (by kernel_rfl) (by kernel_rfl) (by kernel_rfl) (fun _ _ _ h => h) (Or.inl ⟨by rfl, ?yf7⟩) hHeld ?rf7
  case yf7 => (intro w' hSw; (try dsimp only at hSw); go_simp; try (with_reducible rfl))
  simp only [Act.put, List.setIfInBounds_toArray, List.set_cons_zero, List.set_cons_succ]
  refine wpAnyH_ready (rs := [8]) (by kernel_rfl) (by simp) ?_
  refine AllReadyH.cons (o := ⟨some 16, _, _, _, _, _⟩) rfl (fun K hK => ?_) AllReadyH.nil
  go_simp
  (with_reducible refine (before_g p q true _ H1).mono ?_)
  rintro e w5 ⟨rfl, hb⟩
  (try dsimp only)
  refine hK.out _ _ (HKP.out _ (hHeld.1.trans hb)) (fun hNext => ?_)
  clear hK K hHeld
  have hHeld := hNext
  clear hNext
  try simp only [Act.put, List.setIfInBounds_toArray, List.set_cons_zero, List.set_cons_succ]
  refine wpAnyH_take (i := 9) (oi := ⟨some 7, _, _, _, _, _⟩) (v := ?vf9) rfl (by kernel_rfl) (by kernel_rfl) (by kernel_rfl) (fun _ _ _ h => h) (Or.inl ⟨by rfl, ?yf9⟩) hHeld ?rf9
  case yf9 => (intro w' hSw; (try dsimp only at hSw); go_simp; try (with_reducible rfl))
  simp only [Act.put, List.setIfInBounds_toArray, List.set_cons_zero, List.set_cons_succ]
  refine wpAnyH_done (by kernel_rfl) ?_ _
  have hL := hHeld.1
  clear hHeld HKP
  go_wp2
  go_ret
  exact ⟨rfl, hL⟩
set_option maxHeartbeats 4000000 in
set_option maxRecDepth 100000 in
theorem tcmp_gt (p q : Rl) (i j n b o cap : Nat) (w : World) (hi : i < n) (hj : j < n) (hn : n ≤ 4611686018427387904) (hp : AtR w b (o + i * 12) p) (hq : AtR w b (o + j * 12) q) (h1 : decide (q.pri < p.pri) = false) (h2 : decide (p.pri < q.pri) = true) : Calls Try.prog 49 #[.slice (some ⟨b, o, none⟩) n cap, .int .i64 i, .int .i64 j] w fun e w' => e = .returned (.int .i64 1) ∧ Grew w w' := by
  have H1 := h1
  have H2 := h2
  clear h1 h2
  have hiz : (i : Int) < (n : Int) := by omega
  have hjz : (j : Int) < (n : Int) := by omega
  have hnz : (n : Int) ≤ 4611686018427387904 := by omega
  have KP : ∀ W, Grew w W → (Grew w W ∧ W.cell? ⟨b, o + i * 12, none⟩ = some (.int .i64 p.pri) ∧ W.cell? ⟨b, o + i * 12 + 1, none⟩ = some (.int .u64 (uv p.m.vh)) ∧ W.cell? ⟨b, o + i * 12 + 2, none⟩ = some (.int .u64 (uv p.m.vl)) ∧ W.cell? ⟨b, o + i * 12 + 3, none⟩ = some (.int .u64 (uv p.m.ch)) ∧ W.cell? ⟨b, o + i * 12 + 4, none⟩ = some (.int .u64 (uv p.m.cl)) ∧ W.cell? ⟨b, o + i * 12 + 5, none⟩ = some (.int .i64 p.kind) ∧ W.cell? ⟨b, o + i * 12 + 6, none⟩ = some (.int .i64 p.port) ∧ W.cell? ⟨b, o + i * 12 + 7, none⟩ = some (.int .i64 p.tab) ∧ W.cell? ⟨b, o + i * 12 + 8, none⟩ = some (.int .u64 (uv p.s.vh)) ∧ W.cell? ⟨b, o + i * 12 + 9, none⟩ = some (.int .u64 (uv p.s.vl)) ∧ W.cell? ⟨b, o + i * 12 + 10, none⟩ = some (.int .u64 (uv p.s.ch)) ∧ W.cell? ⟨b, o + i * 12 + 11, none⟩ = some (.int .u64 (uv p.s.cl)) ∧ W.cell? ⟨b, o + j * 12, none⟩ = some (.int .i64 q.pri) ∧ W.cell? ⟨b, o + j * 12 + 1, none⟩ = some (.int .u64 (uv q.m.vh)) ∧ W.cell? ⟨b, o + j * 12 + 2, none⟩ = some (.int .u64 (uv q.m.vl)) ∧ W.cell? ⟨b, o + j * 12 + 3, none⟩ = some (.int .u64 (uv q.m.ch)) ∧ W.cell? ⟨b, o + j * 12 + 4, none⟩ = some (.int .u64 (uv q.m.cl)) ∧ W.cell? ⟨b, o + j * 12 + 5, none⟩ = some (.int .i64 q.kind) ∧ W.cell? ⟨b, o + j * 12 + 6, none⟩ = some (.int .i64 q.port) ∧ W.cell? ⟨b, o + j * 12 + 7, none⟩ = some (.int .i64 q.tab) ∧ W.cell? ⟨b, o + j * 12 + 8, none⟩ = some (.int .u64 (uv q.s.vh)) ∧ W.cell? ⟨b, o + j * 12 + 9, none⟩ = some (.int .u64 (uv q.s.vl)) ∧ W.cell? ⟨b, o + j * 12 + 10, none⟩ = some (.int .u64 (uv q.s.ch)) ∧ W.cell? ⟨b, o + j * 12 + 11, none⟩ = some (.int .u64 (uv q.s.cl))) := fun W hb => by
    obtain ⟨x0, x1, x2, x3, x4, x5, x6, x7, x8, x9, x10, x11⟩ := (hp.on hb.below).out
    obtain ⟨y0, y1, y2, y3, y4, y5, y6, y7, y8, y9, y10, y11⟩ := (hq.on hb.below).out
    exact ⟨hb, x0, x1, x2, x3, x4, x5, x6, x7, x8, x9, x10, x11, y0, y1, y2, y3, y4, y5, y6, y7, y8, y9, y10, y11⟩
  have HKP := Lib.hid KP
  clear KP hp hq
  go_enter Try.func49, Try.ntmps49
  go_upto_region 1 with (fail)
  refine wp_region_held_drew (S := fun w' => Grew w w' ∧ w'.cell? ⟨b, o + i * 12, none⟩ = some (.int .i64 p.pri) ∧ w'.cell? ⟨b, o + i * 12 + 1, none⟩ = some (.int .u64 (uv p.m.vh)) ∧ w'.cell? ⟨b, o + i * 12 + 2, none⟩ = some (.int .u64 (uv p.m.vl)) ∧ w'.cell? ⟨b, o + i * 12 + 3, none⟩ = some (.int .u64 (uv p.m.ch)) ∧ w'.cell? ⟨b, o + i * 12 + 4, none⟩ = some (.int .u64 (uv p.m.cl)) ∧ w'.cell? ⟨b, o + i * 12 + 5, none⟩ = some (.int .i64 p.kind) ∧ w'.cell? ⟨b, o + i * 12 + 6, none⟩ = some (.int .i64 p.port) ∧ w'.cell? ⟨b, o + i * 12 + 7, none⟩ = some (.int .i64 p.tab) ∧ w'.cell? ⟨b, o + i * 12 + 8, none⟩ = some (.int .u64 (uv p.s.vh)) ∧ w'.cell? ⟨b, o + i * 12 + 9, none⟩ = some (.int .u64 (uv p.s.vl)) ∧ w'.cell? ⟨b, o + i * 12 + 10, none⟩ = some (.int .u64 (uv p.s.ch)) ∧ w'.cell? ⟨b, o + i * 12 + 11, none⟩ = some (.int .u64 (uv p.s.cl)) ∧ w'.cell? ⟨b, o + j * 12, none⟩ = some (.int .i64 q.pri) ∧ w'.cell? ⟨b, o + j * 12 + 1, none⟩ = some (.int .u64 (uv q.m.vh)) ∧ w'.cell? ⟨b, o + j * 12 + 2, none⟩ = some (.int .u64 (uv q.m.vl)) ∧ w'.cell? ⟨b, o + j * 12 + 3, none⟩ = some (.int .u64 (uv q.m.ch)) ∧ w'.cell? ⟨b, o + j * 12 + 4, none⟩ = some (.int .u64 (uv q.m.cl)) ∧ w'.cell? ⟨b, o + j * 12 + 5, none⟩ = some (.int .i64 q.kind) ∧ w'.cell? ⟨b, o + j * 12 + 6, none⟩ = some (.int .i64 q.port) ∧ w'.cell? ⟨b, o + j * 12 + 7, none⟩ = some (.int .i64 q.tab) ∧ w'.cell? ⟨b, o + j * 12 + 8, none⟩ = some (.int .u64 (uv q.s.vh)) ∧ w'.cell? ⟨b, o + j * 12 + 9, none⟩ = some (.int .u64 (uv q.s.vl)) ∧ w'.cell? ⟨b, o + j * 12 + 10, none⟩ = some (.int .u64 (uv q.s.ch)) ∧ w'.cell? ⟨b, o + j * 12 + 11, none⟩ = some (.int .u64 (uv q.s.cl))) (by kernel_rfl) (HKP.out _ (Grew.drew1 w)) (fun hHeld => ?_)
  refine wpAnyH_take (i := 0) (oi := ⟨some 8, _, _, _, _, _⟩) (v := ?vf0) rfl (by kernel_rfl) (by kernel_rfl) (by kernel_rfl) (fun _ _ _ h => h) (Or.inl ⟨by rfl, ?yf0⟩) hHeld ?rf0
  case yf0 => (intro w' hSw; (try dsimp only at hSw); go_simp; try (with_reducible rfl))
  simp only [Act.put, List.setIfInBounds_toArray, List.set_cons_zero, List.set_cons_succ]
  refine wpAnyH_take (i := 1) (oi := ⟨some 9, _, _, _, _, _⟩) (v := ?vf1) rfl (by kernel_rfl) (by kernel_rfl) (by kernel_rfl) (fun _ _ _ h => h) (Or.inl ⟨by rfl, ?yf1⟩) hHeld ?rf1
  case yf1 => (intro w' hSw; (try dsimp only at hSw); go_simp; try (with_reducible rfl))
  simp only [Act.put, List.setIfInBounds_toArray, List.set_cons_zero, List.set_cons_succ]
  refine wpAnyH_take (i := 2) (oi := ⟨some 10, _, _, _, _, _⟩) (v := ?vf2) rfl (by kernel_rfl) (by kernel_rfl) (by kernel_rfl) (fun _ _ _ h => h) (Or.inl ⟨by rfl, ?yf2⟩) hHeld ?rf2
  case yf2 => (intro w' hSw; (try dsimp only at hSw); go_simp; try (with_reducible rfl))
  simp only [Act.put, List.setIfInBounds_toArray, List.set_cons_zero, List.set_cons_succ]
  refine wpAnyH_take (i := 3) (oi := ⟨some 11, _, _, _, _, _⟩) (v := ?vf3) rfl (by kernel_rfl) (by kernel_rfl) (by kernel_rfl) (fun _ _ _ h => h) (Or.inl ⟨by rfl, ?yf3⟩) hHeld ?rf3
  case yf3 => (intro w' hSw; (try dsimp only at hSw); go_simp; try (with_reducible rfl))
  simp only [Act.put, List.setIfInBounds_toArray, List.set_cons_zero, List.set_cons_succ]
  refine wpAnyH_take (i := 4) (oi := ⟨some 12, _, _, _, _, _⟩) (v := ?vf4) rfl (by kernel_rfl) (by kernel_rfl) (by kernel_rfl) (fun _ _ _ h => h) (Or.inl ⟨by rfl, ?yf4⟩) hHeld ?rf4
  case yf4 => (intro w' hSw; (try dsimp only at hSw); go_simp; try (with_reducible rfl))
  simp only [Act.put, List.setIfInBounds_toArray, List.set_cons_zero, List.set_cons_succ]
  refine wpAnyH_take (i := 5) (oi := ⟨some 13, _, _, _, _, _⟩) (v := ?vf5) rfl (by kernel_rfl) (by kernel_rfl) (by kernel_rfl) (fun _ _ _ h => h) (Or.inl ⟨by rfl, ?yf5⟩) hHeld ?rf5
  case yf5 => (intro w' hSw; (try dsimp only at hSw); go_simp; try (with_reducible rfl))
  simp only [Act.put, List.setIfInBounds_toArray, List.set_cons_zero, List.set_cons_succ]
  refine wpAnyH_take (i := 6) (oi := ⟨some 14, _, _, _, _, _⟩) (v := ?vf6) rfl (by kernel_rfl) (by kernel_rfl) (by kernel_rfl) (fun _ _ _ h => h) (Or.inl ⟨by rfl, ?yf6⟩) hHeld ?rf6
  case yf6 => (intro w' hSw; (try dsimp only at hSw); go_simp; try (with_reducible rfl))
  simp only [Act.put, List.setIfInBounds_toArray, List.set_cons_zero, List.set_cons_succ]
  refine wpAnyH_take (i := 7) (oi := ⟨some 15, _, _, _, _, _⟩) (v := ?vf7) rfl (by kernel_rfl) (by kernel_rfl) (by kernel_rfl) (fun _ _ _ h => h) (Or.inl ⟨by rfl, ?yf7⟩) hHeld ?rf7
  case yf7 => (intro w' hSw; (try dsimp only at hSw); go_simp; try (with_reducible rfl))
  simp only [Act.put, List.setIfInBounds_toArray, List.set_cons_zero, List.set_cons_succ]
  refine wpAnyH_ready (rs := [8]) (by kernel_rfl) (by simp) ?_
  refine AllReadyH.cons (o := ⟨some 16, _, _, _, _, _⟩) rfl (fun K hK => ?_) AllReadyH.nil
  go_simp
  (with_reducible refine (before_g p q false _ H1).mono ?_)
  rintro e w5 ⟨rfl, hb⟩
  (try dsimp only)
  refine hK.out _ _ (HKP.out _ (hHeld.1.trans hb)) (fun hNext => ?_)
  clear hK K hHeld
  have hHeld := hNext
  clear hNext
  try simp only [Act.put, List.setIfInBounds_toArray, List.set_cons_zero, List.set_cons_succ]
  refine wpAnyH_take (i := 9) (oi := ⟨some 7, _, _, _, _, _⟩) (v := ?vf9) rfl (by kernel_rfl) (by kernel_rfl) (by kernel_rfl) (fun _ _ _ h => h) (Or.inl ⟨by rfl, ?yf9⟩) hHeld ?rf9
  case yf9 => (intro w' hSw; (try dsimp only at hSw); go_simp; try (with_reducible rfl))
  simp only [Act.put, List.setIfInBounds_toArray, List.set_cons_zero, List.set_cons_succ]
  refine wpAnyH_done (by kernel_rfl) ?_ _
  go_upto_region 3 with (fail)
  refine wp_region_held_drew (S := fun w' => Grew w w' ∧ w'.cell? ⟨b, o + i * 12, none⟩ = some (.int .i64 p.pri) ∧ w'.cell? ⟨b, o + i * 12 + 1, none⟩ = some (.int .u64 (uv p.m.vh)) ∧ w'.cell? ⟨b, o + i * 12 + 2, none⟩ = some (.int .u64 (uv p.m.vl)) ∧ w'.cell? ⟨b, o + i * 12 + 3, none⟩ = some (.int .u64 (uv p.m.ch)) ∧ w'.cell? ⟨b, o + i * 12 + 4, none⟩ = some (.int .u64 (uv p.m.cl)) ∧ w'.cell? ⟨b, o + i * 12 + 5, none⟩ = some (.int .i64 p.kind) ∧ w'.cell? ⟨b, o + i * 12 + 6, none⟩ = some (.int .i64 p.port) ∧ w'.cell? ⟨b, o + i * 12 + 7, none⟩ = some (.int .i64 p.tab) ∧ w'.cell? ⟨b, o + i * 12 + 8, none⟩ = some (.int .u64 (uv p.s.vh)) ∧ w'.cell? ⟨b, o + i * 12 + 9, none⟩ = some (.int .u64 (uv p.s.vl)) ∧ w'.cell? ⟨b, o + i * 12 + 10, none⟩ = some (.int .u64 (uv p.s.ch)) ∧ w'.cell? ⟨b, o + i * 12 + 11, none⟩ = some (.int .u64 (uv p.s.cl)) ∧ w'.cell? ⟨b, o + j * 12, none⟩ = some (.int .i64 q.pri) ∧ w'.cell? ⟨b, o + j * 12 + 1, none⟩ = some (.int .u64 (uv q.m.vh)) ∧ w'.cell? ⟨b, o + j * 12 + 2, none⟩ = some (.int .u64 (uv q.m.vl)) ∧ w'.cell? ⟨b, o + j * 12 + 3, none⟩ = some (.int .u64 (uv q.m.ch)) ∧ w'.cell? ⟨b, o + j * 12 + 4, none⟩ = some (.int .u64 (uv q.m.cl)) ∧ w'.cell? ⟨b, o + j * 12 + 5, none⟩ = some (.int .i64 q.kind) ∧ w'.cell? ⟨b, o + j * 12 + 6, none⟩ = some (.int .i64 q.port) ∧ w'.cell? ⟨b, o + j * 12 + 7, none⟩ = some (.int .i64 q.tab) ∧ w'.cell? ⟨b, o + j * 12 + 8, none⟩ = some (.int .u64 (uv q.s.vh)) ∧ w'.cell? ⟨b, o + j * 12 + 9, none⟩ = some (.int .u64 (uv q.s.vl)) ∧ w'.cell? ⟨b, o + j * 12 + 10, none⟩ = some (.int .u64 (uv q.s.ch)) ∧ w'.cell? ⟨b, o + j * 12 + 11, none⟩ = some (.int .u64 (uv q.s.cl))) (by kernel_rfl) (HKP.out _ (hHeld.1.trans (Grew.drew1 _))) (fun hHeld => ?_)
  refine wpAnyH_take (i := 0) (oi := ⟨some 18, _, _, _, _, _⟩) (v := ?vg0) rfl (by kernel_rfl) (by kernel_rfl) (by kernel_rfl) (fun _ _ _ h => h) (Or.inl ⟨by rfl, ?yg0⟩) hHeld ?rg0
  case yg0 => (intro w' hSw; (try dsimp only at hSw); go_simp; try (with_reducible rfl))
  simp only [Act.put, List.setIfInBounds_toArray, List.set_cons_zero, List.set_cons_succ]
  refine wpAnyH_take (i := 1) (oi := ⟨some 19, _, _, _, _, _⟩) (v := ?vg1) rfl (by kernel_rfl) (by kernel_rfl) (by kernel_rfl) (fun _ _ _ h => h) (Or.inl ⟨by rfl, ?yg1⟩) hHeld ?rg1
  case yg1 => (intro w' hSw; (try dsimp only at hSw); go_simp; try (with_reducible rfl))
  simp only [Act.put, List.setIfInBounds_toArray, List.set_cons_zero, List.set_cons_succ]
  refine wpAnyH_take (i := 2) (oi := ⟨some 20, _, _, _, _, _⟩) (v := ?vg2) rfl (by kernel_rfl) (by kernel_rfl) (by kernel_rfl) (fun _ _ _ h => h) (Or.inl ⟨by rfl, ?yg2⟩) hHeld ?rg2
  case yg2 => (intro w' hSw; (try dsimp only at hSw); go_simp; try (with_reducible rfl))
  simp only [Act.put, List.setIfInBounds_toArray, List.set_cons_zero, List.set_cons_succ]
  refine wpAnyH_take (i := 3) (oi := ⟨some 21, _, _, _, _, _⟩) (v := ?vg3) rfl (by kernel_rfl) (by kernel_rfl) (by kernel_rfl) (fun _ _ _ h => h) (Or.inl ⟨by rfl, ?yg3⟩) hHeld ?rg3
  case yg3 => (intro w' hSw; (try dsimp only at hSw); go_simp; try (with_reducible rfl))
  simp only [Act.put, List.setIfInBounds_toArray, List.set_cons_zero, List.set_cons_succ]
  refine wpAnyH_take (i := 4) (oi := ⟨some 22, _, _, _, _, _⟩) (v := ?vg4) rfl (by kernel_rfl) (by kernel_rfl) (by kernel_rfl) (fun _ _ _ h => h) (Or.inl ⟨by rfl, ?yg4⟩) hHeld ?rg4
  case yg4 => (intro w' hSw; (try dsimp only at hSw); go_simp; try (with_reducible rfl))
  simp only [Act.put, List.setIfInBounds_toArray, List.set_cons_zero, List.set_cons_succ]
  refine wpAnyH_take (i := 5) (oi := ⟨some 23, _, _, _, _, _⟩) (v := ?vg5) rfl (by kernel_rfl) (by kernel_rfl) (by kernel_rfl) (fun _ _ _ h => h) (Or.inl ⟨by rfl, ?yg5⟩) hHeld ?rg5
  case yg5 => (intro w' hSw; (try dsimp only at hSw); go_simp; try (with_reducible rfl))
  simp only [Act.put, List.setIfInBounds_toArray, List.set_cons_zero, List.set_cons_succ]
  refine wpAnyH_take (i := 6) (oi := ⟨some 24, _, _, _, _, _⟩) (v := ?vg6) rfl (by kernel_rfl) (by kernel_rfl) (by kernel_rfl) (fun _ _ _ h => h) (Or.inl ⟨by rfl, ?yg6⟩) hHeld ?rg6
  case yg6 => (intro w' hSw; (try dsimp only at hSw); go_simp; try (with_reducible rfl))
  simp only [Act.put, List.setIfInBounds_toArray, List.set_cons_zero, List.set_cons_succ]
  refine wpAnyH_take (i := 7) (oi := ⟨some 25, _, _, _, _, _⟩) (v := ?vg7) rfl (by kernel_rfl) (by kernel_rfl) (by kernel_rfl) (fun _ _ _ h => h) (Or.inl ⟨by rfl, ?yg7⟩) hHeld ?rg7
  case yg7 => (intro w' hSw; (try dsimp only at hSw); go_simp; try (with_reducible rfl))
  simp only [Act.put, List.setIfInBounds_toArray, List.set_cons_zero, List.set_cons_succ]
  refine wpAnyH_ready (rs := [8]) (by kernel_rfl) (by simp) ?_
  refine AllReadyH.cons (o := ⟨some 26, _, _, _, _, _⟩) rfl (fun K hK => ?_) AllReadyH.nil
  go_simp
  (with_reducible refine (before_g q p true _ H2).mono ?_)
  rintro e w6 ⟨rfl, hb⟩
  (try dsimp only)
  refine hK.out _ _ (HKP.out _ (hHeld.1.trans hb)) (fun hNext => ?_)
  clear hK K hHeld
  have hHeld := hNext
  clear hNext
  try simp only [Act.put, List.setIfInBounds_toArray, List.set_cons_zero, List.set_cons_succ]
  refine wpAnyH_take (i := 9) (oi := ⟨some 17, _, _, _, _, _⟩) (v := ?vg9) rfl (by kernel_rfl) (by kernel_rfl) (by kernel_rfl) (fun _ _ _ h => h) (Or.inl ⟨by rfl, ?yg9⟩) hHeld ?rg9
  case yg9 => (intro w' hSw; (try dsimp only at hSw); go_simp; try (with_reducible rfl))
  simp only [Act.put, List.setIfInBounds_toArray, List.set_cons_zero, List.set_cons_succ]
  refine wpAnyH_done (by kernel_rfl) ?_ _
  have hL := hHeld.1
  clear hHeld HKP
  go_wp2
  go_ret
  exact ⟨rfl, hL⟩
set_option maxHeartbeats 4000000 in
set_option maxRecDepth 100000 in
theorem tcmp_eq (p q : Rl) (i j n b o cap : Nat) (w : World) (hi : i < n) (hj : j < n) (hn : n ≤ 4611686018427387904) (hp : AtR w b (o + i * 12) p) (hq : AtR w b (o + j * 12) q) (r : Int) (h1 : decide (q.pri < p.pri) = false) (h2 : decide (p.pri < q.pri) = false) (h3 : icmp (i : Int) (j : Int) = r) : Calls Try.prog 49 #[.slice (some ⟨b, o, none⟩) n cap, .int .i64 i, .int .i64 j] w fun e w' => e = .returned (.int .i64 r) ∧ Grew w w' := by
  have H1 := h1
  have H2 := h2
  clear h1 h2
  have hiz : (i : Int) < (n : Int) := by omega
  have hjz : (j : Int) < (n : Int) := by omega
  have hnz : (n : Int) ≤ 4611686018427387904 := by omega
  have KP : ∀ W, Grew w W → (Grew w W ∧ W.cell? ⟨b, o + i * 12, none⟩ = some (.int .i64 p.pri) ∧ W.cell? ⟨b, o + i * 12 + 1, none⟩ = some (.int .u64 (uv p.m.vh)) ∧ W.cell? ⟨b, o + i * 12 + 2, none⟩ = some (.int .u64 (uv p.m.vl)) ∧ W.cell? ⟨b, o + i * 12 + 3, none⟩ = some (.int .u64 (uv p.m.ch)) ∧ W.cell? ⟨b, o + i * 12 + 4, none⟩ = some (.int .u64 (uv p.m.cl)) ∧ W.cell? ⟨b, o + i * 12 + 5, none⟩ = some (.int .i64 p.kind) ∧ W.cell? ⟨b, o + i * 12 + 6, none⟩ = some (.int .i64 p.port) ∧ W.cell? ⟨b, o + i * 12 + 7, none⟩ = some (.int .i64 p.tab) ∧ W.cell? ⟨b, o + i * 12 + 8, none⟩ = some (.int .u64 (uv p.s.vh)) ∧ W.cell? ⟨b, o + i * 12 + 9, none⟩ = some (.int .u64 (uv p.s.vl)) ∧ W.cell? ⟨b, o + i * 12 + 10, none⟩ = some (.int .u64 (uv p.s.ch)) ∧ W.cell? ⟨b, o + i * 12 + 11, none⟩ = some (.int .u64 (uv p.s.cl)) ∧ W.cell? ⟨b, o + j * 12, none⟩ = some (.int .i64 q.pri) ∧ W.cell? ⟨b, o + j * 12 + 1, none⟩ = some (.int .u64 (uv q.m.vh)) ∧ W.cell? ⟨b, o + j * 12 + 2, none⟩ = some (.int .u64 (uv q.m.vl)) ∧ W.cell? ⟨b, o + j * 12 + 3, none⟩ = some (.int .u64 (uv q.m.ch)) ∧ W.cell? ⟨b, o + j * 12 + 4, none⟩ = some (.int .u64 (uv q.m.cl)) ∧ W.cell? ⟨b, o + j * 12 + 5, none⟩ = some (.int .i64 q.kind) ∧ W.cell? ⟨b, o + j * 12 + 6, none⟩ = some (.int .i64 q.port) ∧ W.cell? ⟨b, o + j * 12 + 7, none⟩ = some (.int .i64 q.tab) ∧ W.cell? ⟨b, o + j * 12 + 8, none⟩ = some (.int .u64 (uv q.s.vh)) ∧ W.cell? ⟨b, o + j * 12 + 9, none⟩ = some (.int .u64 (uv q.s.vl)) ∧ W.cell? ⟨b, o + j * 12 + 10, none⟩ = some (.int .u64 (uv q.s.ch)) ∧ W.cell? ⟨b, o + j * 12 + 11, none⟩ = some (.int .u64 (uv q.s.cl))) := fun W hb => by
    obtain ⟨x0, x1, x2, x3, x4, x5, x6, x7, x8, x9, x10, x11⟩ := (hp.on hb.below).out
    obtain ⟨y0, y1, y2, y3, y4, y5, y6, y7, y8, y9, y10, y11⟩ := (hq.on hb.below).out
    exact ⟨hb, x0, x1, x2, x3, x4, x5, x6, x7, x8, x9, x10, x11, y0, y1, y2, y3, y4, y5, y6, y7, y8, y9, y10, y11⟩
  have HKP := Lib.hid KP
  clear KP hp hq
  go_enter Try.func49, Try.ntmps49
  go_upto_region 1 with (fail)
  refine wp_region_held_drew (S := fun w' => Grew w w' ∧ w'.cell? ⟨b, o + i * 12, none⟩ = some (.int .i64 p.pri) ∧ w'.cell? ⟨b, o + i * 12 + 1, none⟩ = some (.int .u64 (uv p.m.vh)) ∧ w'.cell? ⟨b, o + i * 12 + 2, none⟩ = some (.int .u64 (uv p.m.vl)) ∧ w'.cell? ⟨b, o + i * 12 + 3, none⟩ = some (.int .u64 (uv p.m.ch)) ∧ w'.cell? ⟨b, o + i * 12 + 4, none⟩ = some (.int .u64 (uv p.m.cl)) ∧ w'.cell? ⟨b, o + i * 12 + 5, none⟩ = some (.int .i64 p.kind) ∧ w'.cell? ⟨b, o + i * 12 + 6, none⟩ = some (.int .i64 p.port) ∧ w'.cell? ⟨b, o + i * 12 + 7, none⟩ = some (.int .i64 p.tab) ∧ w'.cell? ⟨b, o + i * 12 + 8, none⟩ = some (.int .u64 (uv p.s.vh)) ∧ w'.cell? ⟨b, o + i * 12 + 9, none⟩ = some (.int .u64 (uv p.s.vl)) ∧ w'.cell? ⟨b, o + i * 12 + 10, none⟩ = some (.int .u64 (uv p.s.ch)) ∧ w'.cell? ⟨b, o + i * 12 + 11, none⟩ = some (.int .u64 (uv p.s.cl)) ∧ w'.cell? ⟨b, o + j * 12, none⟩ = some (.int .i64 q.pri) ∧ w'.cell? ⟨b, o + j * 12 + 1, none⟩ = some (.int .u64 (uv q.m.vh)) ∧ w'.cell? ⟨b, o + j * 12 + 2, none⟩ = some (.int .u64 (uv q.m.vl)) ∧ w'.cell? ⟨b, o + j * 12 + 3, none⟩ = some (.int .u64 (uv q.m.ch)) ∧ w'.cell? ⟨b, o + j * 12 + 4, none⟩ = some (.int .u64 (uv q.m.cl)) ∧ w'.cell? ⟨b, o + j * 12 + 5, none⟩ = some (.int .i64 q.kind) ∧ w'.cell? ⟨b, o + j * 12 + 6, none⟩ = some (.int .i64 q.port) ∧ w'.cell? ⟨b, o + j * 12 + 7, none⟩ = some (.int .i64 q.tab) ∧ w'.cell? ⟨b, o + j * 12 + 8, none⟩ = some (.int .u64 (uv q.s.vh)) ∧ w'.cell? ⟨b, o + j * 12 + 9, none⟩ = some (.int .u64 (uv q.s.vl)) ∧ w'.cell? ⟨b, o + j * 12 + 10, none⟩ = some (.int .u64 (uv q.s.ch)) ∧ w'.cell? ⟨b, o + j * 12 + 11, none⟩ = some (.int .u64 (uv q.s.cl))) (by kernel_rfl) (HKP.out _ (Grew.drew1 w)) (fun hHeld => ?_)
  refine wpAnyH_take (i := 0) (oi := ⟨some 8, _, _, _, _, _⟩) (v := ?vf0) rfl (by kernel_rfl) (by kernel_rfl) (by kernel_rfl) (fun _ _ _ h => h) (Or.inl ⟨by rfl, ?yf0⟩) hHeld ?rf0
  case yf0 => (intro w' hSw; (try dsimp only at hSw); go_simp; try (with_reducible rfl))
  simp only [Act.put, List.setIfInBounds_toArray, List.set_cons_zero, List.set_cons_succ]
  refine wpAnyH_take (i := 1) (oi := ⟨some 9, _, _, _, _, _⟩) (v := ?vf1) rfl (by kernel_rfl) (by kernel_rfl) (by kernel_rfl) (fun _ _ _ h => h) (Or.inl ⟨by rfl, ?yf1⟩) hHeld ?rf1
  case yf1 => (intro w' hSw; (try dsimp only at hSw); go_simp; try (with_reducible rfl))
  simp only [Act.put, List.setIfInBounds_toArray, List.set_cons_zero, List.set_cons_succ]
  refine wpAnyH_take (i := 2) (oi := ⟨some 10, _, _, _, _, _⟩) (v := ?vf2) rfl (by kernel_rfl) (by kernel_rfl) (by kernel_rfl) (fun _ _ _ h => h) (Or.inl ⟨by rfl, ?yf2⟩) hHeld ?rf2
  case yf2 => (intro w' hSw; (try dsimp only at hSw); go_simp; try (with_reducible rfl))
  simp only [Act.put, List.setIfInBounds_toArray, List.set_cons_zero, List.set_cons_succ]
  refine wpAnyH_take (i := 3) (oi := ⟨some 11, _, _, _, _, _⟩) (v := ?vf3) rfl (by kernel_rfl) (by kernel_rfl) (by kernel_rfl) (fun _ _ _ h => h) (Or.inl ⟨by rfl, ?yf3⟩) hHeld ?rf3
  case yf3 => (intro w' hSw; (try dsimp only at hSw); go_simp; try (with_reducible rfl))
  simp only [Act.put, List.setIfInBounds_toArray, List.set_cons_zero, List.set_cons_succ]
  refine wpAnyH_take (i := 4) (oi := ⟨some 12, _, _, _, _, _⟩) (v := ?vf4) rfl (by kernel_rfl) (by kernel_rfl) (by kernel_rfl) (fun _ _ _ h => h) (Or.inl ⟨by rfl, ?yf4⟩) hHeld ?rf4
  case yf4 => (intro w' hSw; (try dsimp only at hSw); go_simp; try (with_reducible rfl))
  simp only [Act.put, List.setIfInBounds_toArray, List.set_cons_zero, List.set_cons_succ]
  refine wpAnyH_take (i := 5) (oi := ⟨some 13, _, _, _, _, _⟩) (v := ?vf5) rfl (by kernel_rfl) (by kernel_rfl) (by kernel_rfl) (fun _ _ _ h => h) (Or.inl ⟨by rfl, ?yf5⟩) hHeld ?rf5
  case yf5 => (intro w' hSw; (try dsimp only at hSw); go_simp; try (with_reducible rfl))
  simp only [Act.put, List.setIfInBounds_toArray, List.set_cons_zero, List.set_cons_succ]
  refine wpAnyH_take (i := 6) (oi := ⟨some 14, _, _, _, _, _⟩) (v := ?vf6) rfl (by kernel_rfl) (by kernel_rfl) (by kernel_rfl) (fun _ _ _ h => h) (Or.inl ⟨by rfl, ?yf6⟩) hHeld ?rf6
  case yf6 => (intro w' hSw; (try dsimp only at hSw); go_simp; try (with_reducible rfl))
  simp only [Act.put, List.setIfInBounds_toArray, List.set_cons_zero, List.set_cons_succ]
  refine wpAnyH_take (i := 7) (oi := ⟨some 15, _, _, _, _, _⟩) (v := ?vf7) rfl (by kernel_rfl) (by kernel_rfl) (by kernel_rfl) (fun _ _ _ h => h) (Or.inl ⟨by rfl, ?yf7⟩) hHeld ?rf7
  case yf7 => (intro w' hSw; (try dsimp only at hSw); go_simp; try (with_reducible rfl))
  simp only [Act.put, List.setIfInBounds_toArray, List.set_cons_zero, List.set_cons_succ]
  refine wpAnyH_ready (rs := [8]) (by kernel_rfl) (by simp) ?_
  refine AllReadyH.cons (o := ⟨some 16, _, _, _, _, _⟩) rfl (fun K hK => ?_) AllReadyH.nil
  go_simp
  (with_reducible refine (before_g p q false _ H1).mono ?_)
  rintro e w5 ⟨rfl, hb⟩
  (try dsimp only)
  refine hK.out _ _ (HKP.out _ (hHeld.1.trans hb)) (fun hNext => ?_)
  clear hK K hHeld
  have hHeld := hNext
  clear hNext
  try simp only [Act.put, List.setIfInBounds_toArray, List.set_cons_zero, List.set_cons_succ]
  refine wpAnyH_take (i := 9) (oi := ⟨some 7, _, _, _, _, _⟩) (v := ?vf9) rfl (by kernel_rfl) (by kernel_rfl) (by kernel_rfl) (fun _ _ _ h => h) (Or.inl ⟨by rfl, ?yf9⟩) hHeld ?rf9
  case yf9 => (intro w' hSw; (try dsimp only at hSw); go_simp; try (with_reducible rfl))
  simp only [Act.put, List.setIfInBounds_toArray, List.set_cons_zero, List.set_cons_succ]
  refine wpAnyH_done (by kernel_rfl) ?_ _
  go_upto_region 3 with (fail)
  refine wp_region_held_drew (S := fun w' => Grew w w' ∧ w'.cell? ⟨b, o + i * 12, none⟩ = some (.int .i64 p.pri) ∧ w'.cell? ⟨b, o + i * 12 + 1, none⟩ = some (.int .u64 (uv p.m.vh)) ∧ w'.cell? ⟨b, o + i * 12 + 2, none⟩ = some (.int .u64 (uv p.m.vl)) ∧ w'.cell? ⟨b, o + i * 12 + 3, none⟩ = some (.int .u64 (uv p.m.ch)) ∧ w'.cell? ⟨b, o + i * 12 + 4, none⟩ = some (.int .u64 (uv p.m.cl)) ∧ w'.cell? ⟨b, o + i * 12 + 5, none⟩ = some (.int .i64 p.kind) ∧ w'.cell? ⟨b, o + i * 12 + 6, none⟩ = some (.int .i64 p.port) ∧ w'.cell? ⟨b, o + i * 12 + 7, none⟩ = some (.int .i64 p.tab) ∧ w'.cell? ⟨b, o + i * 12 + 8, none⟩ = some (.int .u64 (uv p.s.vh)) ∧ w'.cell? ⟨b, o + i * 12 + 9, none⟩ = some (.int .u64 (uv p.s.vl)) ∧ w'.cell? ⟨b, o + i * 12 + 10, none⟩ = some (.int .u64 (uv p.s.ch)) ∧ w'.cell? ⟨b, o + i * 12 + 11, none⟩ = some (.int .u64 (uv p.s.cl)) ∧ w'.cell? ⟨b, o + j * 12, none⟩ = some (.int .i64 q.pri) ∧ w'.cell? ⟨b, o + j * 12 + 1, none⟩ = some (.int .u64 (uv q.m.vh)) ∧ w'.cell? ⟨b, o + j * 12 + 2, none⟩ = some (.int .u64 (uv q.m.vl)) ∧ w'.cell? ⟨b, o + j * 12 + 3, none⟩ = some (.int .u64 (uv q.m.ch)) ∧ w'.cell? ⟨b, o + j * 12 + 4, none⟩ = some (.int .u64 (uv q.m.cl)) ∧ w'.cell? ⟨b, o + j * 12 + 5, none⟩ = some (.int .i64 q.kind) ∧ w'.cell? ⟨b, o + j * 12 + 6, none⟩ = some (.int .i64 q.port) ∧ w'.cell? ⟨b, o + j * 12 + 7, none⟩ = some (.int .i64 q.tab) ∧ w'.cell? ⟨b, o + j * 12 + 8, none⟩ = some (.int .u64 (uv q.s.vh)) ∧ w'.cell? ⟨b, o + j * 12 + 9, none⟩ = some (.int .u64 (uv q.s.vl)) ∧ w'.cell? ⟨b, o + j * 12 + 10, none⟩ = some (.int .u64 (uv q.s.ch)) ∧ w'.cell? ⟨b, o + j * 12 + 11, none⟩ = some (.int .u64 (uv q.s.cl))) (by kernel_rfl) (HKP.out _ (hHeld.1.trans (Grew.drew1 _))) (fun hHeld => ?_)
  refine wpAnyH_take (i := 0) (oi := ⟨some 18, _, _, _, _, _⟩) (v := ?vg0) rfl (by kernel_rfl) (by kernel_rfl) (by kernel_rfl) (fun _ _ _ h => h) (Or.inl ⟨by rfl, ?yg0⟩) hHeld ?rg0
  case yg0 => (intro w' hSw; (try dsimp only at hSw); go_simp; try (with_reducible rfl))
  simp only [Act.put, List.setIfInBounds_toArray, List.set_cons_zero, List.set_cons_succ]
  refine wpAnyH_take (i := 1) (oi := ⟨some 19, _, _, _, _, _⟩) (v := ?vg1) rfl (by kernel_rfl) (by kernel_rfl) (by kernel_rfl) (fun _ _ _ h => h) (Or.inl ⟨by rfl, ?yg1⟩) hHeld ?rg1
  case yg1 => (intro w' hSw; (try dsimp only at hSw); go_simp; try (with_reducible rfl))
  simp only [Act.put, List.setIfInBounds_toArray, List.set_cons_zero, List.set_cons_succ]
  refine wpAnyH_take (i := 2) (oi := ⟨some 20, _, _, _, _, _⟩) (v := ?vg2) rfl (by kernel_rfl) (by kernel_rfl) (by kernel_rfl) (fun _ _ _ h => h) (Or.inl ⟨by rfl, ?yg2⟩) hHeld ?rg2
  case yg2 => (intro w' hSw; (try dsimp only at hSw); go_simp; try (with_reducible rfl))
  simp only [Act.put, List.setIfInBounds_toArray, List.set_cons_zero, List.set_cons_succ]
  refine wpAnyH_take (i := 3) (oi := ⟨some 21, _, _, _, _, _⟩) (v := ?vg3) rfl (by kernel_rfl) (by kernel_rfl) (by kernel_rfl) (fun _ _ _ h => h) (Or.inl ⟨by rfl, ?yg3⟩) hHeld ?rg3
  case yg3 => (intro w' hSw; (try dsimp only at hSw); go_simp; try (with_reducible rfl))
  simp only [Act.put, List.setIfInBounds_toArray, List.set_cons_zero, List.set_cons_succ]
  refine wpAnyH_take (i := 4) (oi := ⟨some 22, _, _, _, _, _⟩) (v := ?vg4) rfl (by kernel_rfl) (by kernel_rfl) (by kernel_rfl) (fun _ _ _ h => h) (Or.inl ⟨by rfl, ?yg4⟩) hHeld ?rg4
  case yg4 => (intro w' hSw; (try dsimp only at hSw); go_simp; try (with_reducible rfl))
  simp only [Act.put, List.setIfInBounds_toArray, List.set_cons_zero, List.set_cons_succ]
  refine wpAnyH_take (i := 5) (oi := ⟨some 23, _, _, _, _, _⟩) (v := ?vg5) rfl (by kernel_rfl) (by kernel_rfl) (by kernel_rfl) (fun _ _ _ h => h) (Or.inl ⟨by rfl, ?yg5⟩) hHeld ?rg5
  case yg5 => (intro w' hSw; (try dsimp only at hSw); go_simp; try (with_reducible rfl))
  simp only [Act.put, List.setIfInBounds_toArray, List.set_cons_zero, List.set_cons_succ]
  refine wpAnyH_take (i := 6) (oi := ⟨some 24, _, _, _, _, _⟩) (v := ?vg6) rfl (by kernel_rfl) (by kernel_rfl) (by kernel_rfl) (fun _ _ _ h => h) (Or.inl ⟨by rfl, ?yg6⟩) hHeld ?rg6
  case yg6 => (intro w' hSw; (try dsimp only at hSw); go_simp; try (with_reducible rfl))
  simp only [Act.put, List.setIfInBounds_toArray, List.set_cons_zero, List.set_cons_succ]
  refine wpAnyH_take (i := 7) (oi := ⟨some 25, _, _, _, _, _⟩) (v := ?vg7) rfl (by kernel_rfl) (by kernel_rfl) (by kernel_rfl) (fun _ _ _ h => h) (Or.inl ⟨by rfl, ?yg7⟩) hHeld ?rg7
  case yg7 => (intro w' hSw; (try dsimp only at hSw); go_simp; try (with_reducible rfl))
  simp only [Act.put, List.setIfInBounds_toArray, List.set_cons_zero, List.set_cons_succ]
  refine wpAnyH_ready (rs := [8]) (by kernel_rfl) (by simp) ?_
  refine AllReadyH.cons (o := ⟨some 26, _, _, _, _, _⟩) rfl (fun K hK => ?_) AllReadyH.nil
  go_simp
  (with_reducible refine (before_g q p false _ H2).mono ?_)
  rintro e w6 ⟨rfl, hb⟩
  (try dsimp only)
  refine hK.out _ _ (HKP.out _ (hHeld.1.trans hb)) (fun hNext => ?_)
  clear hK K hHeld
  have hHeld := hNext
  clear hNext
  try simp only [Act.put, List.setIfInBounds_toArray, List.set_cons_zero, List.set_cons_succ]
  refine wpAnyH_take (i := 9) (oi := ⟨some 17, _, _, _, _, _⟩) (v := ?vg9) rfl (by kernel_rfl) (by kernel_rfl) (by kernel_rfl) (fun _ _ _ h => h) (Or.inl ⟨by rfl, ?yg9⟩) hHeld ?rg9
  case yg9 => (intro w' hSw; (try dsimp only at hSw); go_simp; try (with_reducible rfl))
  simp only [Act.put, List.setIfInBounds_toArray, List.set_cons_zero, List.set_cons_succ]
  refine wpAnyH_done (by kernel_rfl) ?_ _
  have hL := hHeld.1
  clear hHeld HKP
  go_wp2_with fail
  (with_reducible refine (cmpI_g _ _ r _ h3).mono ?_)
  rintro e w7 ⟨rfl, hb⟩
  have hM := hL.trans hb
  clear hL hb
  go_wp2
  go_ret
  exact ⟨rfl, hM⟩
theorem tcmp_g (p q : Rl) (r : Int) (i j n b o cap : Nat) (w : World) (hi : i < n) (hj : j < n) (hn : n ≤ 4611686018427387904) (hp : AtR w b (o + i * 12) p) (hq : AtR w b (o + j * 12) q) (hr : cfP p q i j = r) : Calls Try.prog 49 #[.slice (some ⟨b, o, none⟩) n cap, .int .i64 i, .int .i64 j] w fun e w' => e = .returned (.int .i64 r) ∧ Grew w w' := by
  unfold cfP at hr
  by_cases h1 : q.pri < p.pri
  · rw [if_pos h1] at hr; subst hr
    exact tcmp_lt p q i j n b o cap w hi hj hn hp hq (decide_eq_true h1)
  · rw [if_neg h1] at hr
    by_cases h2 : p.pri < q.pri
    · rw [if_pos h2] at hr; subst hr
      exact tcmp_gt p q i j n b o cap w hi hj hn hp hq (decide_eq_false h1) (decide_eq_true h2)
    · rw [if_neg h2] at hr
      exact tcmp_eq p q i j n b o cap w hi hj hn hp hq r (decide_eq_false h1) (decide_eq_false h2) hr
end Go.Proofs

namespace Go.Proofs
open Go.Shelf Go.RowKit Go.Proofs.Hd
end Go.Proofs

namespace Go.Proofs
open Go.RowKit Go.Proofs.Hd
attribute [local go_sem] uv_nonneg
end Go.Proofs

namespace Go.Proofs.Hd
open Go.RowKit
def hArr (h l : BitVec 64) : Array Value := #[.int .u64 (uv h), .int .u64 (uv l)]
theorem Blk.two {w : World} {g : Nat} {t : TypeId} {p q : BitVec 64} (h : Blk w g t (hArr p q)) : w.cell? ⟨g, 0, none⟩ = some (.int .u64 (uv p)) ∧ w.cell? ⟨g, 1, none⟩ = some (.int .u64 (uv q)) := ⟨h.cell 0, h.cell 1⟩
end Go.Proofs.Hd

namespace Go.Proofs
open Go.RowKit Go.Proofs.Hd
attribute [local go_sem] uv_and uv_or uv_xor uv_andNot uv_shr uv_shl uv_add uv_sub uv_nonneg
attribute [local go_sem high] run_eq2 run_eq4
end Go.Proofs

namespace Go.Proofs
open Go.RowKit Go.Proofs.Hd
attribute [local go_sem] uv_nonneg
theorem put_z (a n : Nat) (v : BitVec 64) (w : World) (hn : a + n ≤ 128) (h64 : n ≤ 64) (hv : ¬ uv (low n) < uv v) :
    Calls Try.prog 70 #[.agg #[.int .u64 0, .int .u64 0], .int .i64 a, .int .i64 n, .int .u64 (uv v)] w fun e w' => e = .returned (.tuple #[.agg #[.int .u64 (uv (putH 0#64 a n v)), .int .u64 (uv (putL 0#64 a n v))], .int .i64 0]) ∧ Below w.heap.size w w' :=
  put_c 0#64 0#64 a n v w hn h64 hv
theorem mask_i (x : Int) (a n : Nat) (w : World) (hx : x = (a : Int)) (h : a + n ≤ 128) : Calls Try.prog 71 #[.int .i64 x, .int .i64 n] w fun e w' => e = .returned (.tuple #[.agg #[.int .u64 (uv (maskH a n)), .int .u64 (uv (maskL a n))], .int .i64 0]) ∧ Below w.heap.size w w' := by
  subst hx; exact mask_c a n w h

set_option maxHeartbeats 1000000 in
theorem cfield_yes (a n len : Nat) (v : BitVec 64) (w : World) (hn : a + n ≤ 128) (h64 : n ≤ 64) (hv : ¬ uv (low n) < uv v) (hl : len ≤ n) :
    Calls Try.prog 57 #[.int .i64 a, .int .i64 n, .int .u64 (uv v), .int .i64 len] w fun e w' => e = .returned (.tuple #[.agg #[.int .u64 (uv (putH 0#64 a n v &&& maskH (a + n - len) len)), .int .u64 (uv (putL 0#64 a n v &&& maskL (a + n - len) len)), .int .u64 (uv (maskH (a + n - len) len)), .int .u64 (uv (maskL (a + n - len) len))], .int .i64 0]) ∧ Below w.heap.size w w' := by
  have HV := Lib.hid hv
  clear hv
  have b0 := below1 w (.cells #[.int .u64 0, .int .u64 0, .int .u64 0, .int .u64 0] 34)
  have Z0 := zero4_new w
  go_enter Try.func57, Try.ntmps57
  go_wp2_with fail
  (with_reducible refine (put_z a n v _ hn h64 (by have := HV.out; omega)).mono ?_)
  rintro e w1 ⟨rfl, hb1⟩
  have B1 := b0.trans (hb1.mono b0.size)
  have Z1 := Zero4.on hb1 Z0
  have bl1 := below1 w1 (.cells #[.int .u64 (uv (putH 0#64 a n v)), .int .u64 (uv (putL 0#64 a n v))] 25)
  have X1 : Blk (w1.alloc (.cells #[.int .u64 (uv (putH 0#64 a n v)), .int .u64 (uv (putL 0#64 a n v))] 25)) w1.heap.size 25 (hArr (putH 0#64 a n v) (putL 0#64 a n v)) := Blk.new w1 _ _
  have B2 := B1.trans (bl1.mono B1.size)
  have Z2 := Zero4.on bl1 Z1
  clear hb1 Z0 b0 B1 Z1 bl1
  have hl' : (len : Int) ≤ n := by omega
  go_wp2_with fail
  (with_reducible refine (mask_i _ (a + n - len) len _ (by omega) (by omega)).mono ?_)
  rintro e w3 ⟨rfl, hb3⟩
  have B3 := B2.trans (hb3.mono B2.size)
  have Z3 := Zero4.on hb3 Z2
  have X3 := X1.on hb3
  have x3 := X3.two
  have l3 : w1.heap.size < w3.heap.size := X3.lt
  clear hb3 Z2 X1 B2
  have bl3 := below1 w3 (.cells #[.int .u64 (uv (maskH (a + n - len) len)), .int .u64 (uv (maskL (a + n - len) len))] 25)
  have B4 := B3.trans (bl3.mono B3.size)
  have Z4 := Zero4.on bl3 Z3
  clear Z3 B3 bl3
  go_wp2_with fail
  (with_reducible refine (make_c _ _ _ _ _).mono ?_)
  rintro e w5 ⟨rfl, hb5⟩
  have B5 := B4.trans (hb5.mono B4.size)
  have Z5 := Zero4.on hb5 Z4
  have Y5 := Z5.out
  clear Z4 B4 hb5 x3 X3
  go_wp2
  exact bodyPost_ret (v := .tuple #[.agg #[.int .u64 (uv (putH 0#64 a n v &&& maskH (a + n - len) len)), .int .u64 (uv (putL 0#64 a n v &&& maskL (a + n - len) len)), .int .u64 (uv (maskH (a + n - len) len)), .int .u64 (uv (maskL (a + n - len) len))], .int .i64 0]) (by simp [results, Try.results57, go_sem, Y5]) rfl ⟨rfl, B5.trans ((sets4 _ _ _ _ _ _).mono (Nat.le_refl _))⟩

end Go.Proofs

namespace Go.Proofs
open Go.RowKit Go.Proofs.Hd
attribute [local go_sem] uv_nonneg eq4_self
attribute [local go_sem high] run_eq2 run_eq4
end Go.Proofs

namespace Go.Proofs
open Go.RowKit Go.Proofs.Hd
attribute [local go_sem] uv_nonneg eq4_self eq2_self
attribute [local go_sem high] run_eq2 run_eq4
theorem chas (x : Bool) (c : Cb) (hh hl : BitVec 64) (w : World) (h : c.has hh hl = x) : Calls Try.prog 50 #[.agg #[.int .u64 (uv c.vh), .int .u64 (uv c.vl), .int .u64 (uv c.ch), .int .u64 (uv c.cl)], .agg #[.int .u64 (uv hh), .int .u64 (uv hl)]] w fun e w' => e = .returned (.bool x) ∧ Below w.heap.size w w' := by
  subst h; exact has_c _ _ _ _ _ _ _
end Go.Proofs

namespace Go.Proofs.Hd
open Go.RowKit Go.Sort
/-- Does the match of rule number k have a header? -/
def hasI (L : List Rl) (x y : BitVec 64) (k : Nat) : Bool := L[k]!.m.has x y
/-- The first rule that is tried and has the header. -/
def fndI (L : List Rl) (x y : BitVec 64) : Option Nat := (ordI L).find? (hasI L x y)
theorem leI_lt {L : List Rl} {a b : Nat} (h : decide (cfB L a b < 0) = true) : leI L a b = true := by
  rw [cfB_lt, decide_eq_true_eq] at h
  unfold leI
  rw [decide_eq_true_eq]
  omega
theorem leI_ge {L : List Rl} {a b : Nat} (h : decide (cfB L a b < 0) = false) : leI L b a = true := by
  rw [cfB_lt, decide_eq_false_iff_not] at h
  unfold leI
  rw [decide_eq_true_eq]
  omega
theorem leI_self (L : List Rl) (a : Nat) : leI L a a = true := by unfold leI; rw [decide_eq_true_eq]; omega
theorem mem_ordI {L : List Rl} {k : Nat} : k ∈ ordI L ↔ k < L.length := by rw [(ordI_perm L).mem_iff, List.mem_range]
theorem fndI_none {L : List Rl} {x y : BitVec 64} (h : ∀ k, k < L.length → hasI L x y k = false) : fndI L x y = none := by
  unfold fndI
  rw [List.find?_eq_none]
  intro k hk
  rw [h k (mem_ordI.1 hk)]
  simp
theorem find_sorted {P : Nat → Bool} {R : Nat → Nat → Prop} (ra : ∀ a b, R a b → R b a → a = b) : ∀ {ks : List Nat} {b : Nat}, ks.Pairwise R → b ∈ ks → P b = true → (∀ k ∈ ks, P k = true → R b k) → ks.find? P = some b := by
  intro ks
  induction ks with
  | nil => intro b _ hb; simp at hb
  | cons a ks ih =>
    intro b hs hb hp hm
    rw [List.pairwise_cons] at hs
    rw [List.find?_cons]
    cases ha : P a with
    | true =>
      rcases List.mem_cons.1 hb with e | hb2
      · rw [e]
      · rw [ra a b (hs.1 b hb2) (hm a (List.mem_cons_self ..) ha)]
    | false =>
      rcases List.mem_cons.1 hb with e | hb2
      · rw [e, ha] at hp; cases hp
      · exact ih hs.2 hb2 hp (fun k hk => hm k (List.mem_cons_of_mem _ hk))
theorem fndI_some {L : List Rl} {x y : BitVec 64} {b : Nat} (hb : b < L.length) (hp : hasI L x y b = true) (h : ∀ k, k < L.length → hasI L x y k = true → leI L b k = true) : fndI L x y = some b :=
  find_sorted (R := fun a b => leI L a b = true) (fun a b => leI_anti L a b) (ordI_sorted L) (mem_ordI.2 hb) hp (fun k hk hpk => h k (mem_ordI.1 hk) hpk)
/-- What stands as the first so far, among the first i rules. -/
def FstIs (L : List Rl) (x y : BitVec 64) (i : Nat) (z : Option Nat) : Prop := (z = none ∧ ∀ j, j < i → hasI L x y j = false) ∨ ∃ b, z = some b ∧ b < i ∧ hasI L x y b = true ∧ ∀ j, j < i → hasI L x y j = true → leI L b j = true
theorem FstIs.zero (L : List Rl) (x y : BitVec 64) : FstIs L x y 0 none := .inl ⟨rfl, fun _ hj => absurd hj (Nat.not_lt_zero _)⟩
theorem FstIs.no {L : List Rl} {x y : BitVec 64} {i : Nat} {z : Option Nat} (h : FstIs L x y i z) (hi : hasI L x y i = false) : FstIs L x y (i + 1) z := by
  rcases h with ⟨e, h⟩ | ⟨b, e, hb, hp, h⟩
  · refine .inl ⟨e, fun j hj => ?_⟩
    rcases Nat.lt_or_ge j i with h1 | h1
    · exact h j h1
    · rw [show j = i by omega]; exact hi
  · refine .inr ⟨b, e, by omega, hp, fun j hj hpj => ?_⟩
    rcases Nat.lt_or_ge j i with h1 | h1
    · exact h j h1 hpj
    · rw [show j = i by omega, hi] at hpj; cases hpj
theorem FstIs.first {L : List Rl} {x y : BitVec 64} {i : Nat} (h : FstIs L x y i none) (hi : hasI L x y i = true) : FstIs L x y (i + 1) (some i) := by
  rcases h with ⟨_, h⟩ | ⟨b, e, _⟩
  · refine .inr ⟨i, rfl, by omega, hi, fun j hj hpj => ?_⟩
    rcases Nat.lt_or_ge j i with h1 | h1
    · rw [h j h1] at hpj; cases hpj
    · rw [show j = i by omega]; exact leI_self L i
  · cases e
theorem FstIs.more {L : List Rl} {x y : BitVec 64} {i b : Nat} (h : FstIs L x y i (some b)) (hi : hasI L x y i = true) (hl : leI L i b = true) : FstIs L x y (i + 1) (some i) := by
  rcases h with ⟨e, _⟩ | ⟨b', e, hb, hp, h⟩
  · cases e
  · injection e with e; subst e
    refine .inr ⟨i, rfl, by omega, hi, fun j hj hpj => ?_⟩
    rcases Nat.lt_or_ge j i with h1 | h1
    · exact leI_trans L _ _ _ hl (h j h1 hpj)
    · rw [show j = i by omega]; exact leI_self L i
theorem FstIs.keep {L : List Rl} {x y : BitVec 64} {i b : Nat} (h : FstIs L x y i (some b)) (hl : leI L b i = true) : FstIs L x y (i + 1) (some b) := by
  rcases h with ⟨e, _⟩ | ⟨b', e, hb, hp, h⟩
  · cases e
  · injection e with e; subst e
    refine .inr ⟨b, rfl, by omega, hp, fun j hj hpj => ?_⟩
    rcases Nat.lt_or_ge j i with h1 | h1
    · exact h j h1 hpj
    · rw [show j = i by omega]; exact hl
theorem FstIs.last {L : List Rl} {x y : BitVec 64} {z : Option Nat} (h : FstIs L x y L.length z) : fndI L x y = z := by
  rcases h with ⟨e, h⟩ | ⟨b, e, hb, hp, h⟩
  · rw [e]; exact fndI_none h
  · rw [e]; exact fndI_some hb hp h
theorem FstIs.lt {L : List Rl} {x y : BitVec 64} {i b : Nat} (h : FstIs L x y i (some b)) : b < i := by
  rcases h with ⟨e, _⟩ | ⟨b', e, hb, _⟩
  · cases e
  · injection e with e; subst e; exact hb
/-- A found place as Find hands it back. -/
def fz : Option Nat → Int | some b => (b : Int) | none => 0
theorem at_pos {L : List Rl} {k : Nat} {r : Rl} (h : L[k]? = some r) : L[k]! = r := by
  obtain ⟨hl, e⟩ := List.getElem?_eq_some_iff.1 h
  rw [getElem!_pos L k hl, e]
theorem hasI_at {L : List Rl} {k : Nat} {r : Rl} (h : L[k]? = some r) (x y : BitVec 64) : hasI L x y k = r.m.has x y := by unfold hasI; rw [at_pos h]
theorem cfB_at {L : List Rl} {i j : Nat} {p q : Rl} (hi : L[i]? = some p) (hj : L[j]? = some q) : cfB L i j = cfP p q i j := by unfold cfB; rw [at_pos hi, at_pos hj]
end Go.Proofs.Hd
namespace Go.Proofs
open Go.RowKit Go.Proofs.Hd Go.Sort Go.Lib
attribute [local go_sem] uv_nonneg
set_option maxHeartbeats 4000000 in
set_option maxRecDepth 100000 in
theorem find_c (v : Value) (L : List Rl) (hh hl : BitVec 64) (w : World) (hn : L.length ≤ 4611686018427387904) (hv : Ru w v L) :
    Calls Try.prog 34 #[v, .agg #[.int .u64 (uv hh), .int .u64 (uv hl)]] w fun e w' => e = .returned (.tuple #[.int .i64 (fz (fndI L hh hl)), .bool (fndI L hh hl).isSome]) ∧ Below w.heap.size w w' := by
  obtain ⟨A, cap, rfl, hA⟩ := hv.form
  have hlz : (L.length : Int) ≤ 4611686018427387904 := by omega
  have HA := Lib.hid hA
  have eg : ∀ args w, (callFunc 49 args).run Try.prog w = .ok (.enter 49 args) w := enters_of Try.func49 (by kernel_rfl) rfl
  have B0 := below1 w (.cells #[.int .u64 (uv hh), .int .u64 (uv hl)] 25)
  have X0 : Blk (w.alloc (.cells #[.int .u64 (uv hh), .int .u64 (uv hl)] 25)) w.heap.size 25 #[.int .u64 (uv hh), .int .u64 (uv hl)] := Blk.new w _ _
  have HB := Lib.hid B0
  have HX := Lib.hid X0
  clear hv hA B0 X0
  go_enter Try.func34, Try.ntmps34
  go_wp2
  go_loopg [7, 8, 9, 10, 15] L.length (fun gk s7 s8 _ _ s15 wr => ∃ (k : Nat) (z : Option Nat), k ≤ L.length ∧ gk = L.length - k ∧ s15 = .int .i64 k ∧ s7 = .int .i64 (fz z) ∧ s8 = .bool z.isSome ∧ Hid (FstIs L hh hl k z) ∧ Hid (Below w.heap.size w wr) ∧ Hid (Blk wr w.heap.size 25 #[.int .u64 (uv hh), .int .u64 (uv hl)]))
  case atStart => exact ⟨0, none, Nat.zero_le _, rfl, rfl, rfl, rfl, FstIs.zero L hh hl, HB, HX⟩
  case round =>
    clear HB HX
    obtain ⟨k, z, hk, rfl, rfl, rfl, rfl, HF, HB, HX⟩ := hrel
    by_cases hlt : k < L.length
    · have hltz : (k : Int) < (L.length : Int) := by omega
      obtain ⟨r, hr⟩ : ∃ r, L[k]? = some r := ⟨_, List.getElem?_eq_getElem hlt⟩
      obtain ⟨b, off, rfl, hb, hpc⟩ := HA.out (by intro h; rw [h] at hlt; simp at hlt)
      obtain ⟨c0, c1, c2, c3, c4, c5, c6, c7, c8, c9, c10, c11⟩ := ((hpc k r hr).on HB.out).out
      have hb1 := below1 wr (.cells #[.int .i64 r.pri, .int .u64 (uv r.m.vh), .int .u64 (uv r.m.vl), .int .u64 (uv r.m.ch), .int .u64 (uv r.m.cl), .int .i64 r.kind, .int .i64 r.port, .int .i64 r.tab, .int .u64 (uv r.s.vh), .int .u64 (uv r.s.vl), .int .u64 (uv r.s.ch), .int .u64 (uv r.s.cl)] 38)
      have HB1 := Lib.hid (HB.out.trans (hb1.mono HB.out.size))
      have HX1 := Lib.hid (HX.out.on hb1)
      have h0 := HX1.out.cell 0
      have h1 := HX1.out.cell 1
      have HR := Lib.hid hr
      have HPC := Lib.hid hpc
      have HI := Lib.hid (hasI_at hr hh hl)
      clear hr hpc hb1 HB HX
      cases hq : r.m.has hh hl with
      | false =>
        go_wp2_with fail
        (with_reducible refine (chas false r.m hh hl _ hq).mono ?_)
        rintro e w2 ⟨rfl, hb2⟩
        have HB2 := Lib.hid (HB1.out.trans (hb2.mono HB1.out.size))
        have HX2 := Lib.hid (HX1.out.on hb2)
        clear HB1 HX1 hb2 h0 h1 c0 c1 c2 c3 c4 c5 c6 c7 c8 c9 c10 c11
        go_wp2
        go_roundg (L.length - (k + 1))
        case measure => omega
        case rel => exact ⟨k + 1, z, by omega, rfl, by go_num, rfl, rfl, HF.out.no (by rw [HI.out, hq]), HB2, HX2⟩
      | true =>
        cases z with
        | none =>
          go_wp2_with fail
          (with_reducible refine (chas true r.m hh hl _ hq).mono ?_)
          rintro e w2 ⟨rfl, hb2⟩
          have HB2 := Lib.hid (HB1.out.trans (hb2.mono HB1.out.size))
          have HX2 := Lib.hid (HX1.out.on hb2)
          clear HB1 HX1 hb2 h0 h1 c0 c1 c2 c3 c4 c5 c6 c7 c8 c9 c10 c11
          go_wp2
          go_roundg (L.length - (k + 1))
          case measure => omega
          case rel => exact ⟨k + 1, some k, by omega, rfl, by go_num, rfl, rfl, HF.out.first (by rw [HI.out, hq]), HB2, HX2⟩
        | some z =>
          have hz := HF.out.lt
          obtain ⟨p, hp⟩ : ∃ p, L[z]? = some p := ⟨_, List.getElem?_eq_getElem (by omega)⟩
          have HP := Lib.hid hp
          clear hp
          obtain ⟨rr, hrr⟩ : ∃ rr, cfP r p k z = rr := ⟨_, rfl⟩
          have HQ : Hid (cfB L k z = rr) := by show _ = _; rw [cfB_at HR.out HP.out, hrr]
          have HRR := Lib.hid hrr
          clear hrr
          go_wp2_with fail
          (with_reducible refine (chas true r.m hh hl _ hq).mono ?_)
          rintro e w2 ⟨rfl, hb2⟩
          have HB2 := Lib.hid (HB1.out.trans (hb2.mono HB1.out.size))
          have HX2 := Lib.hid (HX1.out.on hb2)
          clear HB1 HX1 hb2 h0 h1 c0 c1 c2 c3 c4 c5 c6 c7 c8 c9 c10 c11
          have hcon := tcmp_g r p rr k z L.length b off cap w2 hlt (by omega) hn ((HPC.out k r HR.out).on HB2.out) ((HPC.out z p HP.out).on HB2.out) HRR.out
          cases hd : decide (rr < 0) with
          | true =>
            have hdz : rr < 0 := of_decide_eq_true hd
            go_wp2_with (go_at_fn 49; refine hcon.mono ?_; rintro e w3 ⟨rfl, hb3⟩)
            have HB3 := Lib.hid (HB2.out.trans (hb3.below.mono HB2.out.size))
            have HX3 := Lib.hid (HX2.out.on hb3.below)
            clear HB2 HX2 hb3
            go_roundg (L.length - (k + 1))
            case measure => omega
            case rel => exact ⟨k + 1, some k, by omega, rfl, by go_num, rfl, rfl, HF.out.more (by rw [HI.out, hq]) (leI_lt (by rw [HQ.out]; exact hd)), HB3, HX3⟩
          | false =>
            have hdz : ¬ rr < 0 := of_decide_eq_false hd
            go_wp2_with (go_at_fn 49; refine hcon.mono ?_; rintro e w3 ⟨rfl, hb3⟩)
            have HB3 := Lib.hid (HB2.out.trans (hb3.below.mono HB2.out.size))
            have HX3 := Lib.hid (HX2.out.on hb3.below)
            clear HB2 HX2 hb3
            go_roundg (L.length - (k + 1))
            case measure => omega
            case rel => exact ⟨k + 1, some z, by omega, rfl, by go_num, rfl, rfl, HF.out.keep (leI_ge (by rw [HQ.out]; exact hd)), HB3, HX3⟩
    · have hltz : ¬ (k : Int) < (L.length : Int) := by omega
      obtain rfl : k = L.length := by omega
      have HE : Hid (fndI L hh hl = z) := HF.out.last
      clear HF HA HX
      go_wp2
      go_ret2
      exact ⟨by rw [HE.out]; rfl, HB.out⟩
end Go.Proofs

namespace Go.Proofs.Hd
open Go.RowKit Go.Sort
theorem fnd_at {R : List Rl} {x y : BitVec 64} {j : Nat} (h : fndI R x y = some j) : j < R.length := mem_ordI.1 (List.mem_of_find?_eq_some h)
/-- What was run through ahead stays ahead. -/
theorem runF_acc (f : List Rl → BitVec 64 → BitVec 64 → Option Nat) (T : List (List Pt)) (BB : List (List (List Rl))) : ∀ (k n t : Nat) (hh hl : BitVec 64) (H : List Hp), runF f T BB k n t hh hl H = ⟨(runF f T BB k n t hh hl []).fin, (runF f T BB k n t hh hl []).sw, (runF f T BB k n t hh hl []).sp, H ++ (runF f T BB k n t hh hl []).hops⟩
  | 0, _, _, _, _, H => by simp [runF]
  | k + 1, n, t, hh, hl, H => by
    have ih := runF_acc f T BB k
    rw [runF, runF]
    cases hf : f (tabL BB n t) hh hl with
    | none => simp
    | some i =>
      simp only
      cases hr : (tabL BB n t)[i]? with
      | none => simp
      | some r =>
        simp only
        by_cases h1 : r.kind = 1
        · simp [h1]
        · by_cases h2 : r.kind = 2
          · simp [h2]
          · by_cases h4 : r.kind = 4
            · simp only [h4, if_neg (show ¬ (4 : Int) = 1 by decide), if_neg (show ¬ (4 : Int) = 2 by decide), if_true]
              rw [ih _ _ _ _ (H ++ [_]), ih _ _ _ _ ([] ++ [_])]
              simp
            · simp only [if_neg h1, if_neg h2, if_neg h4]
              rw [ih _ _ _ _ (H ++ [_]), ih _ _ _ _ ([] ++ [_])]
              simp
/-- What a hop of a run is, and what comes behind it. -/
def HopOk (T : List (List Pt)) (BB : List (List (List Rl))) (fin : Int) (x : Hp) (nx : Option Hp) : Prop :=
  ∃ (n t : Nat) (L : List Pt) (R : List Rl), x.sw = (n : Int) ∧ x.tb = (t : Int) ∧ StA T BB n t L R ∧ ((fndI R x.hh x.hl = none ∧ x.rl = -1 ∧ nx = none ∧ fin = 3) ∨ ∃ (j : Nat) (r : Rl), fndI R x.hh x.hl = some j ∧ R[j]? = some r ∧ x.rl = (j : Int) ∧ ∀ y, nx = some y → y.hh = stH r x.hh ∧ y.hl = stL r x.hl)
def Steps (T : List (List Pt)) (BB : List (List (List Rl))) (fin : Int) : List Hp → Prop
  | [] => True
  | x :: H => HopOk T BB fin x H.head? ∧ Steps T BB fin H
theorem Steps.at {T : List (List Pt)} {BB : List (List (List Rl))} {fin : Int} : ∀ {H : List Hp}, Steps T BB fin H → ∀ {i : Nat} {x : Hp}, H[i]? = some x → HopOk T BB fin x H[i + 1]?
  | [], _, i, x, hx => by simp at hx
  | y :: H, h, 0, x, hx => by
    simp only [List.getElem?_cons_zero, Option.some.injEq] at hx
    subst hx
    have h1 := h.1
    rw [List.head?_eq_getElem?] at h1
    simpa using h1
  | y :: H, h, i + 1, x, hx => by
    rw [List.getElem?_cons_succ] at hx
    have h1 := Steps.at h.2 hx
    rwa [List.getElem?_cons_succ]
/-- How a run begins. -/
theorem runF_head (T : List (List Pt)) (BB : List (List (List Rl))) (k n t : Nat) (hh hl : BitVec 64) : ∀ y, (runF fndI T BB k n t hh hl []).hops.head? = some y → y.sw = (n : Int) ∧ y.tb = (t : Int) ∧ y.hh = hh ∧ y.hl = hl := by
  intro y hy
  cases k with
  | zero => simp [runF] at hy
  | succ k =>
    rw [runF] at hy
    cases hf : fndI (tabL BB n t) hh hl with
    | none => rw [hf] at hy; simp at hy; subst hy; exact ⟨rfl, rfl, rfl, rfl⟩
    | some i =>
      rw [hf] at hy
      simp only at hy
      cases hr : (tabL BB n t)[i]? with
      | none => rw [hr] at hy; simp at hy; subst hy; exact ⟨rfl, rfl, rfl, rfl⟩
      | some r =>
        rw [hr] at hy
        simp only at hy
        by_cases h1 : r.kind = 1
        · rw [if_pos h1] at hy; simp at hy; subst hy; exact ⟨rfl, rfl, rfl, rfl⟩
        · rw [if_neg h1] at hy
          by_cases h2 : r.kind = 2
          · rw [if_pos h2] at hy; simp at hy; subst hy; exact ⟨rfl, rfl, rfl, rfl⟩
          · rw [if_neg h2] at hy
            by_cases h4 : r.kind = 4
            · rw [if_pos h4, runF_acc] at hy; simp at hy; subst hy; exact ⟨rfl, rfl, rfl, rfl⟩
            · rw [if_neg h4, runF_acc] at hy; simp at hy; subst hy; exact ⟨rfl, rfl, rfl, rfl⟩
/-- What is known of a whole run: its hops, its end, its length. -/
structure Ran (T : List (List Pt)) (BB : List (List (List Rl))) (k n t : Nat) (r : Rn) : Prop where
  steps : Steps T BB r.fin r.hops
  lo : 1 ≤ r.fin
  hi : r.fin ≤ 4
  loop : r.fin = 4 → r.hops.length = k
  most : r.hops.length ≤ k
  least : 1 ≤ k → 1 ≤ r.hops.length
theorem run_ran {T : List (List Pt)} {ten : Int} {P : List (Int × Int)} {Q : List Wa} {BB : List (List (List Rl))} (h : cfgT T ten P Q BB = 0) : ∀ (k n t : Nat) (hh hl : BitVec 64) (L : List Pt) (R : List Rl), StA T BB n t L R → Ran T BB k n t (runF fndI T BB k n t hh hl [])
  | 0, n, t, hh, hl, L, R, hs => by
    rw [runF]
    exact ⟨trivial, (show (1 : Int) ≤ 4 by decide), (show (4 : Int) ≤ 4 by decide), fun _ => rfl, Nat.le_refl _, fun h => absurd h (by decide)⟩
  | k + 1, n, t, hh, hl, L, R, hs => by
    have ih := run_ran h k
    cases hf : fndI R hh hl with
    | none =>
      rw [runF_miss hs hf]
      refine ⟨⟨⟨n, t, L, R, rfl, rfl, hs, .inl ⟨hf, rfl, rfl, rfl⟩⟩, trivial⟩, (show (1 : Int) ≤ 3 by decide), (show (3 : Int) ≤ 4 by decide), fun e => (by cases e), by simp, fun _ => by simp⟩
    | some i =>
      have hi := fnd_at hf
      have hr : R[i]? = some R[i] := List.getElem?_eq_getElem hi
      rw [runF_hit hs hf hr]
      obtain ⟨-, -, hk⟩ := rule_leads h hs hr
      rcases hk with hk | hk | ⟨hk, j, m, p, L', R', hp, hj, -, hm, hs'⟩ | ⟨hk, u, R', hu, hs'⟩
      · rw [if_pos hk]
        exact ⟨⟨⟨n, t, L, R, rfl, rfl, hs, .inr ⟨i, _, hf, hr, rfl, fun y hy => (by cases hy)⟩⟩, trivial⟩, (show (1 : Int) ≤ 1 by decide), (show (1 : Int) ≤ 4 by decide), fun e => (by cases e), by simp, fun _ => by simp⟩
      · rw [if_neg (by omega), if_pos hk]
        exact ⟨⟨⟨n, t, L, R, rfl, rfl, hs, .inr ⟨i, _, hf, hr, rfl, fun y hy => (by cases hy)⟩⟩, trivial⟩, (show (1 : Int) ≤ 2 by decide), (show (2 : Int) ≤ 4 by decide), fun e => (by cases e), by simp, fun _ => by simp⟩
      · rw [if_neg (by omega), if_neg (by omega), if_neg (by omega), runF_acc, hp, peer_at hs.1 hj hm]
        have g := ih m 0 (stH R[i] hh) (stL R[i] hl) L' R' hs'
        have gh := runF_head T BB k m 0 (stH R[i] hh) (stL R[i] hl)
        refine ⟨⟨⟨n, t, L, R, rfl, rfl, hs, .inr ⟨i, _, hf, hr, rfl, fun y hy => ?_⟩⟩, g.steps⟩, g.lo, g.hi, fun e => ?_, ?_, fun _ => by simp⟩
        · exact (gh y hy).2.2
        · have := g.loop e; simp; omega
        · have := g.most; simp; omega
      · rw [if_neg (by omega), if_neg (by omega), if_pos hk, runF_acc, hu, Int.toNat_natCast]
        have g := ih n u (stH R[i] hh) (stL R[i] hl) L R' hs'
        have gh := runF_head T BB k n u (stH R[i] hh) (stL R[i] hl)
        refine ⟨⟨⟨n, t, L, R, rfl, rfl, hs, .inr ⟨i, _, hf, hr, rfl, fun y hy => ?_⟩⟩, g.steps⟩, g.lo, g.hi, fun e => ?_, ?_, fun _ => by simp⟩
        · exact (gh y hy).2.2
        · have := g.loop e; simp; omega
        · have := g.most; simp; omega
end Go.Proofs.Hd

namespace Go.Proofs.Hd
open Go.RowKit
theorem below_put2 {w : World} {B g : Nat} (hB : B ≤ g) (a0 a1 : Value) : Below B w ((w.setCell ⟨g, 0, none⟩ a0).setCell ⟨g, 1, none⟩ a1) :=
  ((Below.refl B w).setCell (p := ⟨g, 0, none⟩) hB a0).setCell (p := ⟨g, 1, none⟩) hB a1
theorem Blk.put2 {w : World} {g : Nat} {t : TypeId} {x0 x1 : Value} (h : Blk w g t #[x0, x1]) (a0 a1 : Value) : Blk ((w.setCell ⟨g, 0, none⟩ a0).setCell ⟨g, 1, none⟩ a1) g t #[a0, a1] := by
  have h1 := (h.set 0 a0).set 1 a1
  simpa using h1
/-- Where a link leads; none where there is no link. -/
noncomputable def othT (T : List (List Pt)) (n i : Int) : Option (Int × Int) := match ptAt T n i with
  | none => none
  | some p => open Classical in if p.kind = 2 ∧ sTp T = 0 then some (p.peer, p.spot) else none
/-- What Other answers. -/
def OthR (w : World) (o : Option (Int × Int)) (e : Ending) (w' : World) : Prop := (match o with | some p => e = .returned (.tuple #[.agg #[.int .i64 p.1, .int .i64 p.2], .bool true]) | none => e = .returned (.tuple #[.agg #[.int .i64 0, .int .i64 0], .bool false])) ∧ Below w.heap.size w w'
end Go.Proofs.Hd
namespace Go.Proofs
open Go.RowKit Go.Proofs.Hd Go.Lib
set_option maxRecDepth 100000 in
set_option maxHeartbeats 1000000 in
theorem other_c (tv : Value) (T : List (List Pt)) (n i : Int) (w : World) (hT : PsT w tv T) : Calls Try.prog 63 #[.agg #[tv], .agg #[.int .i64 n, .int .i64 i]] w (OthR w (othT T n i)) := by
  have HT := Lib.hid hT
  obtain ⟨A, cap, rfl, htm, -⟩ := hT
  have B0 : Below w.heap.size w (((w.alloc (.cells #[.slice A T.length cap] 42)).alloc (.cells #[.int .i64 n, .int .i64 i] 51)).alloc (.cells #[.int .i64 0, .int .i64 0] 51)) := below3 w _ _ _
  have N0 : Hid (Blk (((w.alloc (.cells #[.slice A T.length cap] 42)).alloc (.cells #[.int .i64 n, .int .i64 i] 51)).alloc (.cells #[.int .i64 0, .int .i64 0] 51)) w.heap.size 42 #[.slice A T.length cap]) := ((Blk.new w _ _).on (below1 _ _)).on (below1 _ _)
  have N2 : Hid (Blk (((w.alloc (.cells #[.slice A T.length cap] 42)).alloc (.cells #[.int .i64 n, .int .i64 i] 51)).alloc (.cells #[.int .i64 0, .int .i64 0] 51)) (w.heap.size + 1 + 1) 51 #[.int .i64 0, .int .i64 0]) := Blk.new3 _ _ _ _ _
  go_enter Try.func63, Try.ntmps63
  go_wp2_with fail
  (with_reducible refine (port_c _ T n i _ (HT.out.on B0)).mono ?_)
  rintro e w1 ⟨he, hb⟩
  have HB := Lib.hid (B0.trans (hb.mono B0.size))
  have M0 := Lib.hid (N0.out.on hb)
  have M2 := Lib.hid (N2.out.on hb)
  clear hb B0 N0 N2
  cases hp : ptAt T n i with
  | none =>
    rw [hp] at he
    simp only at he
    subst he
    have HO : Hid (othT T n i = none) := by show _ = _; unfold othT; rw [hp]
    have hb2 := below1 w1 (.cells #[.int .i64 0, .int .i64 0, .int .i64 0, .int .i64 0, .int .i64 0] 88)
    have M3 := M2.out.on hb2
    have K := M3.put2 (.int .i64 0) (.int .i64 0)
    obtain ⟨y0, y1⟩ := M3.both
    obtain ⟨z0, z1⟩ := K.both
    have f0 := M3.free 0
    have f1 := M3.free 1
    have HB3 := Lib.hid ((HB.out.trans (hb2.mono HB.out.size)).trans (below_put2 (B := w.heap.size) (g := w.heap.size + 1 + 1) (by omega) (.int .i64 0) (.int .i64 0)))
    clear hb2 M3 K HB M0 M2
    go_wp2
    exact bodyPost_ret (v := .tuple #[.agg #[.int .i64 0, .int .i64 0], .bool false]) (by simp [results, Try.results63, go_sem, z0, z1]) rfl ⟨by first | trivial | rw [HO.out], HB3.out⟩
  | some p =>
    rw [hp] at he
    simp only at he
    subst he
    obtain ⟨kd, tn, pr, sp, co⟩ := p
    have hb2 := below1 w1 (.cells #[.int .i64 kd, .int .i64 tn, .int .i64 pr, .int .i64 sp, .int .i64 co] 88)
    by_cases hk : kd = 2
    · subst hk
      have M3 := Lib.hid (M2.out.on hb2)
      have M4 := Lib.hid (M0.out.on hb2)
      have NP : Hid (Blk (w1.alloc (.cells #[.int .i64 2, .int .i64 tn, .int .i64 pr, .int .i64 sp, .int .i64 co] 88)) w1.heap.size 88 #[.int .i64 2, .int .i64 tn, .int .i64 pr, .int .i64 sp, .int .i64 co]) := Blk.new w1 _ _
      have HB2 := Lib.hid (HB.out.trans (hb2.mono HB.out.size))
      have t0 := M4.out.one
      clear hb2 M0 M2 HB
      go_wp2_with fail
      (with_reducible refine (tpsound_c _ T _ (HT.out.on HB2.out)).mono ?_)
      rintro e w3 ⟨rfl, hb3⟩
      have M5 := M3.out.on hb3
      obtain ⟨q0, q1, q2, q3, q4⟩ := (NP.out.on hb3).five
      have HB3 := Lib.hid (HB2.out.trans (hb3.mono HB2.out.size))
      obtain ⟨y0, y1⟩ := M5.both
      have f0 := M5.free 0
      have f1 := M5.free 1
      clear t0 M4 NP M3 hb3 HB2
      by_cases hs : sTp T = 0
      · have HO : Hid (othT T n i = some (pr, sp)) := by show _ = _; unfold othT; rw [hp]; simp only; rw [if_pos (by simp [hs])]
        have K := M5.put2 (.int .i64 pr) (.int .i64 sp)
        obtain ⟨z0, z1⟩ := K.both
        have HB4 := Lib.hid (HB3.out.trans (below_put2 (B := w.heap.size) (g := w.heap.size + 1 + 1) (by omega) (.int .i64 pr) (.int .i64 sp)))
        rw [hs]
        clear M5 K HB3 hs hp
        go_wp2
        exact bodyPost_ret (v := .tuple #[.agg #[.int .i64 pr, .int .i64 sp], .bool true]) (by simp [results, Try.results63, go_sem, z0, z1]) rfl ⟨by first | trivial | rw [HO.out], HB4.out⟩
      · have HO : Hid (othT T n i = none) := by show _ = _; unfold othT; rw [hp]; simp only; rw [if_neg (fun h => hs h.2)]
        have K := M5.put2 (.int .i64 0) (.int .i64 0)
        obtain ⟨z0, z1⟩ := K.both
        have HB4 := Lib.hid (HB3.out.trans (below_put2 (B := w.heap.size) (g := w.heap.size + 1 + 1) (by omega) (.int .i64 0) (.int .i64 0)))
        obtain ⟨x, hx⟩ : ∃ x, sTp T = x := ⟨_, rfl⟩
        rw [hx] at hs ⊢
        clear M5 K HB3 hx hp
        go_wp2
        exact bodyPost_ret (v := .tuple #[.agg #[.int .i64 0, .int .i64 0], .bool false]) (by simp [results, Try.results63, go_sem, z0, z1]) rfl ⟨by first | trivial | rw [HO.out], HB4.out⟩
    · have HO : Hid (othT T n i = none) := by show _ = _; unfold othT; rw [hp]; simp only; rw [if_neg (fun h => hk h.1)]
      have M3 := M2.out.on hb2
      have K := M3.put2 (.int .i64 0) (.int .i64 0)
      obtain ⟨y0, y1⟩ := M3.both
      obtain ⟨z0, z1⟩ := K.both
      have f0 := M3.free 0
      have f1 := M3.free 1
      have HB3 := Lib.hid ((HB.out.trans (hb2.mono HB.out.size)).trans (below_put2 (B := w.heap.size) (g := w.heap.size + 1 + 1) (by omega) (.int .i64 0) (.int .i64 0)))
      have hk2 : (kd != 2) = true := by simp [hk]
      clear hb2 M3 K HB M0 M2 hp
      go_wp2
      exact bodyPost_ret (v := .tuple #[.agg #[.int .i64 0, .int .i64 0], .bool false]) (by simp [results, Try.results63, go_sem, z0, z1]) rfl ⟨by first | trivial | rw [HO.out], HB3.out⟩
end Go.Proofs

namespace Go.Proofs.Hd
open Go.RowKit
theorem eTo_mem {T : List (List Pt)} {x : Rc} : x ∈ eTo T T.length ↔ ∃ L p, T[x.1]? = some L ∧ L[x.2]? = some p ∧ p.kind = 1 := by
  unfold eTo
  rw [List.mem_flatMap]
  constructor
  · rintro ⟨n, hn, hx⟩
    cases hT : T[n]? with
    | none => rw [hT] at hx; simp at hx
    | some L =>
      rw [hT] at hx
      simp only at hx
      unfold eUp at hx
      obtain ⟨i, hi, he⟩ := List.mem_filterMap.1 hx
      cases hp : L[i]? with
      | none => rw [hp] at he; cases he
      | some p =>
        rw [hp] at he
        simp only at he
        by_cases hk : p.kind = 1
        · rw [if_pos hk] at he
          injection he with he
          subst he
          exact ⟨L, p, hT, hp, hk⟩
        · rw [if_neg hk] at he; cases he
  · rintro ⟨L, p, hT, hp, hk⟩
    have h1 := (List.getElem?_eq_some_iff.1 hT).1
    have h2 := (List.getElem?_eq_some_iff.1 hp).1
    refine ⟨x.1, List.mem_range.2 h1, ?_⟩
    rw [hT]
    simp only
    unfold eUp
    refine List.mem_filterMap.2 ⟨x.2, List.mem_range.2 h2, ?_⟩
    rw [hp]
    simp only
    rw [if_pos hk]
theorem edgT_edge {T : List (List Pt)} {n i : Nat} {L : List Pt} {p : Pt} (hL : T[n]? = some L) (hp : L[i]? = some p) (hk : p.kind = 1) : edgT T n i = p.ten := by
  unfold edgT
  rw [ptAt_nat hL hp]
  simp only
  rw [if_pos hk]
/-- Is a policy of the right size, and are the edges' tenants there? -/
def szP (T : List (List Pt)) (ten : Int) (P : List (Int × Int)) (Q : List Wa) : Prop := ¬ (ten < 1 ∨ 4 < ten ∨ 16 < P.length ∨ 4 < Q.length ∨ ¬ okE T ten (eTo T T.length).length)
end Go.Proofs.Hd
namespace Go.Proofs
open Go.RowKit Go.Proofs.Hd Go.Lib
set_option maxRecDepth 100000 in
set_option maxHeartbeats 2000000 in
theorem csized_c (x : Bool) (pv wv tv : Value) (T : List (List Pt)) (ten : Int) (P : List (Int × Int)) (Q : List Wa) (w : World) (hT : PsT w tv T) (hP : Pe w pv P) (hQ : Wy w wv Q) (hn : ports T ≤ 2000000) (hx : x = true ↔ szP T ten P Q) : Calls Try.prog 52 #[.agg #[.int .i64 ten, pv, wv], .agg #[tv]] w fun e w' => e = .returned (.bool x) ∧ Below w.heap.size w w' := by
  have HT := Lib.hid hT
  obtain ⟨A, cap, rfl, htm, hTA⟩ := hT
  obtain ⟨pA, pc, rfl, hpm, -⟩ := hP
  obtain ⟨wA, wc, rfl, hwm, -⟩ := hQ
  have HTA := Lib.hid hTA
  have hpz : (P.length : Int) ≤ 9223372036854775807 := by unfold maxLen at hpm; omega
  have hwz : (Q.length : Int) ≤ 9223372036854775807 := by unfold maxLen at hwm; omega
  have B0 : Below w.heap.size w ((w.alloc (.cells #[.int .i64 ten, .slice pA P.length pc, .slice wA Q.length wc] 46)).alloc (.cells #[.slice A T.length cap] 42)) := below2 w _ _
  have M0 : Hid (Blk ((w.alloc (.cells #[.int .i64 ten, .slice pA P.length pc, .slice wA Q.length wc] 46)).alloc (.cells #[.slice A T.length cap] 42)) w.heap.size 46 #[.int .i64 ten, .slice pA P.length pc, .slice wA Q.length wc]) := (Blk.new w _ _).on (below1 _ _)
  have N0 : Hid (Blk ((w.alloc (.cells #[.int .i64 ten, .slice pA P.length pc, .slice wA Q.length wc] 46)).alloc (.cells #[.slice A T.length cap] 42)) (w.heap.size + 1) 42 #[.slice A T.length cap]) := Blk.new2 w _ _ _
  have bad : (ten < 1 ∨ 4 < ten ∨ 16 < P.length ∨ 4 < Q.length ∨ ¬ okE T ten (eTo T T.length).length) → x = false := fun h => by
    cases hxx : x with
    | false => rfl
    | true => exact absurd h (hx.1 hxx)
  have good : szP T ten P Q → x = true := hx.2
  clear hx hTA hpm hwm
  by_cases h1 : ten < 1
  · have HE := Lib.hid (bad (.inl h1))
    clear bad good M0 N0
    go_enter Try.func52, Try.ntmps52
    go_wp2
    go_ret
    exact ⟨by rw [HE.out]; rfl, B0⟩
  by_cases h2 : 4 < ten
  · have HE := Lib.hid (bad (.inr (.inl h2)))
    clear bad good M0 N0
    go_enter Try.func52, Try.ntmps52
    go_wp2
    go_ret
    exact ⟨by rw [HE.out]; rfl, B0⟩
  by_cases h3 : 16 < P.length
  · have HE := Lib.hid (bad (.inr (.inr (.inl h3))))
    have h3z : (16 : Int) < (P.length : Int) := by omega
    clear bad good M0 N0
    go_enter Try.func52, Try.ntmps52
    go_wp2
    go_ret
    exact ⟨by rw [HE.out]; rfl, B0⟩
  have h3z : ¬ (16 : Int) < (P.length : Int) := by omega
  by_cases h4 : 4 < Q.length
  · have HE := Lib.hid (bad (.inr (.inr (.inr (.inl h4)))))
    have h4z : (4 : Int) < (Q.length : Int) := by omega
    clear bad good M0 N0
    go_enter Try.func52, Try.ntmps52
    go_wp2
    go_ret
    exact ⟨by rw [HE.out]; rfl, B0⟩
  have h4z : ¬ (4 : Int) < (Q.length : Int) := by omega
  have BAD := Lib.hid bad
  have GOOD := Lib.hid good
  clear bad good
  go_enter Try.func52, Try.ntmps52
  go_wp2_with fail
  (with_reducible refine (edges_c _ T _ (HT.out.on B0) hn).mono ?_)
  rintro e w1 ⟨ev, rfl, OE, hb1⟩
  obtain ⟨EE, hEE⟩ : ∃ EE, Hid (eTo T T.length = EE) := ⟨_, rfl⟩
  have hEl : (eTo T T.length).length ≤ 2000000 := Nat.le_trans (eTo_len T T.length (Nat.le_refl _)) (Nat.le_trans (take_le T _) hn)
  rw [hEE.out] at OE hEl
  obtain ⟨eA, ec, rfl, hE⟩ := Spt.of OE
  have HES := Lib.hid hE
  have HB1 := Lib.hid (B0.trans (hb1.mono B0.size))
  have N1 := Lib.hid (N0.out.on hb1)
  have M1 := Lib.hid (M0.out.on hb1)
  have hEz : (EE.length : Int) ≤ 2000000 := by omega
  clear hb1 B0 N0 M0 OE hE
  go_wp2
  go_loopg [6, 30] EE.length (fun gk _ s30 wr => ∃ k : Nat, k ≤ EE.length ∧ gk = EE.length - k ∧ s30 = .int .i64 k ∧ Hid (okE T ten k) ∧ Hid (Below w1.heap.size w1 wr))
  case atStart => exact ⟨0, Nat.zero_le _, rfl, rfl, fun j x hj => absurd hj (Nat.not_lt_zero _), Below.refl _ _⟩
  case round =>
    obtain ⟨k, hk, rfl, rfl, HO, HW⟩ := hrel
    by_cases hlt : k < EE.length
    · have hltz : (k : Int) < (EE.length : Int) := by omega
      obtain ⟨y, hy⟩ : ∃ y, EE[k]? = some y := ⟨_, List.getElem?_eq_getElem hlt⟩
      obtain ⟨eb, rfl, hec⟩ := HES.out (by rintro rfl; simp at hlt)
      have x0 := on_some HW.out (hec k y hy).1
      have x1 := on_some HW.out (hec k y hy).2
      obtain ⟨L, p, hL, hp, hkd⟩ := eTo_mem.1 (by rw [hEE.out]; exact List.mem_of_getElem? hy)
      obtain ⟨xa, xb⟩ := y
      simp only at x0 x1 hL hp
      have HED := Lib.hid (edgT_edge hL hp hkd)
      have hxa := (List.getElem?_eq_some_iff.1 hL).1
      have hxb := (List.getElem?_eq_some_iff.1 hp).1
      obtain ⟨tb, tof, rfl, _, htc⟩ := HTA.out (by rintro rfl; simp at hxa)
      obtain ⟨s, hs, A3, c3, rfl, hLm, hA3⟩ := htc xa L hL
      obtain ⟨b3, o3, rfl, _, hpc⟩ := hA3 (by rintro rfl; simp at hxb)
      have hap := (hpc xb p hp).2.1
      have HBW := Lib.hid (HB1.out.trans (HW.out.mono HB1.out.size))
      have cs := on_some HBW.out hs
      have cp := on_some HBW.out hap
      obtain ⟨d0, d1, d2⟩ := (M1.out.on HW.out).three
      have t2 := (N1.out.on HW.out).single
      have HXX := Lib.hid hy
      have hxaz : (xa : Int) < (T.length : Int) := by omega
      have hxbz : (xb : Int) < (L.length : Int) := by omega
      clear hec hy hL hp htc hA3 hpc hs hap hkd
      have bS := below1 wr (.cells #[.int .i64 xa, .int .i64 xb] 51)
      have nS := Blk.new wr 51 #[.int .i64 xa, .int .i64 xb]
      obtain ⟨ten3, hten3⟩ : ∃ ten3, p.ten = ten3 := ⟨_, rfl⟩
      rw [hten3] at HED cp
      clear hten3
      go_upto_region 6 with (fail)
      generalize wr.alloc (.cells #[.int .i64 xa, .int .i64 xb] 51) = w5 at bS nS ⊢
      obtain ⟨s0, s1⟩ := nS.both
      have HB5 := Lib.hid (HW.out.trans (bS.mono HW.out.size))
      have cs := on_some bS cs
      have cp := on_some bS cp
      have d0 := on_some bS d0
      have t2 := on_some bS t2
      clear bS nS x0 x1 d1 d2
      cases hin : Hd.inB ten3 ten with
      | true =>
        have HO2 : Hid (okE T ten (k + 1)) := fun j z hj hz => by
          by_cases e : j = k
          · subst e
            rw [hEE.out, HXX.out] at hz
            injection hz with hz
            subst hz
            simp only
            rw [HED.out]
            exact hin
          · exact HO.out j z (by omega) hz
        go_wp2_with fail
        go_quiet ((go_at_call 68; with_reducible exact Calls.quiet_of_same (cwin_c true ten3 ten _ hin)))
        have HB6 := Lib.hid (bldrewN HB5.out nq)
        go_wp2
        go_roundg (EE.length - (k + 1))
        case measure => omega
        case rel => exact ⟨k + 1, by omega, rfl, by go_num, HO2, HB6⟩
      | false =>
        have HE : Hid (x = false) := BAD.out (.inr (.inr (.inr (.inr fun h => by
          rw [hEE.out] at h
          have := h k (xa, xb) hlt (by rw [hEE.out]; exact HXX.out)
          simp only at this
          rw [HED.out, hin] at this
          cases this))))
        go_wp2_with fail
        go_quiet ((go_at_call 68; with_reducible exact Calls.quiet_of_same (cwin_c false ten3 ten _ hin)))
        have HB6 := Lib.hid (bldrewN HB5.out nq)
        go_wp2
        go_ret
        exact ⟨by rw [HE.out]; rfl, HB1.out.trans (HB6.out.mono HB1.out.size)⟩
    · have hltz : ¬ (k : Int) < (EE.length : Int) := by omega
      obtain rfl : k = EE.length := by omega
      have HE : Hid (x = true) := GOOD.out (by
        rintro (h | h | h | h | h)
        · omega
        · omega
        · exact h3 h
        · exact h4 h
        · exact h (by rw [hEE.out]; exact HO.out))
      go_wp2
      go_ret
      exact ⟨by rw [HE.out]; rfl, HB1.out.trans (HW.out.mono HB1.out.size)⟩
end Go.Proofs

namespace Go.Proofs
open Go.RowKit Go.Proofs.Hd Go.Lib
set_option maxRecDepth 100000 in
set_option maxHeartbeats 2000000 in
theorem cformed_c (x : Bool) (pv wv : Value) (N : Nat) (ten : Int) (P : List (Int × Int)) (Q : List Wa) (w : World) (hP : Pe w pv P) (hQ : Wy w wv Q) (hx : x = true ↔ okPe P ten P.length ∧ okWy Q ten N Q.length) : Calls Try.prog 53 #[.agg #[.int .i64 ten, pv, wv], .int .i64 (N : Int)] w fun e w' => e = .returned (.bool x) ∧ Below w.heap.size w w' := by
  obtain ⟨pA, pc, rfl, hpm, hPA⟩ := hP
  obtain ⟨wA, wc, rfl, hwm, hWA⟩ := hQ
  have HPA := Lib.hid hPA
  have HWA := Lib.hid hWA
  have hpz : (P.length : Int) ≤ 9223372036854775807 := by unfold maxLen at hpm; omega
  have hwz : (Q.length : Int) ≤ 9223372036854775807 := by unfold maxLen at hwm; omega
  have B0 : Hid (Below w.heap.size w (w.alloc (.cells #[.int .i64 ten, .slice pA P.length pc, .slice wA Q.length wc] 46))) := below1 w _
  have M0 : Hid (Blk (w.alloc (.cells #[.int .i64 ten, .slice pA P.length pc, .slice wA Q.length wc] 46)) w.heap.size 46 #[.int .i64 ten, .slice pA P.length pc, .slice wA Q.length wc]) := Blk.new w _ _
  have bad : ¬ (okPe P ten P.length ∧ okWy Q ten N Q.length) → x = false := fun h => by
    cases hxx : x with
    | false => rfl
    | true => exact absurd (hx.1 hxx) h
  have BAD := Lib.hid bad
  have GOOD := Lib.hid hx.2
  clear hx bad hPA hWA hpm hwm
  obtain ⟨d0, d1, d2⟩ := M0.out.three
  go_enter Try.func53, Try.ntmps53
  go_wp2
  clear d0 d1 d2
  generalize w.alloc (.cells #[.int .i64 ten, .slice pA P.length pc, .slice wA Q.length wc] 46) = w1 at B0 M0
  go_loopg [6, 12] P.length (fun gk _ s12 wr => ∃ k : Nat, k ≤ P.length ∧ gk = P.length - k ∧ s12 = .int .i64 k ∧ Hid (okPe P ten k) ∧ Hid (Below w1.heap.size w1 wr))
  case atStart => exact ⟨0, Nat.zero_le _, rfl, rfl, fun j x hj => absurd hj (Nat.not_lt_zero _), Below.refl _ _⟩
  case round =>
    obtain ⟨k, hk, rfl, rfl, HO, HW⟩ := hrel
    by_cases hlt : k < P.length
    · have hltz : (k : Int) < (P.length : Int) := by omega
      obtain ⟨y, hy⟩ : ∃ y, P[k]? = some y := ⟨_, List.getElem?_eq_getElem hlt⟩
      obtain ⟨pb, po, rfl, _, hc⟩ := HPA.out (by rintro rfl; simp at hlt)
      have HBW := Lib.hid (B0.out.trans (HW.out.mono B0.out.size))
      have x0 := on_some HBW.out (hc k y hy).1
      have x1 := on_some HBW.out (hc k y hy).2
      have HXX := Lib.hid hy
      obtain ⟨ya, yb⟩ := y
      simp only at x0 x1
      obtain ⟨d0, d1, d2⟩ := (M0.out.on HW.out).three
      have bS := below1 wr (.cells #[.int .i64 ya, .int .i64 yb] 102)
      have nS := Blk.new wr 102 #[.int .i64 ya, .int .i64 yb]
      clear hc hy
      go_upto_region 4 with (fail)
      generalize wr.alloc (.cells #[.int .i64 ya, .int .i64 yb] 102) = w5 at bS nS ⊢
      obtain ⟨s0, s1⟩ := nS.duo
      have HB5 := Lib.hid (HW.out.trans (bS.mono HW.out.size))
      have d0 := on_some bS d0
      clear bS nS x0 x1 d1 d2
      cases h1 : Hd.inB ya ten with
      | false =>
        have HE : Hid (x = false) := BAD.out fun h => by
          have := (h.1 k _ hlt HXX.out).1
          simp only at this
          rw [h1] at this
          cases this
        go_wp2_with fail
        (with_reducible refine (cwin_c false ya ten _ h1).mono ?_)
        rintro e w6 ⟨rfl, rfl⟩
        go_wp2
        go_ret
        exact ⟨by rw [HE.out]; rfl, B0.out.trans (HB5.out.mono B0.out.size)⟩
      | true =>
        cases h2 : Hd.inB yb ten with
        | false =>
          have HE : Hid (x = false) := BAD.out fun h => by
            have := (h.1 k _ hlt HXX.out).2
            simp only at this
            rw [h2] at this
            cases this
          go_wp2_with fail
          (with_reducible refine (cwin_c true ya ten _ h1).mono ?_)
          rintro e w6 ⟨rfl, rfl⟩
          go_wp2_with fail
          (with_reducible refine (cwin_c false yb ten _ h2).mono ?_)
          rintro e w7 ⟨rfl, rfl⟩
          go_wp2
          go_ret
          exact ⟨by rw [HE.out]; rfl, B0.out.trans (HB5.out.mono B0.out.size)⟩
        | true =>
          have HO2 : Hid (okPe P ten (k + 1)) := fun j z hj hz => by
            by_cases e : j = k
            · subst e
              rw [HXX.out] at hz
              injection hz with hz
              subst hz
              exact ⟨h1, h2⟩
            · exact HO.out j z (by omega) hz
          go_wp2_with fail
          (with_reducible refine (cwin_c true ya ten _ h1).mono ?_)
          rintro e w6 ⟨rfl, rfl⟩
          go_wp2_with fail
          (with_reducible refine (cwin_c true yb ten _ h2).mono ?_)
          rintro e w7 ⟨rfl, rfl⟩
          go_wp2
          go_roundg (P.length - (k + 1))
          case measure => omega
          case rel => exact ⟨k + 1, by omega, rfl, by go_num, HO2, HB5⟩
    · have hltz : ¬ (k : Int) < (P.length : Int) := by omega
      obtain rfl : k = P.length := by omega
      obtain ⟨d0, d1, d2⟩ := (M0.out.on HW.out).three
      have HOP := HO
      go_wp2
      clear d0 d1 d2
      go_loopg [8, 34] Q.length (fun gk _ s34 wq => ∃ k : Nat, k ≤ Q.length ∧ gk = Q.length - k ∧ s34 = .int .i64 k ∧ Hid (okWy Q ten N k) ∧ Hid (Below w1.heap.size w1 wq))
      case atStart => exact ⟨0, Nat.zero_le _, rfl, rfl, fun j x hj => absurd hj (Nat.not_lt_zero _), HW⟩
      case round =>
        clear HW
        rename_i wr0
        obtain ⟨k, hk, rfl, rfl, HO, HW⟩ := hrel
        by_cases hlt : k < Q.length
        · have hltz : (k : Int) < (Q.length : Int) := by omega
          obtain ⟨y, hy⟩ : ∃ y, Q[k]? = some y := ⟨_, List.getElem?_eq_getElem hlt⟩
          obtain ⟨qb, qo, rfl, _, hc⟩ := HWA.out (by rintro rfl; simp at hlt)
          have HBW := Lib.hid (B0.out.trans (HW.out.mono B0.out.size))
          have x0 := on_some HBW.out (hc k y hy).1
          have x1 := on_some HBW.out (hc k y hy).2.1
          have x2 := on_some HBW.out (hc k y hy).2.2
          have HXX := Lib.hid hy
          obtain ⟨ya, yb, yc⟩ := y
          simp only at x0 x1 x2
          obtain ⟨d0, d1, d2⟩ := (M0.out.on HW.out).three
          have bS := below1 wr (.cells #[.int .i64 ya, .int .i64 yb, .int .i64 yc] 104)
          have nS := Blk.new wr 104 #[.int .i64 ya, .int .i64 yb, .int .i64 yc]
          clear hc hy
          go_upto_region 10 with (fail)
          generalize wr.alloc (.cells #[.int .i64 ya, .int .i64 yb, .int .i64 yc] 104) = w5 at bS nS ⊢
          obtain ⟨s0, s1, s2⟩ := nS.three
          have HB5 := Lib.hid (HW.out.trans (bS.mono HW.out.size))
          have d0 := on_some bS d0
          clear bS nS x0 x1 x2 d1 d2
          cases h1 : Hd.inB ya ten with
          | false =>
            have HE : Hid (x = false) := BAD.out fun h => by
              have := (h.2 k _ hlt HXX.out).1
              simp only at this
              rw [h1] at this
              cases this
            go_wp2_with fail
            (with_reducible refine (cwin_c false ya ten _ h1).mono ?_)
            rintro e w6 ⟨rfl, rfl⟩
            go_wp2
            go_ret
            exact ⟨by rw [HE.out]; rfl, B0.out.trans (HB5.out.mono B0.out.size)⟩
          | true =>
            cases h2 : Hd.inB yb ten with
            | false =>
              have HE : Hid (x = false) := BAD.out fun h => by
                have := (h.2 k _ hlt HXX.out).2.1
                simp only at this
                rw [h2] at this
                cases this
              go_wp2_with fail
              (with_reducible refine (cwin_c true ya ten _ h1).mono ?_)
              rintro e w6 ⟨rfl, rfl⟩
              go_wp2_with fail
              (with_reducible refine (cwin_c false yb ten _ h2).mono ?_)
              rintro e w7 ⟨rfl, rfl⟩
              go_wp2
              go_ret
              exact ⟨by rw [HE.out]; rfl, B0.out.trans (HB5.out.mono B0.out.size)⟩
            | true =>
              cases h3 : Hd.inB yc N with
              | false =>
                have HE : Hid (x = false) := BAD.out fun h => by
                  have := (h.2 k _ hlt HXX.out).2.2
                  simp only at this
                  rw [h3] at this
                  cases this
                go_wp2_with fail
                (with_reducible refine (cwin_c true ya ten _ h1).mono ?_)
                rintro e w6 ⟨rfl, rfl⟩
                go_wp2_with fail
                (with_reducible refine (cwin_c true yb ten _ h2).mono ?_)
                rintro e w7 ⟨rfl, rfl⟩
                go_wp2_with fail
                (with_reducible refine (cwin_c false yc N _ h3).mono ?_)
                rintro e w8 ⟨rfl, rfl⟩
                go_wp2
                go_ret
                exact ⟨by rw [HE.out]; rfl, B0.out.trans (HB5.out.mono B0.out.size)⟩
              | true =>
                have HO2 : Hid (okWy Q ten N (k + 1)) := fun j z hj hz => by
                  by_cases e : j = k
                  · subst e
                    rw [HXX.out] at hz
                    injection hz with hz
                    subst hz
                    exact ⟨h1, h2, h3⟩
                  · exact HO.out j z (by omega) hz
                go_wp2_with fail
                (with_reducible refine (cwin_c true ya ten _ h1).mono ?_)
                rintro e w6 ⟨rfl, rfl⟩
                go_wp2_with fail
                (with_reducible refine (cwin_c true yb ten _ h2).mono ?_)
                rintro e w7 ⟨rfl, rfl⟩
                go_wp2_with fail
                (with_reducible refine (cwin_c true yc N _ h3).mono ?_)
                rintro e w8 ⟨rfl, rfl⟩
                go_wp2
                go_roundg (Q.length - (k + 1))
                case measure => omega
                case rel => exact ⟨k + 1, by omega, rfl, by go_num, HO2, HB5⟩
        · have hltz : ¬ (k : Int) < (Q.length : Int) := by omega
          obtain rfl : k = Q.length := by omega
          have HE : Hid (x = true) := GOOD.out ⟨HOP.out, HO.out⟩
          go_wp2
          go_ret
          exact ⟨by rw [HE.out]; rfl, B0.out.trans (HW.out.mono B0.out.size)⟩
end Go.Proofs

namespace Go.Proofs.Hd
open Go.RowKit
theorem polT_size {T : List (List Pt)} {ten : Int} {P : List (Int × Int)} {Q : List Wa} (h : ¬ szP T ten P Q) : polT T ten P Q = 4 := by
  unfold polT
  rw [if_pos (Classical.not_not.1 h)]
theorem polT_form {T : List (List Pt)} {ten : Int} {P : List (Int × Int)} {Q : List Wa} (h : szP T ten P Q) (h2 : ¬ (okPe P ten P.length ∧ okWy Q ten T.length Q.length)) : polT T ten P Q = 2 := by
  unfold polT
  rw [if_neg h, if_pos]
  by_cases h3 : okPe P ten P.length
  · exact .inr fun h4 => h2 ⟨h3, h4⟩
  · exact .inl h3
theorem polT_ok {T : List (List Pt)} {ten : Int} {P : List (Int × Int)} {Q : List Wa} (h : szP T ten P Q) (h2 : okPe P ten P.length ∧ okWy Q ten T.length Q.length) : polT T ten P Q = 0 := by
  unfold polT
  rw [if_neg h, if_neg]
  rintro (h3 | h3)
  · exact h3 h2.1
  · exact h3 h2.2
theorem yes_no (p : Prop) : ∃ x : Bool, x = true ↔ p := by
  by_cases h : p
  · exact ⟨true, fun _ => h, fun _ => rfl⟩
  · exact ⟨false, fun h2 => (by cases h2), fun h2 => absurd h2 h⟩
end Go.Proofs.Hd
namespace Go.Proofs
open Go.RowKit Go.Proofs.Hd Go.Lib
set_option maxRecDepth 100000 in
set_option maxHeartbeats 4000000 in
theorem csound_c (tv pv wv bv : Value) (T : List (List Pt)) (ten : Int) (P : List (Int × Int)) (Q : List Wa) (BB : List (List (List Rl))) (w : World) (hT : PsT w tv T) (hP : Pe w pv P) (hQ : Wy w wv Q) (hB : RuQ w bv BB) : Calls Try.prog 36 #[.agg #[tv, .int .i64 ten, pv, wv, bv]] w fun e w' => e = .returned (.int .i64 (cfgT T ten P Q BB)) ∧ Below w.heap.size w w' := by
  have HT := Lib.hid hT
  have HP := Lib.hid hP
  have HQ := Lib.hid hQ
  obtain ⟨A, cap, rfl, htm, hA⟩ := hT
  obtain ⟨pA, pc, rfl, -, -⟩ := hP
  obtain ⟨wA, wc, rfl, -, -⟩ := hQ
  obtain ⟨bA, bc, rfl, hbm, hBA⟩ := hB
  have hbz : (BB.length : Int) ≤ 9223372036854775807 := by unfold maxLen at hbm; omega
  have B0 : Below w.heap.size w (w.alloc (.cells #[.slice A T.length cap, .int .i64 ten, .slice pA P.length pc, .slice wA Q.length wc, .slice bA BB.length bc] 49)) := below1 w _
  have N0 : Hid (Blk (w.alloc (.cells #[.slice A T.length cap, .int .i64 ten, .slice pA P.length pc, .slice wA Q.length wc, .slice bA BB.length bc] 49)) w.heap.size 49 #[.slice A T.length cap, .int .i64 ten, .slice pA P.length pc, .slice wA Q.length wc, .slice bA BB.length bc]) := Blk.new w _ _
  have HA := Lib.hid hA
  have HBA := Lib.hid hBA
  clear hA hBA
  go_enter Try.func36, Try.ntmps36
  go_wp2_with fail
  (with_reducible refine (tpsound_c _ T _ (HT.out.on B0)).mono ?_)
  rintro e w1 ⟨rfl, hb1⟩
  have HB1 := Lib.hid (B0.trans (hb1.mono B0.size))
  have N1 := Lib.hid (N0.out.on hb1)
  clear hb1 B0 N0
  by_cases hs : sTp T = 0
  · obtain ⟨d0, d1, d2, d3, d4⟩ := N1.out.five
    have hn := ports_sound hs
    have h6 := (szT_iff.1 (sTp_zero hs).1).2.1
    have HC : Hid (cfgT T ten P Q BB = if polT T ten P Q = 0 then (if BB.length = T.length then firT BB T else 4) else polT T ten P Q) := by show _ = _; unfold cfgT; rw [if_pos hs]
    rw [hs]
    clear hs
    obtain ⟨x, hx⟩ := yes_no (szP T ten P Q)
    go_wp2_with fail
    (with_reducible refine (csized_c x _ _ _ T ten P Q _ (HT.out.on HB1.out) (HP.out.on HB1.out) (HQ.out.on HB1.out) hn hx).mono ?_)
    rintro e w2 ⟨rfl, hb2⟩
    have HB2 := Lib.hid (HB1.out.trans (hb2.mono HB1.out.size))
    have N2 := Lib.hid (N1.out.on hb2)
    clear hb2 HB1 N1 d0 d1 d2 d3 d4
    have HXZ := Lib.hid hx
    clear hx
    cases x with
    | false =>
      have HE : Hid (cfgT T ten P Q BB = 4) := by
        show _ = _
        rw [HC.out, polT_size fun h => by have := HXZ.out.2 h; cases this]
        rfl
      go_wp2
      go_ret
      exact ⟨by rw [HE.out]; rfl, HB2.out⟩
    | true =>
      have HS1 : Hid (szP T ten P Q) := HXZ.out.1 rfl
      clear HXZ
      obtain ⟨d0, d1, d2, d3, d4⟩ := N2.out.five
      obtain ⟨y, hy⟩ := yes_no (okPe P ten P.length ∧ okWy Q ten T.length Q.length)
      go_wp2_with fail
      (with_reducible refine (cformed_c y _ _ T.length ten P Q _ (HP.out.on HB2.out) (HQ.out.on HB2.out) hy).mono ?_)
      rintro e w3 ⟨rfl, hb3⟩
      have HB3 := Lib.hid (HB2.out.trans (hb3.mono HB2.out.size))
      have N3 := Lib.hid (N2.out.on hb3)
      clear hb3 HB2 N2 d0 d1 d2 d3 d4
      have HYZ := Lib.hid hy
      clear hy
      cases y with
      | false =>
        have HE : Hid (cfgT T ten P Q BB = 2) := by
          show _ = _
          rw [HC.out, polT_form HS1.out fun h => by have := HYZ.out.2 h; cases this]
          rfl
        go_wp2
        go_ret
        exact ⟨by rw [HE.out]; rfl, HB3.out⟩
      | true =>
        have HC2 : Hid (cfgT T ten P Q BB = if BB.length = T.length then firT BB T else 4) := by
          show _ = _
          rw [HC.out, polT_ok HS1.out (HYZ.out.1 rfl), if_pos rfl]
        clear HC HYZ
        obtain ⟨d0, d1, d2, d3, d4⟩ := N3.out.five
        by_cases hl : BB.length = T.length
        · have HC : Hid (cfgT T ten P Q BB = firT BB T) := by show _ = _; rw [HC2.out, if_pos hl]
          have hbl : (BB.length : Int) ≤ 6 := by omega
          have HL := Lib.hid hl
          have hne1 : ((BB.length : Int) != (T.length : Int)) = false := by simp [hl]
          clear hl HC2
          go_wp2
          clear d0 d1 d2 d3 d4
          go_loopg [4, 5, 6, 38] BB.length (fun gk _ _ _ s38 wr => ∃ k : Nat, k ≤ BB.length ∧ gk = BB.length - k ∧ s38 = .int .i64 k ∧ Hid (firT BB T = firT (BB.drop k) (T.drop k)) ∧ Hid (Below w3.heap.size w3 wr))
          case atStart => exact ⟨0, Nat.zero_le _, rfl, rfl, rfl, Below.refl _ _⟩
          case round =>
            obtain ⟨k, hk, rfl, rfl, HF, HW⟩ := hrel
            have HB4 := Lib.hid (HB3.out.trans (HW.out.mono HB3.out.size))
            obtain ⟨d0, d1, d2, d3, d4⟩ := (N3.out.on HW.out).five
            by_cases hlt : k < BB.length
            · have hltz : (k : Int) < (BB.length : Int) := by omega
              have hkT : k < T.length := by have := HL.out; omega
              have hkTz : (k : Int) < (T.length : Int) := by omega
              obtain ⟨B, hBk⟩ : ∃ B, BB[k]? = some B := ⟨_, List.getElem?_eq_getElem hlt⟩
              obtain ⟨L, hLk⟩ : ∃ L, T[k]? = some L := ⟨_, List.getElem?_eq_getElem hkT⟩
              obtain ⟨bb, bo, rfl, _, hbc⟩ := HBA.out (by rintro rfl; simp at hlt)
              obtain ⟨tb, tof, rfl, _, htc⟩ := HA.out (by rintro rfl; simp at hkT)
              obtain ⟨s1, hs1, hR⟩ := hbc k B hBk
              obtain ⟨s2, hs2, hPs⟩ := htc k L hLk
              have hPo := hPs.po
              obtain ⟨A1, c1, rfl, -⟩ := id hR
              obtain ⟨A2, c2, rfl, -⟩ := id hPs
              have x1 := on_some HB4.out hs1
              have x2 := on_some HB4.out hs2
              have HR := Lib.hid hR
              have HPo := Lib.hid hPo
              have HN := Lib.hid (firT_at hBk hLk)
              obtain ⟨z, hz⟩ : ∃ z, sT B (L.map Pt.kind) = z := ⟨_, rfl⟩
              rw [hz] at HN
              have HZ := Lib.hid hz
              clear hbc htc hs1 hs2 hR hPs hPo hBk hLk hz
              go_wp2_with fail
              (with_reducible refine (tabs_c _ _ B (L.map Pt.kind) _ (HR.out.on HB4.out) (HPo.out.on HB4.out)).mono ?_)
              rintro e w5 ⟨rfl, hb⟩
              rw [HZ.out]
              have HBE := Lib.hid (HB4.out.trans (hb.mono HB4.out.size))
              have HWE := Lib.hid (HW.out.trans (hb.mono HW.out.size))
              clear HB4 HW d0 d1 d2 d3 d4 hb x1 x2
              by_cases hz0 : z = 0
              · subst hz0
                rw [if_pos rfl] at HN
                have HF2 : Hid (firT BB T = firT (BB.drop (k + 1)) (T.drop (k + 1))) := HF.out.trans HN.out
                go_wp2
                go_roundg (BB.length - (k + 1))
                case measure => omega
                case rel => exact ⟨k + 1, by omega, rfl, by go_num, HF2, HWE⟩
              · rw [if_neg hz0] at HN
                have HE : Hid (cfgT T ten P Q BB = z) := HC.out.trans (HF.out.trans HN.out)
                go_wp2
                go_ret
                exact ⟨by rw [HE.out]; rfl, HBE.out⟩
            · have hltz : ¬ (k : Int) < (BB.length : Int) := by omega
              have HE : Hid (cfgT T ten P Q BB = 0) := HC.out.trans (HF.out.trans (firT_end T (by omega)))
              go_wp2
              go_ret
              exact ⟨by rw [HE.out]; rfl, HB4.out⟩
        · have HE : Hid (cfgT T ten P Q BB = 4) := by show _ = _; rw [HC2.out, if_neg hl]
          have hlz : ¬ (BB.length : Int) = (T.length : Int) := by omega
          have hne1 : ((BB.length : Int) != (T.length : Int)) = true := bne_iff_ne.2 hlz
          clear HC2
          go_wp2
          go_ret
          exact ⟨by rw [HE.out]; rfl, HB3.out⟩
  · have HE : Hid (cfgT T ten P Q BB = sTp T) := by show _ = _; unfold cfgT; rw [if_neg hs]
    obtain ⟨q, hq⟩ : ∃ q, sTp T = q := ⟨_, rfl⟩
    rw [hq] at hs HE ⊢
    clear hq
    go_wp2
    go_ret
    exact ⟨by rw [HE.out]; rfl, HB1.out⟩
end Go.Proofs

namespace Go.Proofs.Hd
open Go.RowKit
/-- The bits a .. a + k - 1. -/
def mk (a k : Nat) : Nat → Bool := fun j => decide (a ≤ j) && decide (j < a + k)
end Go.Proofs.Hd
