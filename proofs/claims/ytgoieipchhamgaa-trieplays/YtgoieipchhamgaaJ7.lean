/-
  Numbers in memory (Nm); contracts of ids.Sound, of slices.Index, slices.Contains and ids.Has, and of the law's own has. Conditions as each theorem lists them.
  Numbers in a row that a call owns. Conditions as each theorem lists them.
  The library's contract of slices.Sort over ints lies at this program: its functions' bodies are compared by the kernel. No conditions.
  Contracts of (*Trie).Overlap and (*Trie).Match. Conditions as each theorem lists them.
  Contract of (*Trie).Match and of the law's awake. Conditions as each theorem lists them.
-/
import Derived.Test.YtgoieipchhamgaaJ6
import Derived.Deep.LoopGhost
import Derived.BigQuiet
import Derived.Lib.Hide
import Derived.Shelf.RegionOpenPlain
import Derived.Shelf.Sort.Plain
import Derived.Shelf.Slices.In.SortNone
import Derived.Test.YtgoieipchhamgaaProg
import Derived.Sort.OwnSortedInts
namespace Go.Proofs.Hd
open Go.RowKit
/-- v is a slice that reads as the numbers L (a nil one let in), no longer than its capacity. -/
def Nm (w : World) (v : Value) (L : List Int) : Prop := ∃ A c, v = .slice A L.length c ∧ L.length ≤ c ∧ c ≤ maxLen ∧ (L = [] ∨ ∃ b o, A = some ⟨b, o, none⟩ ∧ b < w.heap.size ∧ ∀ (k : Nat) (x : Int), L[k]? = some x → w.cell? ⟨b, o + k, none⟩ = some (.int .i64 x))
theorem Nm.on {w w' : World} {v : Value} {L : List Int} (h : Nm w v L) (hb : Below w.heap.size w w') : Nm w' v L := by
  obtain ⟨A, c, e, h1, h2, h3⟩ := h
  refine ⟨A, c, e, h1, h2, ?_⟩
  rcases h3 with h | ⟨b, o, e, hlt, h⟩
  · exact .inl h
  · exact .inr ⟨b, o, e, Nat.lt_of_lt_of_le hlt hb.size, fun k x hk => on_some hb (h k x hk)⟩
theorem Nm.nil (w : World) : Nm w (.slice none 0 0) [] := ⟨none, 0, rfl, Nat.le_refl _, Nat.zero_le _, .inl rfl⟩
theorem bdn {B : Nat} {w w' : World} (h : Below B w w') (n : Nat) : Below B w (w'.drewN n) := ⟨h.os, h.tape, h.output, h.size, h.block⟩
theorem Nm.take {w : World} {A : Option Addr} {n c : Nat} {L : List Int} (h : Nm w (.slice A n c) L) {k : Nat} (hk : k ≤ L.length) : Nm w (.slice A k c) (L.take k) := by
  obtain ⟨A', c', e, h1, h2, h3⟩ := h
  injection e with e1 e2 e3
  subst e1 e2 e3
  have hl : (L.take k).length = k := by rw [List.length_take]; omega
  refine ⟨A, c, by rw [hl], by omega, h2, ?_⟩
  rcases h3 with h | ⟨b, o, e, hlt, h⟩
  · left; rw [h]; simp
  · refine .inr ⟨b, o, e, hlt, fun j x hj => h j x ?_⟩
    rw [List.getElem?_take] at hj
    split at hj
    · exact hj
    · cases hj
theorem incB_iff {L : List Int} : decide (Inc L) = true ↔ Inc L := by simp
/-- The step of Sound. -/
theorem inc_step {L : List Int} {j k : Nat} {y z : Int} (e : j + 1 = k) (hy : L[j]? = some y) (hz : L[k]? = some z) : Inc (L.take (k + 1)) ↔ Inc (L.take k) ∧ y < z := by
  subst e
  exact inc_take_succ hy hz
theorem inc_one {L : List Int} {k : Nat} (h : k ≤ 1) : Inc (L.take k) := by
  match L, k, h with
  | [], k, _ => simp [Inc]
  | a :: L, 0, _ => simp [Inc]
  | a :: L, 1, _ => simp [Inc]
theorem inc_take {L : List Int} (h : Inc L) (k : Nat) : Inc (L.take k) := List.Pairwise.sublist (List.take_sublist k L) h
theorem pred_wrap {j k : Nat} (e : j + 1 = k) (h : k ≤ 4611686018427387904) : IntKind.i64.wrap ((k : Int) - 1) = (j : Int) := by rw [IntKind.wrap_i64]; omega
end Go.Proofs.Hd
namespace Go.Proofs
open Go.RowKit Go.Proofs.Hd Go.Lib
attribute [local go_sem] uv_nonneg
end Go.Proofs

namespace Go.Proofs.Hd
open Go.RowKit Go.Lib
/-- Numbers as cells. -/
def iv (L : List Int) : List Value := L.map (Value.int .i64)
theorem iv_len (L : List Int) : (iv L).length = L.length := by simp [iv]
theorem iv_app (A B : List Int) : iv A ++ iv B = iv (A ++ B) := by simp [iv]
theorem add_plainN (b o j : Nat) : (⟨b, o, none⟩ : Addr).add j = ⟨b, o + j, none⟩ := by simp [Addr.add]
theorem Nm.src {w : World} {v : Value} {L : List Int} (h : Nm w v L) : Src w 1 v L.length (iv L) := by
  obtain ⟨A, c, rfl, h1, h2, h3⟩ := h
  refine ⟨by simp [iv], ?_, ?_⟩
  · intro u hu
    simp only [iv, List.mem_map] at hu
    obtain ⟨x, _, rfl⟩ := hu
    rfl
  rcases h3 with rfl | ⟨b, o, rfl, _, hc⟩
  · cases A with
    | none => exact .inl ⟨rfl, c, rfl⟩
    | some ad => exact .inr ⟨ad, c, rfl, fun j u hj => by simp [iv] at hj⟩
  · refine .inr ⟨_, c, rfl, fun j u hj => ?_⟩
    simp only [iv, List.getElem?_map, Option.map_eq_some_iff] at hj
    obtain ⟨x, hx, rfl⟩ := hj
    rw [add_plainN]; exact hc j x hx
/-- Numbers were returned, in memory of the call's own or in none. -/
def GotN (w : World) (L : List Int) (e : Ending) (w' : World) : Prop := ∃ v, e = .returned v ∧ Nm w' v L ∧ Below w.heap.size w w'
/-- Numbers were returned in a row of the call's own. -/
def GotO (w : World) (L : List Int) (e : Ending) (w' : World) : Prop := ∃ v, e = .returned v ∧ w'.ownsRow w.heap.size 3 1 v L.length (iv L) ∧ Below w.heap.size w w'
theorem own_Nm {w : World} {base : Nat} {e : TypeId} {v : Value} {n : Nat} {L : List Int} (h : w.ownsRow base e 1 v n (iv L)) : Nm w v L := by
  have hl : L.length = n := by simpa [iv] using h.1
  rcases h.2 with ⟨rfl, rfl⟩ | ⟨g, cap, cur, rfl, hge, hheap, hnc, hcm, _⟩
  · obtain rfl : L = [] := List.eq_nil_of_length_eq_zero hl
    exact Nm.nil w
  · subst hl
    refine ⟨_, cap, rfl, hnc, hcm, .inr ⟨g, 0, rfl, ?_, fun k x hk => ?_⟩⟩
    · rcases Nat.lt_or_ge g w.heap.size with h1 | h1
      · exact h1
      · rw [Array.getElem?_eq_none h1] at hheap; cases hheap
    · have hkl := (List.getElem?_eq_some_iff.1 hk).1
      rw [Nat.zero_add, h.cellAt k (by omega)]
      simp [iv, hk]
end Go.Proofs.Hd

namespace Go.Proofs
open Go.Shelf Go.RowKit Go.Lib Go.Sort
def Try.lays189_ren : Go.Shelf.Ren := ⟨fun | 189 => 29 | 125 => 39 | 257 => 38 | 128 => 56 | 129 => 43 | 294 => 47 | 295 => 48 | 296 => 49 | 297 => 50 | 298 => 51 | 299 => 52 | 216 => 53 | 300 => 54 | 301 => 55 | 328 => 59 | 329 => 60 | 330 => 61 | 331 => 62 | 332 => 63 | 215 => 64 | 343 => 65 | n => n, fun | 28 => 41 | 3 => 3 | 46 => 75 | 0 => 0 | 51 => 101 | 53 => 23 | 4 => 4 | 183 => 94 | 182 => 93 | 131 => 98 | 5 => 5 | 9 => 9 | 218 => 103 | 222 => 107 | 228 => 109 | 229 => 110 | n => n, fun | n => n⟩
theorem Try.lays189 : Go.Proofs.Lays.n189 Try.prog Try.lays189_ren := {
  mixed := by kernel_rfl
  f125 := Try.func39.trans (congrArg some (by kernel_rfl))
  f128 := Try.func56.trans (congrArg some (by kernel_rfl))
  f129 := Try.func43.trans (congrArg some (by kernel_rfl))
  f189 := Try.func29.trans (congrArg some (by kernel_rfl))
  f215 := Try.func64.trans (congrArg some (by kernel_rfl))
  f216 := Try.func53.trans (congrArg some (by kernel_rfl))
  f257 := Try.func38.trans (congrArg some (by kernel_rfl))
  f294 := Try.func47.trans (congrArg some (by kernel_rfl))
  f295 := Try.func48.trans (congrArg some (by kernel_rfl))
  f296 := Try.func49.trans (congrArg some (by kernel_rfl))
  f297 := Try.func50.trans (congrArg some (by kernel_rfl))
  f298 := Try.func51.trans (congrArg some (by kernel_rfl))
  f299 := Try.func52.trans (congrArg some (by kernel_rfl))
  f300 := Try.func54.trans (congrArg some (by kernel_rfl))
  f301 := Try.func55.trans (congrArg some (by kernel_rfl))
  f328 := Try.func59.trans (congrArg some (by kernel_rfl))
  f329 := Try.func60.trans (congrArg some (by kernel_rfl))
  f330 := Try.func61.trans (congrArg some (by kernel_rfl))
  f331 := Try.func62.trans (congrArg some (by kernel_rfl))
  f332 := Try.func63.trans (congrArg some (by kernel_rfl))
  f343 := Try.func65.trans (congrArg some (by kernel_rfl))
  t0 := Try.underlying0
  a0 := Try.isAgg0
  z0 := Try.sizeOf0
  v0 := Try.zeroValue0
  t3 := Try.underlying3
  a3 := Try.isAgg3
  z3 := Try.sizeOf3
  v3 := Try.zeroValue3
  t4 := Try.underlying4
  a4 := Try.isAgg4
  z4 := Try.sizeOf4
  v4 := Try.zeroValue4
  t5 := Try.underlying5
  a5 := Try.isAgg5
  z5 := Try.sizeOf5
  v5 := Try.zeroValue5
  t9 := Try.underlying9
  a9 := Try.isAgg9
  z9 := Try.sizeOf9
  v9 := Try.zeroValue9
  t28 := Try.underlying41
  a28 := Try.isAgg41
  z28 := Try.sizeOf41
  v28 := Try.zeroValue41
  t46 := Try.underlying75
  a46 := Try.isAgg75
  z46 := Try.sizeOf75
  v46 := Try.zeroValue75
  t51 := Try.underlying101
  a51 := Try.isAgg101
  z51 := Try.sizeOf101
  v51 := Try.zeroValue101
  t53 := Try.underlying23
  a53 := Try.isAgg23
  z53 := Try.sizeOf23
  v53 := Try.zeroValue23
  t131 := Try.underlying98
  a131 := Try.isAgg98
  z131 := Try.sizeOf98
  v131 := Try.zeroValue98
  t182 := Try.underlying93
  a182 := Try.isAgg93
  z182 := Try.sizeOf93
  v182 := Try.zeroValue93
  t183 := Try.underlying94
  a183 := Try.isAgg94
  z183 := Try.sizeOf94
  v183 := Try.zeroValue94
  t218 := Try.underlying103
  a218 := Try.isAgg103
  z218 := Try.sizeOf103
  v218 := Try.zeroValue103
  t222 := Try.underlying107
  a222 := Try.isAgg107
  z222 := Try.sizeOf107
  v222 := Try.zeroValue107
  t228 := Try.underlying109
  a228 := Try.isAgg109
  z228 := Try.sizeOf109
  v228 := Try.zeroValue109
  t229 := Try.underlying110
  a229 := Try.isAgg110
  z229 := Try.sizeOf110
  v229 := Try.zeroValue110 }
theorem Try.slices_Sort_int (blk off cap : Nat) (zs : List Int) (w : World) (hH : Holds (Value.int .i64) w blk off zs.toArray) (hblk : blk < w.heap.size) (hsz : zs.length < 4611686018427387904) :
    Calls Try.prog 29 #[.slice (some ⟨blk, off, none⟩) zs.length cap] w fun e w' =>
      e = .returned (.tuple #[]) ∧ ∃ n os, w' = grow (putRow (Value.int .i64) (Sort.ahead w n) blk off (zs.mergeSort fun x y => decide (x ≤ y)).toArray) os := Any.slices_Sort_int Try.lays189 blk off cap zs w hH hblk hsz
theorem Try.slices_Sort_int_none (p : Option Addr) (cap : Nat) (w : World) :
    Calls Try.prog 29 #[.slice p 0 cap] w fun e w' => e = .returned (.tuple #[]) ∧ w' = w := Any.slices_Sort_int_none Try.lays189 p cap w
end Go.Proofs

namespace Go.Proofs.Hd
open Go.RowKit Go.Lib
theorem grw_none {a b : World} {p : Option Nat} (h : Grw a b none p) : Below a.heap.size a b := ⟨h.1.os, h.1.tape, h.1.output, h.1.size, fun k hk => h.1.block k hk (by simp)⟩
/-- The numbers in the leaves that q takes. -/
def pk (q : Cb → Bool) (L : List (Cb × List Int)) : List Int := (L.filter fun p => q p.1).flatMap fun p => p.2
theorem pk_yes {q : Cb → Bool} {L : List (Cb × List Int)} {k : Nat} {p : Cb × List Int} (hp : L[k]? = some p) (h : q p.1 = true) : pk q (L.take (k + 1)) = pk q (L.take k) ++ p.2 := by
  unfold pk
  rw [List.take_add_one, hp, Option.toList_some, List.filter_append, List.flatMap_append, List.filter_cons, if_pos h]
  simp
theorem pk_no {q : Cb → Bool} {L : List (Cb × List Int)} {k : Nat} {p : Cb × List Int} (hp : L[k]? = some p) (h : q p.1 = false) : pk q (L.take (k + 1)) = pk q (L.take k) := by
  unfold pk
  rw [List.take_add_one, hp, Option.toList_some, List.filter_append, List.flatMap_append, List.filter_cons, if_neg (by rw [h]; simp)]
  simp
theorem pk_len (q : Cb → Bool) : ∀ (L : List (Cb × List Int)), (pk q L).length ≤ (L.flatMap fun p => p.2).length
  | [] => Nat.le_refl _
  | p :: L => by
    have ih := pk_len q L
    unfold pk at ih ⊢
    rw [List.filter_cons, List.flatMap_cons, List.length_append]
    split
    · rw [List.flatMap_cons, List.length_append]; omega
    · omega
theorem pk_take (q : Cb → Bool) (L : List (Cb × List Int)) (k : Nat) : (pk q (L.take k)).length ≤ (L.flatMap fun p => p.2).length := by
  refine Nat.le_trans (pk_len q _) ?_
  have e : (L.flatMap fun p => p.2) = ((L.take k).flatMap fun p => p.2) ++ ((L.drop k).flatMap fun p => p.2) := by rw [← List.flatMap_append, List.take_append_drop]
  rw [e, List.length_append]; omega
theorem Pt.found_le (f : Nat → Nat → Bool) : ∀ t : Pt, ((t.srch f).flatMap fun p => p.2).length ≤ t.all.length
  | .no => Nat.le_refl _
  | .lf d ids => by simp [Pt.srch, Pt.all]
  | .nd a s b => by
    have k0 := Pt.found_le f (b 0)
    have k1 := Pt.found_le f (b 1)
    have k2 := Pt.found_le f (b 2)
    rw [all_nd]
    unfold Pt.srch allB
    simp only [List.flatMap_append, List.length_append]
    have hif : ∀ (q : Bool) (L : List (Cb × List Int)), ((if q = true then L else []).flatMap fun p => p.2).length ≤ (L.flatMap fun p => p.2).length := fun q L => by cases q <;> simp
    have q0 := hif (f a 0) ((b 0).srch f)
    have q1 := hif (f a 1) ((b 1).srch f)
    have q2 := hif (f a 2) ((b 2).srch f)
    omega
theorem srch_snd (f : Nat → Nat → Bool) : ∀ {t : Pt}, t.Ok → ∀ p ∈ t.srch f, p.1.snd = true
  | .no, _, _, h => absurd h (List.not_mem_nil)
  | .lf d ids, ok, p, h => by
    rw [Pt.srch, List.mem_singleton] at h
    subst h
    exact ok.1
  | .nd a s b, ok, p, h => by
    obtain ⟨_, hb⟩ := Ok_nd.1 ok
    unfold Pt.srch at h
    rw [List.mem_append, List.mem_append] at h
    have key : ∀ k, k < 3 → p ∈ (if f a k = true then (b k).srch f else []) → p.1.snd = true := fun k hk hm => by
      split at hm
      · exact srch_snd f (hb.ok k hk) p hm
      · cases hm
    rcases h with h | h | h
    · exact key 0 (by omega) h
    · exact key 1 (by omega) h
    · exact key 2 (by omega) h
/-- What Overlap answers. -/
def ovS (l : List (Int × Cb)) (c : Cb) : List Int := if c.snd = true then ovT l c else []
theorem met_agr {a c : Cb} (ha : a.snd = true) (hc : c.snd = true) : a.met c = a.agr c := by
  show metB _ _ _ _ _ _ _ _ = _
  unfold metB
  rw [show sndB a.vh a.vl a.ch a.cl = true from ha, show sndB c.vh c.vl c.ch c.cl = true from hc]
  rfl
theorem met_off {a c : Cb} (hc : c.snd = false) : a.met c = false := by
  show metB _ _ _ _ _ _ _ _ = _
  unfold metB
  rw [show sndB c.vh c.vl c.ch c.cl = false from hc]
  simp
theorem RepP.over {l : List (Int × Cb)} {t : Pt} (h : RepP l t) (hl : Tok l) (c : Cb) {M : List Int} (hM : M.Pairwise (· ≤ ·)) (hp : M.Perm (pk (fun a => a.met c) (t.srch (metL c)))) : M = ovS l c := by
  unfold ovS
  by_cases hc : c.snd = true
  · rw [if_pos hc]
    refine h.found hl c hM (hp.trans (List.Perm.of_eq ?_))
    unfold pk pick
    congr 1
    refine List.filter_congr fun p hp => ?_
    exact met_agr (srch_snd _ h.ok p hp) hc
  · rw [if_neg hc]
    have hf : c.snd = false := by simpa using hc
    have e : pk (fun a => a.met c) (t.srch (metL c)) = [] := by
      unfold pk
      rw [List.filter_eq_nil_iff.2 (fun p _ => by show ¬ (p.1.met c = true); rw [met_off hf]; simp)]
      rfl
    rw [e] at hp
    exact hp.eq_nil
theorem ovS_len (l : List (Int × Cb)) (c : Cb) : (ovS l c).length ≤ l.length := by
  unfold ovS
  split
  · exact ovT_len l c
  · exact Nat.zero_le _
theorem own_weak {w : World} {b0 b1 : Nat} {e : TypeId} {z n : Nat} {v : Value} {xs : List Value} (h : w.ownsRow b1 e z v n xs) (hb : b0 ≤ b1) : w.ownsRow b0 e z v n xs := by
  refine ⟨h.1, h.2.imp_right ?_⟩
  rintro ⟨g, cap, cur, h1, h2, h3⟩
  exact ⟨g, cap, cur, h1, Nat.le_trans hb h2, h3⟩
theorem src_own {w : World} {base : Nat} {e : TypeId} {v : Value} {L : List Int} (h : w.ownsRow base e 1 v L.length (L.map (.int .i64))) : Src w 1 v L.length (iv L) := (own_Nm (L := L) h).src
end Go.Proofs.Hd
namespace Go.Proofs
open Go.RowKit Go.Proofs.Hd Go.Lib Go.Sort
attribute [local go_sem] uv_nonneg
theorem infoCubT : (Try.prog.info? 27).map (·.size) = some 4 := by kernel_rfl
/-- A row of the call's own, sorted. -/
theorem rowsort_c (v : Value) (I : List Int) (base : Nat) (w : World) (hO : w.ownsRow base 3 1 v I.length (iv I)) (hn : I.length ≤ 1099511627776) (hb : base ≤ w.heap.size) :
    Calls Try.prog 29 #[v] w fun e w' => e = .returned (.tuple #[]) ∧ ∃ M : List Int, M.Pairwise (· ≤ ·) ∧ M.Perm I ∧ w'.ownsRow base 3 1 v M.length (iv M) ∧ w.grownBy w' v.ownBlock := by
  have hS : (I.mergeSort fun x y => decide (x ≤ y)).Pairwise (fun a b => decide (a ≤ b) = true) := List.pairwise_mergeSort (fun a b c h1 h2 => by simp at h1 h2 ⊢; omega) (fun a b => by simp; omega) I
  have hP := List.mergeSort_perm I fun x y => decide (x ≤ y)
  have hS2 : (I.mergeSort fun x y => decide (x ≤ y)).Pairwise (· ≤ ·) := hS.imp fun h => by simpa using h
  have hl := hP.length_eq
  rcases hO.2 with ⟨rfl, h0⟩ | ⟨g, cap, cur, rfl, hbg, hg, hnc, hcm, hcs, htk⟩
  · have hI : I = [] := List.eq_nil_of_length_eq_zero h0
    subst hI
    refine (Try.slices_Sort_int_none none 0 w).mono ?_
    rintro e w' ⟨rfl, rfl⟩
    exact ⟨rfl, [], List.Pairwise.nil, List.Perm.refl _, hO, World.grownBy.refl _ _⟩
  · have hH := holds_of_blockI hg (ss := I) (by rw [Nat.mul_one] at htk; exact htk)
    refine (Try.slices_Sort_int g 0 cap I w hH (Array.getElem?_eq_some_iff.1 hg).1 (by omega)).mono ?_
    rintro e w' ⟨rfl, n, os, rfl⟩
    generalize (I.mergeSort fun x y => decide (x ≤ y)) = M at hS2 hP hl ⊢
    refine ⟨rfl, M, hS2, hP, ?_, grownBy_sortedI _⟩
    rw [hl]
    exact ownsRow_sortedI hl hbg hg hnc hcm hcs
theorem ov_nil (c : Cb) (w : World) : Calls Try.prog 16 #[.pointer none, .agg #[.int .u64 (uv c.vh), .int .u64 (uv c.vl), .int .u64 (uv c.ch), .int .u64 (uv c.cl)]] w fun e w' => e = .returned (.slice none 0 0) ∧ Below w.heap.size w w' := by
  have HS := Lib.hid (below1 w (.cells #[.int .u64 (uv c.vh), .int .u64 (uv c.vl), .int .u64 (uv c.ch), .int .u64 (uv c.cl)] 27))
  go_enter Try.func16, Try.ntmps16
  go_wp2
  go_ret
  exact ⟨rfl, HS.out⟩
set_option maxRecDepth 100000 in
set_option maxHeartbeats 4000000 in
/-- Overlap: the numbers of the cubes that meet c, rising. -/
theorem ov_c (c : Cb) (B : Nat) (l : List (Int × Cb)) (S : Nat → Prop) (w : World) (hlen : l.length ≤ 1099511627776) (h : TrieAt w B l S) :
    Calls Try.prog 16 #[.pointer (some ⟨B, 0, none⟩), .agg #[.int .u64 (uv c.vh), .int .u64 (uv c.vl), .int .u64 (uv c.ch), .int .u64 (uv c.cl)]] w (GotO w (ovS l c)) := by
  obtain ⟨ic, hic, hcz0, hcz1, hcz2⟩ := info_parts info_intT
  obtain ⟨htok, mb, rv, t, Sr, hT, _, hrep, hTr, hSB, _, _⟩ := h
  have hfl := Pt.found_le (metL c) t
  rw [hrep.perm.length_eq] at hfl
  have hlv := hrep.ok.leaves (metL c)
  rw [hrep.perm.length_eq] at hlv
  have HFL : Hid (∀ k, (pk (fun a => a.met c) ((t.srch (metL c)).take k)).length ≤ 1099511627776) := fun k => Nat.le_trans (pk_take _ _ k) (Nat.le_trans hfl hlen)
  have HLV : Hid ((t.srch (metL c)).length ≤ 1099511627776) := Nat.le_trans hlv hlen
  have HREP := Lib.hid (And.intro hrep htok)
  have HCALL : Hid (∀ W, TrAt W t rv Sr → Calls Try.prog 26 #[rv, .func (.func 27) #[.agg #[.int .u64 (uv c.vh), .int .u64 (uv c.vl), .int .u64 (uv c.ch), .int .u64 (uv c.cl)]] #[], .slice none 0 0] W (FndTo W 0 Sr (.slice none 0 0) 0 [] (t.srch (metL c)))) := fun W hW =>
    sr_c c 0 t hrep.ok rv Sr W (.slice none 0 0) 0 [] hW (Nat.zero_le _) ⟨rfl, .inl ⟨rfl, rfl⟩⟩ (by rw [Nat.zero_add]; exact Nat.le_trans hlv hlen)
  have hb1 := below1 w (.cells #[.int .u64 (uv c.vh), .int .u64 (uv c.vl), .int .u64 (uv c.ch), .int .u64 (uv c.cl)] 27)
  have HX : Hid (Blk (w.alloc (.cells #[.int .u64 (uv c.vh), .int .u64 (uv c.vl), .int .u64 (uv c.ch), .int .u64 (uv c.cl)] 27)) w.heap.size 27 #[.int .u64 (uv c.vh), .int .u64 (uv c.vl), .int .u64 (uv c.ch), .int .u64 (uv c.cl)]) := Blk.new w _ _
  have HT := Lib.hid (hT.on hb1)
  have HTR := Lib.hid (hTr.on hb1)
  have HS := Lib.hid hb1
  clear hb1 hT hTr hrep htok hfl hlv
  generalize hLL : t.srch (metL c) = LL at HFL HLV HCALL
  have HLL := Lib.hid hLL
  clear hLL
  go_enter Try.func16, Try.ntmps16
  go_upto_region 1 with (fail)
  generalize w.alloc (.cells #[.int .u64 (uv c.vh), .int .u64 (uv c.vl), .int .u64 (uv c.ch), .int .u64 (uv c.cl)] 27) = w1 at HX HS HT HTR ⊢
  generalize hbx : w.heap.size = bx at HX HS ⊢
  have HE := Lib.hid hbx
  clear hbx
  go_upto_region 4 with (fail)
  go_cut [18, 19, 20] (fun s18 s19 s20 wc => ∃ (A : Option Addr) (cp : Nat) (Q : List Value), s18 = .slice A Q.length cp ∧ s19 = .int .i64 (Q.length : Int) ∧ s20 = .int .i64 0 ∧ Below w1.heap.size w1 wc ∧ wc.ownsRow 0 55 1 (.slice A Q.length cp) Q.length Q ∧ Lvs wc Sr Q LL)
  case first =>
    have HKP : Hid (∀ W, Below w1.heap.size w1 W → (Below w1.heap.size w1 W ∧ W.cell? ⟨B, 1, none⟩ = some rv ∧ W.cell? ⟨bx, 0, none⟩ = some (.int .u64 (uv c.vh)) ∧ W.cell? ⟨bx, 1, none⟩ = some (.int .u64 (uv c.vl)) ∧ W.cell? ⟨bx, 2, none⟩ = some (.int .u64 (uv c.ch)) ∧ W.cell? ⟨bx, 3, none⟩ = some (.int .u64 (uv c.cl)))) := fun W hb => ⟨hb, ((HT.out.on hb).cell 1).trans rfl, ((HX.out.on hb).cell 0).trans rfl, ((HX.out.on hb).cell 1).trans rfl, ((HX.out.on hb).cell 2).trans rfl, ((HX.out.on hb).cell 3).trans rfl⟩
    refine wp_region_held_drew (S := fun w' => Below w1.heap.size w1 w' ∧ w'.cell? ⟨B, 1, none⟩ = some rv ∧ w'.cell? ⟨bx, 0, none⟩ = some (.int .u64 (uv c.vh)) ∧ w'.cell? ⟨bx, 1, none⟩ = some (.int .u64 (uv c.vl)) ∧ w'.cell? ⟨bx, 2, none⟩ = some (.int .u64 (uv c.ch)) ∧ w'.cell? ⟨bx, 3, none⟩ = some (.int .u64 (uv c.cl))) (by kernel_rfl) (HKP.out _ (Below.refl _ w1).drew) (fun hHeld => ?_)
    have hB := (Below.refl w1.heap.size w1).drew
    generalize w1.drew = u0 at hHeld hB ⊢
    refine wpAnyH_take (i := 0) (oi := ⟨some 12, _, _, _, _, _⟩) (v := ?voa0_1) rfl (by kernel_rfl) (by kernel_rfl) (by kernel_rfl) (fun _ _ _ h => h) (Or.inl ⟨by rfl, ?yoa0_1⟩) hHeld ?roa0_1
    case yoa0_1 => (intro w' hSw; (try dsimp only at hSw); go_simp; try (with_reducible rfl))
    simp only [Act.put, List.setIfInBounds_toArray, List.set_cons_zero, List.set_cons_succ]
    refine wpAnyH_take (i := 1) (oi := ⟨some 13, _, _, _, _, _⟩) (v := ?voa1_2) rfl (by kernel_rfl) (by kernel_rfl) (by kernel_rfl) (fun _ _ _ h => h) (Or.inl ⟨by rfl, ?yoa1_2⟩) hHeld ?roa1_2
    case yoa1_2 => (intro w' hSw; (try dsimp only at hSw); go_simp; try (with_reducible rfl))
    simp only [Act.put, List.setIfInBounds_toArray, List.set_cons_zero, List.set_cons_succ]
    refine wpAnyH_take (i := 2) (oi := ⟨some 14, _, _, _, _, _⟩) (v := ?voa2_3) rfl (by kernel_rfl) (by kernel_rfl) (by kernel_rfl) (fun _ _ _ h => h) (Or.inl ⟨by rfl, ?yoa2_3⟩) hHeld ?roa2_3
    case yoa2_3 => (intro w' hSw; (try dsimp only at hSw); go_simp; try (with_reducible rfl))
    simp only [Act.put, List.setIfInBounds_toArray, List.set_cons_zero, List.set_cons_succ]
    refine wpAnyH_take (i := 3) (oi := ⟨some 15, _, _, _, _, _⟩) (v := ?voa3_4) rfl (by kernel_rfl) (by kernel_rfl) (by kernel_rfl) (fun _ _ _ h => h) (Or.inl ⟨by rfl, ?yoa3_4⟩) hHeld ?roa3_4
    case yoa3_4 => (intro w' hSw; (try dsimp only at hSw); go_simp; try (with_reducible rfl))
    simp only [Act.put, List.setIfInBounds_toArray, List.set_cons_zero, List.set_cons_succ]
    refine wpAnyH_take (i := 4) (oi := ⟨some 16, _, _, _, _, _⟩) (v := ?voa4_5) rfl (by kernel_rfl) (by kernel_rfl) (by kernel_rfl) (fun _ _ _ h => h) (Or.inl ⟨by rfl, ?yoa4_5⟩) hHeld ?roa4_5
    case yoa4_5 => (intro w' hSw; (try dsimp only at hSw); go_simp; try (with_reducible rfl))
    simp only [Act.put, List.setIfInBounds_toArray, List.set_cons_zero, List.set_cons_succ]
    refine wpAnyH_take (i := 5) (oi := ⟨some 17, _, _, _, _, _⟩) (v := ?voa5_6) rfl (by kernel_rfl) (by kernel_rfl) (by kernel_rfl) (fun _ _ _ h => h) (Or.inl ⟨by rfl, ?yoa5_6⟩) hHeld ?roa5_6
    case yoa5_6 => (intro w' hSw; (try dsimp only at hSw); go_simp; try (with_reducible rfl))
    simp only [Act.put, List.setIfInBounds_toArray, List.set_cons_zero, List.set_cons_succ]
    refine wpAnyH_take (i := 8) (oi := ⟨some 20, _, _, _, _, _⟩) (v := ?voa8_7) rfl (by kernel_rfl) (by kernel_rfl) (by kernel_rfl) (fun _ _ _ h => h) (Or.inl ⟨by rfl, ?yoa8_7⟩) hHeld ?roa8_7
    case yoa8_7 => (intro w' hSw; (try dsimp only at hSw); go_simp; try (with_reducible rfl))
    simp only [Act.put, List.setIfInBounds_toArray, List.set_cons_zero, List.set_cons_succ]
    refine wpAnyH_ready (rs := [6]) (by kernel_rfl) (by simp) ?_
    refine AllReadyH.cons (o := ⟨some 18, _, _, _, _, _⟩) rfl (fun K hK => ?_) AllReadyH.nil
    go_simp
    (with_reducible refine (HCALL.out u0 (HTR.out.on hB)).mono ?_)
    rintro e u1 ⟨lv, Q, rfl, hO, hg, hV⟩
    (try dsimp only)
    obtain ⟨A, cp, rfl⟩ := own_slT hO
    have hb := grw_none hg
    have hB2 := hB.trans (hb.mono hB.size)
    refine hK.out _ _ (HKP.out _ hB2) (fun hNext => ?_)
    clear hK K hHeld
    have hHeld := hNext
    clear hNext
    have HO := Lib.hid hO
    have HV := Lib.hid (hV.ch (grw_ch hg) (fun x _ h => by cases h))
    have HB := Lib.hid hB2
    clear hB hB2 hb hg hO hV
    try simp only [Act.put, List.setIfInBounds_toArray, List.set_cons_zero, List.set_cons_succ]
    refine wpAnyH_take (i := 7) (oi := ⟨some 19, _, _, _, _, _⟩) (v := ?voa7_8) rfl (by kernel_rfl) (by kernel_rfl) (by kernel_rfl) (fun _ _ _ h => h) (Or.inl ⟨by rfl, ?yoa7_8⟩) hHeld ?roa7_8
    case yoa7_8 => (intro w' hSw; (try dsimp only at hSw); go_simp; try (with_reducible rfl))
    simp only [Act.put, List.setIfInBounds_toArray, List.set_cons_zero, List.set_cons_succ]
    refine wpAnyH_done (by kernel_rfl) ?_ _
    go_wp2_with fail
    go_meet
    exact ⟨A, cp, Q, (by first | rfl | simp), (by first | rfl | simp), rfl, HB.out, (by simpa using HO.out), HV.out⟩
  case rest =>
    obtain ⟨A, cp, Q, rfl, rfl, rfl, hB2, hO2, hV2⟩ := hcut
    obtain ⟨wq, hwq⟩ : ∃ wq, wq = wc := ⟨_, rfl⟩
    subst hwq
    have hql := hV2.len
    have HO2 := Lib.hid hO2
    have HV2 := Lib.hid hV2
    have HX2 := Lib.hid (HX.out.on hB2)
    have HB2 := Lib.hid hB2
    have hq : Q.length ≤ 1099511627776 := by rw [hql]; exact HLV.out
    have HQL := Lib.hid hql
    have hqz : (Q.length : Int) ≤ 1099511627776 := by omega
    clear hB2 hO2 hV2 hql HX HT HTR HCALL
    have hs1 := HS.out
    rw [← HE.out] at hs1
    have HBW := Lib.hid (hs1.trans (HB2.out.mono hs1.size))
    clear hs1
    go_wp2
    go_loopg [5, 7, 8, 9, 20] Q.length (fun gk s5 s7 s8 s9 s20 wr => ∃ k : Nat, gk + k = Q.length ∧ s20 = .int .i64 k ∧ (∃ x, s7 = x) ∧ (∃ x, s8 = x) ∧ (∃ x, s9 = x) ∧ Hid (Below wq.heap.size wq wr) ∧ Hid (wr.ownsRow wq.heap.size 3 1 s5 (pk (fun a => a.met c) (LL.take k)).length (iv (pk (fun a => a.met c) (LL.take k)))))
    case atStart => exact ⟨0, by omega, rfl, ⟨_, rfl⟩, ⟨_, rfl⟩, ⟨_, rfl⟩, Below.refl _ _, ⟨rfl, .inl ⟨rfl, rfl⟩⟩⟩
    case round =>
      obtain ⟨k, hk, rfl, ⟨y7, rfl⟩, ⟨y8, rfl⟩, ⟨y9, rfl⟩, HB, HI⟩ := hrel
      by_cases hlt : k < Q.length
      · have hltz : (k : Int) < (Q.length : Int) := by omega
        obtain ⟨p, hp⟩ : ∃ p, LL[k]? = some p := ⟨_, List.getElem?_eq_getElem (by have := HQL.out; omega)⟩
        obtain ⟨bk, u, hQk, hLF, _, _⟩ := HV2.out.get hp
        obtain ⟨d, ids⟩ := p
        have hOr := own_on HO2.out HB.out
        obtain ⟨g, rfl⟩ : ∃ g, A = some ⟨g, 0, none⟩ := by
          rcases hOr.2 with ⟨h, h2⟩ | ⟨g, cap2, cur, h, _⟩
          · omega
          · injection h with h _ _; exact ⟨g, h⟩
        have hck : wr.cell? ⟨g, k, none⟩ = some (.pointer (some ⟨bk, 0, none⟩)) := by rw [hOr.cellAt k (by omega), hQk]; rfl
        have HLF : Hid (LfAt wr bk d ids u) := hLF.ch (Q := fun _ => False) (Ch.of_below HB.out) (fun h => h) (fun _ _ h => h)
        have HXr := Lib.hid (HX2.out.on HB.out)
        have HP := Lib.hid hp
        clear hOr hp hQk hLF
        go_upto_region 7 with (fail)
        clear hck
        have HX := HXr
        have HKP : Hid (∀ W, Below wr.heap.size wr W → (Below wr.heap.size wr W ∧ W.cell? ⟨bx, 0, none⟩ = some (.int .u64 (uv c.vh)) ∧ W.cell? ⟨bx, 1, none⟩ = some (.int .u64 (uv c.vl)) ∧ W.cell? ⟨bx, 2, none⟩ = some (.int .u64 (uv c.ch)) ∧ W.cell? ⟨bx, 3, none⟩ = some (.int .u64 (uv c.cl)) ∧ W.cell? ⟨bk, 4, none⟩ = some (.int .u64 (uv d.vh)) ∧ W.cell? ⟨bk, 5, none⟩ = some (.int .u64 (uv d.vl)) ∧ W.cell? ⟨bk, 6, none⟩ = some (.int .u64 (uv d.ch)) ∧ W.cell? ⟨bk, 7, none⟩ = some (.int .u64 (uv d.cl)))) := fun W hb => ⟨hb, ((HX.out.on hb).cell 0).trans rfl, ((HX.out.on hb).cell 1).trans rfl, ((HX.out.on hb).cell 2).trans rfl, ((HX.out.on hb).cell 3).trans rfl, ((HLF.out.1.on hb).cell 4).trans rfl, ((HLF.out.1.on hb).cell 5).trans rfl, ((HLF.out.1.on hb).cell 6).trans rfl, ((HLF.out.1.on hb).cell 7).trans rfl⟩
        cases hm : d.met c with
        | true =>
          have HM := Lib.hid hm
          clear hm
          go_cut [8, 9] (fun s8 s9 wd => (∃ x, s8 = x) ∧ s9 = .bool true ∧ Below wr.heap.size wr wd)
          case first =>
            refine wp_region_held_drew (S := fun w' => Below wr.heap.size wr w' ∧ w'.cell? ⟨bx, 0, none⟩ = some (.int .u64 (uv c.vh)) ∧ w'.cell? ⟨bx, 1, none⟩ = some (.int .u64 (uv c.vl)) ∧ w'.cell? ⟨bx, 2, none⟩ = some (.int .u64 (uv c.ch)) ∧ w'.cell? ⟨bx, 3, none⟩ = some (.int .u64 (uv c.cl)) ∧ w'.cell? ⟨bk, 4, none⟩ = some (.int .u64 (uv d.vh)) ∧ w'.cell? ⟨bk, 5, none⟩ = some (.int .u64 (uv d.vl)) ∧ w'.cell? ⟨bk, 6, none⟩ = some (.int .u64 (uv d.ch)) ∧ w'.cell? ⟨bk, 7, none⟩ = some (.int .u64 (uv d.cl))) (by kernel_rfl) (HKP.out _ (Below.refl _ wr).drew) (fun hHeld => ?_)
            have hB := (Below.refl wr.heap.size wr).drew
            generalize wr.drew = u0 at hHeld hB ⊢
            refine wpAnyH_take (i := 0) (oi := ⟨some 25, _, _, _, _, _⟩) (v := ?vobt0_1) rfl (by kernel_rfl) (by kernel_rfl) (by kernel_rfl) (fun _ _ _ h => h) (Or.inl ⟨by rfl, ?yobt0_1⟩) hHeld ?robt0_1
            case yobt0_1 => (intro w' hSw; (try dsimp only at hSw); go_simp; try (with_reducible rfl))
            simp only [Act.put, List.setIfInBounds_toArray, List.set_cons_zero, List.set_cons_succ]
            refine wpAnyH_take (i := 1) (oi := ⟨some 26, _, _, _, _, _⟩) (v := ?vobt1_2) rfl (by kernel_rfl) (by kernel_rfl) (by kernel_rfl) (fun _ _ _ h => h) (Or.inl ⟨by rfl, ?yobt1_2⟩) hHeld ?robt1_2
            case yobt1_2 => (intro w' hSw; (try dsimp only at hSw); go_simp; try (with_reducible rfl))
            simp only [Act.put, List.setIfInBounds_toArray, List.set_cons_zero, List.set_cons_succ]
            refine wpAnyH_take (i := 2) (oi := ⟨some 27, _, _, _, _, _⟩) (v := ?vobt2_3) rfl (by kernel_rfl) (by kernel_rfl) (by kernel_rfl) (fun _ _ _ h => h) (Or.inl ⟨by rfl, ?yobt2_3⟩) hHeld ?robt2_3
            case yobt2_3 => (intro w' hSw; (try dsimp only at hSw); go_simp; try (with_reducible rfl))
            simp only [Act.put, List.setIfInBounds_toArray, List.set_cons_zero, List.set_cons_succ]
            refine wpAnyH_take (i := 3) (oi := ⟨some 28, _, _, _, _, _⟩) (v := ?vobt3_4) rfl (by kernel_rfl) (by kernel_rfl) (by kernel_rfl) (fun _ _ _ h => h) (Or.inl ⟨by rfl, ?yobt3_4⟩) hHeld ?robt3_4
            case yobt3_4 => (intro w' hSw; (try dsimp only at hSw); go_simp; try (with_reducible rfl))
            simp only [Act.put, List.setIfInBounds_toArray, List.set_cons_zero, List.set_cons_succ]
            refine wpAnyH_take (i := 4) (oi := ⟨some 29, _, _, _, _, _⟩) (v := ?vobt4_5) rfl (by kernel_rfl) (by kernel_rfl) (by kernel_rfl) (fun _ _ _ h => h) (Or.inl ⟨by rfl, ?yobt4_5⟩) hHeld ?robt4_5
            case yobt4_5 => (intro w' hSw; (try dsimp only at hSw); go_simp; try (with_reducible rfl))
            simp only [Act.put, List.setIfInBounds_toArray, List.set_cons_zero, List.set_cons_succ]
            refine wpAnyH_ready (rs := [5, 9]) (by kernel_rfl) (by simp) ?_
            refine AllReadyH.cons (o := ⟨some 30, _, _, _, _, _⟩) rfl (fun K hK => ?_) ?_
            · go_simp
              (with_reducible refine (cmeet_t d c _ HM.out).mono ?_)
              rintro e u1 ⟨rfl, hb⟩
              (try dsimp only)
              have hB2 := hB.trans (hb.mono hB.size)
              refine hK.out _ _ (HKP.out _ hB2) (fun hNext => ?_)
              clear hK K hHeld
              have hHeld := hNext
              clear hNext
              clear hB
              have hB := hB2
              clear hB2
              clear hb
              try simp only [Act.put, List.setIfInBounds_toArray, List.set_cons_zero, List.set_cons_succ]
              refine wpAnyH_take (i := 6) (oi := ⟨some 24, _, _, _, _, _⟩) (v := ?vobt6_6) rfl (by kernel_rfl) (by kernel_rfl) (by kernel_rfl) (fun _ _ _ h => h) (Or.inl ⟨by rfl, ?yobt6_6⟩) hHeld ?robt6_6
              case yobt6_6 => (intro w' hSw; (try dsimp only at hSw); go_simp; try (with_reducible rfl))
              simp only [Act.put, List.setIfInBounds_toArray, List.set_cons_zero, List.set_cons_succ]
              refine wpAnyH_take (i := 7) (oi := ⟨some 31, _, _, _, _, _⟩) (v := ?vobt7_7) rfl (by kernel_rfl) (by kernel_rfl) (by kernel_rfl) (fun _ _ _ h => h) (Or.inl ⟨by rfl, ?yobt7_7⟩) hHeld ?robt7_7
              case yobt7_7 => (intro w' hSw; (try dsimp only at hSw); go_simp; try (with_reducible rfl))
              simp only [Act.put, List.setIfInBounds_toArray, List.set_cons_zero, List.set_cons_succ]
              refine wpAnyH_take (i := 8) (oi := ⟨some 32, _, _, _, _, _⟩) (v := ?vobt8_8) rfl (by kernel_rfl) (by kernel_rfl) (by kernel_rfl) (fun _ _ _ h => h) (Or.inl ⟨by rfl, ?yobt8_8⟩) hHeld ?robt8_8
              case yobt8_8 => (intro w' hSw; (try dsimp only at hSw); go_simp; try (with_reducible rfl))
              simp only [Act.put, List.setIfInBounds_toArray, List.set_cons_zero, List.set_cons_succ]
              refine wpAnyH_ready (rs := [9]) (by kernel_rfl) (by simp) ?_
              refine AllReadyH.cons (o := ⟨some 8, _, _, _, _, _⟩) rfl (fun K hK => ?_) AllReadyH.nil
              go_simp
              have hb := below1 u1 (.cells #[.int .u64 0, .int .u64 0, .int .u64 0, .int .u64 0] 27)
              have hB2 := hB.trans (hb.mono hB.size)
              refine hK.out _ _ (HKP.out _ hB2) (fun hNext => ?_)
              have t_m : Nb wr.heap.size (u1.alloc (.cells #[.int .u64 0, .int .u64 0, .int .u64 0, .int .u64 0] 27)) u1.heap.size 27 #[.int .u64 0, .int .u64 0, .int .u64 0, .int .u64 0] := Nb.top u1 hB.size
              clear hK K hHeld
              have hHeld := hNext
              clear hNext
              clear hB
              have hB := hB2
              clear hB2
              clear hb
              generalize hgen : (u1.alloc (.cells #[.int .u64 0, .int .u64 0, .int .u64 0, .int .u64 0] 27)) = u2 at hHeld hB  t_m ⊢
              clear hgen
              generalize hgen : u1.heap.size = b_m at t_m  ⊢
              clear hgen
              try simp only [Act.put, List.setIfInBounds_toArray, List.set_cons_zero, List.set_cons_succ]
              refine wpAnyH_ready (rs := [10]) (by kernel_rfl) (by simp) ?_
              refine AllReadyH.cons (o := ⟨none, _, _, _, _, _⟩) rfl (fun K hK => ?_) AllReadyH.nil
              rw [if_pos (by rfl)]
              refine wp_store_mid 27 _ _ rfl b_m 0 #[.int .u64 (uv (d.vh ||| c.vh)), .int .u64 (uv (d.vl ||| c.vl)), .int .u64 (uv (d.ch ||| c.ch)), .int .u64 (uv (d.cl ||| c.cl))] rfl rfl t_m.there infoCubT (by simp [Value.oneCell']) ?_
              (try dsimp only)
              have hB2 := (Below.setCells [.int .u64 (uv (d.vh ||| c.vh)), .int .u64 (uv (d.vl ||| c.vl)), .int .u64 (uv (d.ch ||| c.ch)), .int .u64 (uv (d.cl ||| c.cl))] 0 _ hB t_m.2)
              refine hK.out _ _ (HKP.out _ hB2) (fun hNext => ?_)
              clear hK K hHeld
              have hHeld := hNext
              clear hNext
              clear hB
              have hB := hB2
              clear hB2
              replace t_m := t_m.put [.int .u64 (uv (d.vh ||| c.vh)), .int .u64 (uv (d.vl ||| c.vl)), .int .u64 (uv (d.ch ||| c.ch)), .int .u64 (uv (d.cl ||| c.cl))] rfl
              generalize hgen : (World.setCells u2 b_m 0 [.int .u64 (uv (d.vh ||| c.vh)), .int .u64 (uv (d.vl ||| c.vl)), .int .u64 (uv (d.ch ||| c.ch)), .int .u64 (uv (d.cl ||| c.cl))]) = u3 at hHeld hB t_m ⊢
              clear hgen
              try simp only [Act.put]
              refine wpAnyH_take (i := 11) (oi := ⟨some 9, _, _, _, _, _⟩) (v := ?vobt11_9) rfl (by kernel_rfl) (by kernel_rfl) (by kernel_rfl) (fun _ _ _ h => h) (Or.inl ⟨by rfl, ?yobt11_9⟩) hHeld ?robt11_9
              case yobt11_9 => (intro w' hSw; (try dsimp only at hSw); go_simp; try (with_reducible rfl))
              simp only [Act.put, List.setIfInBounds_toArray, List.set_cons_zero, List.set_cons_succ]
              refine wpAnyH_done (by kernel_rfl) ?_ _
              go_wp2_with fail
              go_meet
              exact ⟨⟨_, rfl⟩, rfl, hB⟩
            refine AllReadyH.cons (o := ⟨some 8, _, _, _, _, _⟩) rfl (fun K hK => ?_) AllReadyH.nil
            go_simp
            have hb := below1 u0 (.cells #[.int .u64 0, .int .u64 0, .int .u64 0, .int .u64 0] 27)
            have hB2 := hB.trans (hb.mono hB.size)
            refine hK.out _ _ (HKP.out _ hB2) (fun hNext => ?_)
            have t_m : Nb wr.heap.size (u0.alloc (.cells #[.int .u64 0, .int .u64 0, .int .u64 0, .int .u64 0] 27)) u0.heap.size 27 #[.int .u64 0, .int .u64 0, .int .u64 0, .int .u64 0] := Nb.top u0 hB.size
            clear hK K hHeld
            have hHeld := hNext
            clear hNext
            clear hB
            have hB := hB2
            clear hB2
            clear hb
            generalize hgen : (u0.alloc (.cells #[.int .u64 0, .int .u64 0, .int .u64 0, .int .u64 0] 27)) = u4 at hHeld hB  t_m ⊢
            clear hgen
            generalize hgen : u0.heap.size = b_m at t_m  ⊢
            clear hgen
            try simp only [Act.put, List.setIfInBounds_toArray, List.set_cons_zero, List.set_cons_succ]
            refine wpAnyH_ready (rs := [5]) (by kernel_rfl) (by simp) ?_
            refine AllReadyH.cons (o := ⟨some 30, _, _, _, _, _⟩) rfl (fun K hK => ?_) AllReadyH.nil
            go_simp
            (with_reducible refine (cmeet_t d c _ HM.out).mono ?_)
            rintro e u5 ⟨rfl, hb⟩
            (try dsimp only)
            have hB2 := hB.trans (hb.mono hB.size)
            refine hK.out _ _ (HKP.out _ hB2) (fun hNext => ?_)
            clear hK K hHeld
            have hHeld := hNext
            clear hNext
            clear hB
            have hB := hB2
            clear hB2
            replace t_m := t_m.on hb
            clear hb
            try simp only [Act.put, List.setIfInBounds_toArray, List.set_cons_zero, List.set_cons_succ]
            refine wpAnyH_take (i := 6) (oi := ⟨some 24, _, _, _, _, _⟩) (v := ?vobt6_10) rfl (by kernel_rfl) (by kernel_rfl) (by kernel_rfl) (fun _ _ _ h => h) (Or.inl ⟨by rfl, ?yobt6_10⟩) hHeld ?robt6_10
            case yobt6_10 => (intro w' hSw; (try dsimp only at hSw); go_simp; try (with_reducible rfl))
            simp only [Act.put, List.setIfInBounds_toArray, List.set_cons_zero, List.set_cons_succ]
            refine wpAnyH_take (i := 7) (oi := ⟨some 31, _, _, _, _, _⟩) (v := ?vobt7_11) rfl (by kernel_rfl) (by kernel_rfl) (by kernel_rfl) (fun _ _ _ h => h) (Or.inl ⟨by rfl, ?yobt7_11⟩) hHeld ?robt7_11
            case yobt7_11 => (intro w' hSw; (try dsimp only at hSw); go_simp; try (with_reducible rfl))
            simp only [Act.put, List.setIfInBounds_toArray, List.set_cons_zero, List.set_cons_succ]
            refine wpAnyH_take (i := 8) (oi := ⟨some 32, _, _, _, _, _⟩) (v := ?vobt8_12) rfl (by kernel_rfl) (by kernel_rfl) (by kernel_rfl) (fun _ _ _ h => h) (Or.inl ⟨by rfl, ?yobt8_12⟩) hHeld ?robt8_12
            case yobt8_12 => (intro w' hSw; (try dsimp only at hSw); go_simp; try (with_reducible rfl))
            simp only [Act.put, List.setIfInBounds_toArray, List.set_cons_zero, List.set_cons_succ]
            refine wpAnyH_ready (rs := [10]) (by kernel_rfl) (by simp) ?_
            refine AllReadyH.cons (o := ⟨none, _, _, _, _, _⟩) rfl (fun K hK => ?_) AllReadyH.nil
            rw [if_pos (by rfl)]
            refine wp_store_mid 27 _ _ rfl b_m 0 #[.int .u64 (uv (d.vh ||| c.vh)), .int .u64 (uv (d.vl ||| c.vl)), .int .u64 (uv (d.ch ||| c.ch)), .int .u64 (uv (d.cl ||| c.cl))] rfl rfl t_m.there infoCubT (by simp [Value.oneCell']) ?_
            (try dsimp only)
            have hB2 := (Below.setCells [.int .u64 (uv (d.vh ||| c.vh)), .int .u64 (uv (d.vl ||| c.vl)), .int .u64 (uv (d.ch ||| c.ch)), .int .u64 (uv (d.cl ||| c.cl))] 0 _ hB t_m.2)
            refine hK.out _ _ (HKP.out _ hB2) (fun hNext => ?_)
            clear hK K hHeld
            have hHeld := hNext
            clear hNext
            clear hB
            have hB := hB2
            clear hB2
            replace t_m := t_m.put [.int .u64 (uv (d.vh ||| c.vh)), .int .u64 (uv (d.vl ||| c.vl)), .int .u64 (uv (d.ch ||| c.ch)), .int .u64 (uv (d.cl ||| c.cl))] rfl
            generalize hgen : (World.setCells u5 b_m 0 [.int .u64 (uv (d.vh ||| c.vh)), .int .u64 (uv (d.vl ||| c.vl)), .int .u64 (uv (d.ch ||| c.ch)), .int .u64 (uv (d.cl ||| c.cl))]) = u6 at hHeld hB t_m ⊢
            clear hgen
            try simp only [Act.put]
            refine wpAnyH_take (i := 11) (oi := ⟨some 9, _, _, _, _, _⟩) (v := ?vobt11_13) rfl (by kernel_rfl) (by kernel_rfl) (by kernel_rfl) (fun _ _ _ h => h) (Or.inl ⟨by rfl, ?yobt11_13⟩) hHeld ?robt11_13
            case yobt11_13 => (intro w' hSw; (try dsimp only at hSw); go_simp; try (with_reducible rfl))
            simp only [Act.put, List.setIfInBounds_toArray, List.set_cons_zero, List.set_cons_succ]
            refine wpAnyH_done (by kernel_rfl) ?_ _
            go_wp2_with fail
            go_meet
            exact ⟨⟨_, rfl⟩, rfl, hB⟩
          case rest =>
            obtain ⟨⟨y8, rfl⟩, rfl, hB5⟩ := hcut
            have HB5 := Lib.hid (HB.out.trans (hB5.mono HB.out.size))
            have HI5 := Lib.hid (own_on HI.out hB5)
            have HL5 : Hid (LfAt _ bk d ids u) := HLF.out.ch (Q := fun _ => False) (Ch.of_below hB5) (fun h => h) (fun _ _ h => h)
            clear hB5 HB HI HLF HKP HX
            obtain ⟨A8, cp8, rfl⟩ := own_slT HL5.out.2
            have d8 := (HL5.out.1.cell 8).trans rfl
            unfold ndCells at d8
            simp only [List.getElem?_toArray, List.getElem?_cons_succ, List.getElem?_cons_zero] at d8
            have hyes := pk_yes (q := fun a => a.met c) HP.out (by dsimp only; exact HM.out)
            dsimp only at hyes
            have hall := HFL.out (k + 1)
            rw [hyes, List.length_append] at hall
            have HYES := Lib.hid hyes
            have SR := src_own HL5.out.2
            have O5 := HI5.out
            obtain ⟨m, hm⟩ : ∃ m, (pk (fun a => a.met c) (LL.take k)).length = m := ⟨_, rfl⟩
            have HMM := Lib.hid hm
            rw [hm] at hall O5
            generalize hPP : pk (fun a => a.met c) (LL.take k) = PP at O5 hm
            have HPP := Lib.hid hPP
            clear hyes hm hPP
            have hz5 := HB5.out.size
            obtain ⟨n8, hn8⟩ : ∃ n8, ids.length = n8 := ⟨_, rfl⟩
            have HN8 := Lib.hid hn8
            rw [hn8] at SR d8 hall
            clear hn8
            go_wp2_with (at_builtin; refine wpList_app2 _ rfl (.tmp 34) (.tmp 38) 41 rfl wq.heap.size 3 ic _ 1 8 Try.underlying41 hic hcz0 hcz1 hcz2 rfl (by decide) _ _ _ rfl O5 _ n8 (iv ids) rfl SR (by unfold maxLen; omega) (by omega) hz5 ?_)
            intro v9 w9 O9 hg9
            have HB9 := Lib.hid (HB5.out.grown hg9.1 hz5 (fun j hj => (O5.lt j hj).1))
            have HI9 : Hid (w9.ownsRow wq.heap.size 3 1 v9 (pk (fun a => a.met c) (LL.take (k + 1))).length (iv (pk (fun a => a.met c) (LL.take (k + 1))))) := by
              show World.ownsRow _ _ _ _ _ _ _
              rw [HYES.out, HPP.out, ← iv_app, List.length_append, HN8.out, show PP.length = m from by rw [← HPP.out]; exact HMM.out]
              exact O9
            clear O5 SR hz5 O9 hg9 d8 hall HI5 HB5 HL5
            go_wp2
            go_roundg (Q.length - (k + 1))
            case measure => omega
            case rel => exact ⟨k + 1, by omega, by go_num, ⟨_, rfl⟩, ⟨_, rfl⟩, ⟨_, rfl⟩, HB9, HI9⟩
        | false =>
          have HM := Lib.hid hm
          clear hm
          go_cut [8, 9] (fun s8 s9 wd => (∃ x, s8 = x) ∧ s9 = .bool false ∧ Below wr.heap.size wr wd)
          case first =>
            refine wp_region_held_drew (S := fun w' => Below wr.heap.size wr w' ∧ w'.cell? ⟨bx, 0, none⟩ = some (.int .u64 (uv c.vh)) ∧ w'.cell? ⟨bx, 1, none⟩ = some (.int .u64 (uv c.vl)) ∧ w'.cell? ⟨bx, 2, none⟩ = some (.int .u64 (uv c.ch)) ∧ w'.cell? ⟨bx, 3, none⟩ = some (.int .u64 (uv c.cl)) ∧ w'.cell? ⟨bk, 4, none⟩ = some (.int .u64 (uv d.vh)) ∧ w'.cell? ⟨bk, 5, none⟩ = some (.int .u64 (uv d.vl)) ∧ w'.cell? ⟨bk, 6, none⟩ = some (.int .u64 (uv d.ch)) ∧ w'.cell? ⟨bk, 7, none⟩ = some (.int .u64 (uv d.cl))) (by kernel_rfl) (HKP.out _ (Below.refl _ wr).drew) (fun hHeld => ?_)
            have hB := (Below.refl wr.heap.size wr).drew
            generalize wr.drew = u0 at hHeld hB ⊢
            refine wpAnyH_take (i := 0) (oi := ⟨some 25, _, _, _, _, _⟩) (v := ?vobf0_1) rfl (by kernel_rfl) (by kernel_rfl) (by kernel_rfl) (fun _ _ _ h => h) (Or.inl ⟨by rfl, ?yobf0_1⟩) hHeld ?robf0_1
            case yobf0_1 => (intro w' hSw; (try dsimp only at hSw); go_simp; try (with_reducible rfl))
            simp only [Act.put, List.setIfInBounds_toArray, List.set_cons_zero, List.set_cons_succ]
            refine wpAnyH_take (i := 1) (oi := ⟨some 26, _, _, _, _, _⟩) (v := ?vobf1_2) rfl (by kernel_rfl) (by kernel_rfl) (by kernel_rfl) (fun _ _ _ h => h) (Or.inl ⟨by rfl, ?yobf1_2⟩) hHeld ?robf1_2
            case yobf1_2 => (intro w' hSw; (try dsimp only at hSw); go_simp; try (with_reducible rfl))
            simp only [Act.put, List.setIfInBounds_toArray, List.set_cons_zero, List.set_cons_succ]
            refine wpAnyH_take (i := 2) (oi := ⟨some 27, _, _, _, _, _⟩) (v := ?vobf2_3) rfl (by kernel_rfl) (by kernel_rfl) (by kernel_rfl) (fun _ _ _ h => h) (Or.inl ⟨by rfl, ?yobf2_3⟩) hHeld ?robf2_3
            case yobf2_3 => (intro w' hSw; (try dsimp only at hSw); go_simp; try (with_reducible rfl))
            simp only [Act.put, List.setIfInBounds_toArray, List.set_cons_zero, List.set_cons_succ]
            refine wpAnyH_take (i := 3) (oi := ⟨some 28, _, _, _, _, _⟩) (v := ?vobf3_4) rfl (by kernel_rfl) (by kernel_rfl) (by kernel_rfl) (fun _ _ _ h => h) (Or.inl ⟨by rfl, ?yobf3_4⟩) hHeld ?robf3_4
            case yobf3_4 => (intro w' hSw; (try dsimp only at hSw); go_simp; try (with_reducible rfl))
            simp only [Act.put, List.setIfInBounds_toArray, List.set_cons_zero, List.set_cons_succ]
            refine wpAnyH_take (i := 4) (oi := ⟨some 29, _, _, _, _, _⟩) (v := ?vobf4_5) rfl (by kernel_rfl) (by kernel_rfl) (by kernel_rfl) (fun _ _ _ h => h) (Or.inl ⟨by rfl, ?yobf4_5⟩) hHeld ?robf4_5
            case yobf4_5 => (intro w' hSw; (try dsimp only at hSw); go_simp; try (with_reducible rfl))
            simp only [Act.put, List.setIfInBounds_toArray, List.set_cons_zero, List.set_cons_succ]
            refine wpAnyH_ready (rs := [5, 9]) (by kernel_rfl) (by simp) ?_
            refine AllReadyH.cons (o := ⟨some 30, _, _, _, _, _⟩) rfl (fun K hK => ?_) ?_
            · go_simp
              (with_reducible refine (cmeet_f d c _ HM.out).mono ?_)
              rintro e u1 ⟨rfl, hb⟩
              (try dsimp only)
              have hB2 := hB.trans (hb.mono hB.size)
              refine hK.out _ _ (HKP.out _ hB2) (fun hNext => ?_)
              clear hK K hHeld
              have hHeld := hNext
              clear hNext
              clear hB
              have hB := hB2
              clear hB2
              clear hb
              try simp only [Act.put, List.setIfInBounds_toArray, List.set_cons_zero, List.set_cons_succ]
              refine wpAnyH_take (i := 6) (oi := ⟨some 24, _, _, _, _, _⟩) (v := ?vobf6_6) rfl (by kernel_rfl) (by kernel_rfl) (by kernel_rfl) (fun _ _ _ h => h) (Or.inl ⟨by rfl, ?yobf6_6⟩) hHeld ?robf6_6
              case yobf6_6 => (intro w' hSw; (try dsimp only at hSw); go_simp; try (with_reducible rfl))
              simp only [Act.put, List.setIfInBounds_toArray, List.set_cons_zero, List.set_cons_succ]
              refine wpAnyH_take (i := 7) (oi := ⟨some 31, _, _, _, _, _⟩) (v := ?vobf7_7) rfl (by kernel_rfl) (by kernel_rfl) (by kernel_rfl) (fun _ _ _ h => h) (Or.inl ⟨by rfl, ?yobf7_7⟩) hHeld ?robf7_7
              case yobf7_7 => (intro w' hSw; (try dsimp only at hSw); go_simp; try (with_reducible rfl))
              simp only [Act.put, List.setIfInBounds_toArray, List.set_cons_zero, List.set_cons_succ]
              refine wpAnyH_take (i := 8) (oi := ⟨some 32, _, _, _, _, _⟩) (v := ?vobf8_8) rfl (by kernel_rfl) (by kernel_rfl) (by kernel_rfl) (fun _ _ _ h => h) (Or.inl ⟨by rfl, ?yobf8_8⟩) hHeld ?robf8_8
              case yobf8_8 => (intro w' hSw; (try dsimp only at hSw); go_simp; try (with_reducible rfl))
              simp only [Act.put, List.setIfInBounds_toArray, List.set_cons_zero, List.set_cons_succ]
              refine wpAnyH_ready (rs := [9]) (by kernel_rfl) (by simp) ?_
              refine AllReadyH.cons (o := ⟨some 8, _, _, _, _, _⟩) rfl (fun K hK => ?_) AllReadyH.nil
              go_simp
              have hb := below1 u1 (.cells #[.int .u64 0, .int .u64 0, .int .u64 0, .int .u64 0] 27)
              have hB2 := hB.trans (hb.mono hB.size)
              refine hK.out _ _ (HKP.out _ hB2) (fun hNext => ?_)
              have t_m : Nb wr.heap.size (u1.alloc (.cells #[.int .u64 0, .int .u64 0, .int .u64 0, .int .u64 0] 27)) u1.heap.size 27 #[.int .u64 0, .int .u64 0, .int .u64 0, .int .u64 0] := Nb.top u1 hB.size
              clear hK K hHeld
              have hHeld := hNext
              clear hNext
              clear hB
              have hB := hB2
              clear hB2
              clear hb
              generalize hgen : (u1.alloc (.cells #[.int .u64 0, .int .u64 0, .int .u64 0, .int .u64 0] 27)) = u2 at hHeld hB  t_m ⊢
              clear hgen
              generalize hgen : u1.heap.size = b_m at t_m  ⊢
              clear hgen
              try simp only [Act.put, List.setIfInBounds_toArray, List.set_cons_zero, List.set_cons_succ]
              refine wpAnyH_ready (rs := [10]) (by kernel_rfl) (by simp) ?_
              refine AllReadyH.cons (o := ⟨none, _, _, _, _, _⟩) rfl (fun K hK => ?_) AllReadyH.nil
              rw [if_pos (by rfl)]
              refine wp_store_mid 27 _ _ rfl b_m 0 #[.int .u64 0, .int .u64 0, .int .u64 0, .int .u64 0] rfl rfl t_m.there infoCubT (by simp [Value.oneCell']) ?_
              (try dsimp only)
              have hB2 := (Below.setCells [.int .u64 0, .int .u64 0, .int .u64 0, .int .u64 0] 0 _ hB t_m.2)
              refine hK.out _ _ (HKP.out _ hB2) (fun hNext => ?_)
              clear hK K hHeld
              have hHeld := hNext
              clear hNext
              clear hB
              have hB := hB2
              clear hB2
              replace t_m := t_m.put [.int .u64 0, .int .u64 0, .int .u64 0, .int .u64 0] rfl
              generalize hgen : (World.setCells u2 b_m 0 [.int .u64 0, .int .u64 0, .int .u64 0, .int .u64 0]) = u3 at hHeld hB t_m ⊢
              clear hgen
              try simp only [Act.put]
              refine wpAnyH_take (i := 11) (oi := ⟨some 9, _, _, _, _, _⟩) (v := ?vobf11_9) rfl (by kernel_rfl) (by kernel_rfl) (by kernel_rfl) (fun _ _ _ h => h) (Or.inl ⟨by rfl, ?yobf11_9⟩) hHeld ?robf11_9
              case yobf11_9 => (intro w' hSw; (try dsimp only at hSw); go_simp; try (with_reducible rfl))
              simp only [Act.put, List.setIfInBounds_toArray, List.set_cons_zero, List.set_cons_succ]
              refine wpAnyH_done (by kernel_rfl) ?_ _
              go_wp2_with fail
              go_meet
              exact ⟨⟨_, rfl⟩, rfl, hB⟩
            refine AllReadyH.cons (o := ⟨some 8, _, _, _, _, _⟩) rfl (fun K hK => ?_) AllReadyH.nil
            go_simp
            have hb := below1 u0 (.cells #[.int .u64 0, .int .u64 0, .int .u64 0, .int .u64 0] 27)
            have hB2 := hB.trans (hb.mono hB.size)
            refine hK.out _ _ (HKP.out _ hB2) (fun hNext => ?_)
            have t_m : Nb wr.heap.size (u0.alloc (.cells #[.int .u64 0, .int .u64 0, .int .u64 0, .int .u64 0] 27)) u0.heap.size 27 #[.int .u64 0, .int .u64 0, .int .u64 0, .int .u64 0] := Nb.top u0 hB.size
            clear hK K hHeld
            have hHeld := hNext
            clear hNext
            clear hB
            have hB := hB2
            clear hB2
            clear hb
            generalize hgen : (u0.alloc (.cells #[.int .u64 0, .int .u64 0, .int .u64 0, .int .u64 0] 27)) = u4 at hHeld hB  t_m ⊢
            clear hgen
            generalize hgen : u0.heap.size = b_m at t_m  ⊢
            clear hgen
            try simp only [Act.put, List.setIfInBounds_toArray, List.set_cons_zero, List.set_cons_succ]
            refine wpAnyH_ready (rs := [5]) (by kernel_rfl) (by simp) ?_
            refine AllReadyH.cons (o := ⟨some 30, _, _, _, _, _⟩) rfl (fun K hK => ?_) AllReadyH.nil
            go_simp
            (with_reducible refine (cmeet_f d c _ HM.out).mono ?_)
            rintro e u5 ⟨rfl, hb⟩
            (try dsimp only)
            have hB2 := hB.trans (hb.mono hB.size)
            refine hK.out _ _ (HKP.out _ hB2) (fun hNext => ?_)
            clear hK K hHeld
            have hHeld := hNext
            clear hNext
            clear hB
            have hB := hB2
            clear hB2
            replace t_m := t_m.on hb
            clear hb
            try simp only [Act.put, List.setIfInBounds_toArray, List.set_cons_zero, List.set_cons_succ]
            refine wpAnyH_take (i := 6) (oi := ⟨some 24, _, _, _, _, _⟩) (v := ?vobf6_10) rfl (by kernel_rfl) (by kernel_rfl) (by kernel_rfl) (fun _ _ _ h => h) (Or.inl ⟨by rfl, ?yobf6_10⟩) hHeld ?robf6_10
            case yobf6_10 => (intro w' hSw; (try dsimp only at hSw); go_simp; try (with_reducible rfl))
            simp only [Act.put, List.setIfInBounds_toArray, List.set_cons_zero, List.set_cons_succ]
            refine wpAnyH_take (i := 7) (oi := ⟨some 31, _, _, _, _, _⟩) (v := ?vobf7_11) rfl (by kernel_rfl) (by kernel_rfl) (by kernel_rfl) (fun _ _ _ h => h) (Or.inl ⟨by rfl, ?yobf7_11⟩) hHeld ?robf7_11
            case yobf7_11 => (intro w' hSw; (try dsimp only at hSw); go_simp; try (with_reducible rfl))
            simp only [Act.put, List.setIfInBounds_toArray, List.set_cons_zero, List.set_cons_succ]
            refine wpAnyH_take (i := 8) (oi := ⟨some 32, _, _, _, _, _⟩) (v := ?vobf8_12) rfl (by kernel_rfl) (by kernel_rfl) (by kernel_rfl) (fun _ _ _ h => h) (Or.inl ⟨by rfl, ?yobf8_12⟩) hHeld ?robf8_12
            case yobf8_12 => (intro w' hSw; (try dsimp only at hSw); go_simp; try (with_reducible rfl))
            simp only [Act.put, List.setIfInBounds_toArray, List.set_cons_zero, List.set_cons_succ]
            refine wpAnyH_ready (rs := [10]) (by kernel_rfl) (by simp) ?_
            refine AllReadyH.cons (o := ⟨none, _, _, _, _, _⟩) rfl (fun K hK => ?_) AllReadyH.nil
            rw [if_pos (by rfl)]
            refine wp_store_mid 27 _ _ rfl b_m 0 #[.int .u64 0, .int .u64 0, .int .u64 0, .int .u64 0] rfl rfl t_m.there infoCubT (by simp [Value.oneCell']) ?_
            (try dsimp only)
            have hB2 := (Below.setCells [.int .u64 0, .int .u64 0, .int .u64 0, .int .u64 0] 0 _ hB t_m.2)
            refine hK.out _ _ (HKP.out _ hB2) (fun hNext => ?_)
            clear hK K hHeld
            have hHeld := hNext
            clear hNext
            clear hB
            have hB := hB2
            clear hB2
            replace t_m := t_m.put [.int .u64 0, .int .u64 0, .int .u64 0, .int .u64 0] rfl
            generalize hgen : (World.setCells u5 b_m 0 [.int .u64 0, .int .u64 0, .int .u64 0, .int .u64 0]) = u6 at hHeld hB t_m ⊢
            clear hgen
            try simp only [Act.put]
            refine wpAnyH_take (i := 11) (oi := ⟨some 9, _, _, _, _, _⟩) (v := ?vobf11_13) rfl (by kernel_rfl) (by kernel_rfl) (by kernel_rfl) (fun _ _ _ h => h) (Or.inl ⟨by rfl, ?yobf11_13⟩) hHeld ?robf11_13
            case yobf11_13 => (intro w' hSw; (try dsimp only at hSw); go_simp; try (with_reducible rfl))
            simp only [Act.put, List.setIfInBounds_toArray, List.set_cons_zero, List.set_cons_succ]
            refine wpAnyH_done (by kernel_rfl) ?_ _
            go_wp2_with fail
            go_meet
            exact ⟨⟨_, rfl⟩, rfl, hB⟩
          case rest =>
            obtain ⟨⟨y8, rfl⟩, rfl, hB5⟩ := hcut
            have HB5 := Lib.hid (HB.out.trans (hB5.mono HB.out.size))
            have HI5 := Lib.hid (own_on HI.out hB5)
            clear hB5 HB HI HLF HKP HX
            have hno := pk_no (q := fun a => a.met c) HP.out (by dsimp only; exact HM.out)
            rw [← hno] at HI5
            clear hno
            go_wp2
            go_roundg (Q.length - (k + 1))
            case measure => omega
            case rel => exact ⟨k + 1, by omega, by go_num, ⟨_, rfl⟩, ⟨_, rfl⟩, ⟨_, rfl⟩, HB5, HI5⟩
      · have hltz : ¬ (k : Int) < (Q.length : Int) := by omega
        obtain rfl : k = Q.length := by omega
        have hfull : LL.take Q.length = LL := List.take_of_length_le (by have := HQL.out; omega)
        have hO := HI.out
        have hlim := HFL.out Q.length
        rw [hfull] at hO hlim
        have hz := HB.out.size
        have hcon := rowsort_c _ _ _ wr hO hlim hz
        have HGB := Lib.hid (fun j (hj : _ = some j) => (hO.lt j hj).1)
        have HC := Lib.hid hcon
        clear hcon hO hlim hfull hz HI
        go_wp2_with fail
        (with_reducible refine HC.out.mono ?_)
        rintro e w7 ⟨rfl, M, hM1, hM2, hM3, hM4⟩
        have HB7 := Lib.hid (HBW.out.trans ((HB.out.grown hM4 HB.out.size (fun j hj => HGB.out j hj)).mono HBW.out.size))
        have hover := HREP.out.1.over HREP.out.2 c hM1 (by rw [HLL.out]; exact hM2)
        have HM3 := Lib.hid (own_weak hM3 HBW.out.size)
        have HOV := Lib.hid hover
        clear hM1 hM2 hM3 hM4 hover HC HGB HB
        go_wp2
        go_ret
        exact ⟨_, rfl, by rw [← HOV.out]; exact HM3.out, HB7.out⟩
end Go.Proofs

namespace Go.Proofs.Hd
open Go.RowKit Go.Lib
def c4 : Cb := ⟨0#64, 4#64, 0#64, 12#64⟩
def aw1 : List (Int × Cb) := [(5, c4)]
def aw2 : List (Int × Cb) := [(5, c4), (3, ⟨0#64, 0#64, 0#64, 0#64⟩)]
theorem aw_t1 : addT [] 5 c4 = aw1 := by kernel_rfl
theorem aw_e1 : addE [] 5 c4 = 0 := by kernel_rfl
theorem aw_t2 : addT aw1 3 ⟨0#64, 0#64, 0#64, 0#64⟩ = aw2 := by kernel_rfl
theorem aw_e2 : addE aw1 3 ⟨0#64, 0#64, 0#64, 0#64⟩ = 0 := by kernel_rfl
theorem aw_t3 : addT aw2 5 c4 = aw2 := by kernel_rfl
theorem aw_e3 : addE aw2 5 c4 = 8 := by kernel_rfl
theorem aw_m1 : mtT aw2 0#64 7#64 = [3, 5] := by kernel_rfl
theorem aw_m2 : mtT aw2 0#64 8#64 = [3] := by kernel_rfl
theorem aw_o1 : ovS aw2 c4 = [3, 5] := by kernel_rfl
theorem uv_ones : uv (BitVec.allOnes 64) = 18446744073709551615 := by decide +kernel
theorem ovS_one {l : List (Int × Cb)} (h : Tok l) (x y : BitVec 64) : ovS l (oneC x y) = mtT l x y := by
  unfold ovS
  rw [if_pos (oneC_snd x y), mtT_one h]
end Go.Proofs.Hd
namespace Go.Proofs
open Go.RowKit Go.Proofs.Hd Go.Lib
attribute [local go_sem] uv_nonneg
theorem mk_one (hh hl : BitVec 64) (w : World) : Calls Try.prog 25 #[.agg #[.int .u64 (uv hh), .int .u64 (uv hl)], .agg #[.int .u64 18446744073709551615, .int .u64 18446744073709551615]] w fun e w' => e = .returned (.agg #[.int .u64 (uv (oneC hh hl).vh), .int .u64 (uv (oneC hh hl).vl), .int .u64 (uv (oneC hh hl).ch), .int .u64 (uv (oneC hh hl).cl)]) ∧ Below w.heap.size w w' := by
  have h := make_c hh hl (BitVec.allOnes 64) (BitVec.allOnes 64) w
  rw [BitVec.and_allOnes, BitVec.and_allOnes, uv_ones] at h
  show Calls _ _ _ _ fun e w' => e = .returned (.agg #[.int .u64 (uv hh), .int .u64 (uv hl), .int .u64 (uv (BitVec.allOnes 64)), .int .u64 (uv (BitVec.allOnes 64))]) ∧ _
  rw [uv_ones]
  exact h
theorem match_nil (hh hl : BitVec 64) (w : World) : Calls Try.prog 15 #[.pointer none, .agg #[.int .u64 (uv hh), .int .u64 (uv hl)]] w fun e w' => e = .returned (.slice none 0 0) ∧ Below w.heap.size w w' := by
  have HS := Lib.hid (below2 w (.cells #[.int .u64 (uv hh), .int .u64 (uv hl)] 25) (.cells #[.int .u64 18446744073709551615, .int .u64 18446744073709551615] 25))
  have hk1 := mk_one hh hl
  have hk2 := ov_nil (oneC hh hl)
  go_enter Try.func15, Try.ntmps15
  go_wp2_with fail
  (with_reducible refine (hk1 _).mono ?_)
  rintro e w1 ⟨rfl, hb1⟩
  have HB1 := Lib.hid (HS.out.trans (hb1.mono (by simp; omega)))
  clear hb1 hk1
  go_wp2_with fail
  (with_reducible refine (hk2 _).mono ?_)
  rintro e w2 ⟨rfl, hb2⟩
  have HB2 := Lib.hid (HB1.out.trans (hb2.mono HB1.out.size))
  clear hb2 hk2
  go_wp2
  go_ret
  exact ⟨rfl, HB2.out⟩
theorem gotO_in {w0 w : World} {L : List Int} {e : Ending} {w' : World} (hb : Below w0.heap.size w0 w) (h : GotO w L e w') : GotO w0 L e w' := by
  obtain ⟨v, h1, h2, h3⟩ := h
  exact ⟨v, h1, own_weak h2 hb.size, hb.trans (h3.mono hb.size)⟩
/-- Match: the numbers of the cubes that have the header, rising. -/
theorem match_c (hh hl : BitVec 64) (B : Nat) (l : List (Int × Cb)) (S : Nat → Prop) (w : World) (hlen : l.length ≤ 1099511627776) (h : TrieAt w B l S) :
    Calls Try.prog 15 #[.pointer (some ⟨B, 0, none⟩), .agg #[.int .u64 (uv hh), .int .u64 (uv hl)]] w (GotO w (mtT l hh hl)) := by
  have hk1 := mk_one hh hl
  have hb2 := below2 w (.cells #[.int .u64 (uv hh), .int .u64 (uv hl)] 25) (.cells #[.int .u64 18446744073709551615, .int .u64 18446744073709551615] 25)
  have HT := Lib.hid (h.on hb2)
  have HS := Lib.hid hb2
  have HOV := Lib.hid (ovS_one h.tok hh hl)
  clear h hb2
  go_enter Try.func15, Try.ntmps15
  go_wp2_with fail
  (with_reducible refine (hk1 _).mono ?_)
  rintro e w1 ⟨rfl, hb1⟩
  have hcall := ov_c (oneC hh hl) B l S w1 hlen (HT.out.on hb1)
  have HB1 := Lib.hid (HS.out.trans (hb1.mono (by simp; omega)))
  clear hb1 hk1
  go_wp2_with fail
  (with_reducible refine hcall.mono ?_)
  intro e w2 hg
  obtain ⟨v, rfl, hv, hb⟩ := gotO_in HB1.out hg
  have HV := Lib.hid (And.intro hv hb)
  clear hv hb hg hcall
  go_wp2
  go_ret
  refine ⟨v, rfl, ?_, HV.out.2⟩
  rw [← HOV.out]
  exact HV.out.1
theorem row_two {w : World} {base : Nat} {e : TypeId} {v : Value} {x y : Int} (h : w.ownsRow base e 1 v [x, y].length (iv [x, y])) : ∃ g cap, v = .slice (some ⟨g, 0, none⟩) 2 cap ∧ g < w.heap.size ∧ w.cell? ⟨g, 0, none⟩ = some (.int .i64 x) ∧ w.cell? ⟨g, 1, none⟩ = some (.int .i64 y) := by
  obtain ⟨A, cap, rfl⟩ := own_slT h
  obtain ⟨g, rfl, _, h0⟩ := row_first h (x := .int .i64 x) rfl
  refine ⟨g, cap, rfl, (h.lt g rfl).2, h0, ?_⟩
  rw [h.cellAt 1 (by simp)]
  rfl
set_option maxRecDepth 100000 in
set_option maxHeartbeats 4000000 in
theorem awake12_c (w : World) : Calls Try.prog 8 #[] w fun e w' => e = .returned (.bool true) ∧ Below w.heap.size w w' := by
  go_enter Try.func8, Try.ntmps8
  go_wp2_with fail
  (with_reducible refine (new_c w).mono ?_)
  rintro e w1 ⟨B, rfl, hT, hB, hb1⟩
  have hb2 := below1 w1 (.cells #[.int .u64 0, .int .u64 4, .int .u64 0, .int .u64 12] 27)
  have HX : Hid (Blk (w1.alloc (.cells #[.int .u64 0, .int .u64 4, .int .u64 0, .int .u64 12] 27)) w1.heap.size 27 #[.int .u64 0, .int .u64 4, .int .u64 0, .int .u64 12]) := Blk.new w1 _ _
  have HT := Lib.hid (hT.on hb2)
  have HS : Hid (Ch (fun k => w.heap.size ≤ k) w (w1.alloc (.cells #[.int .u64 0, .int .u64 4, .int .u64 0, .int .u64 12] 27))) := Ch.of_below (hb1.trans (hb2.mono hb1.size))
  obtain ⟨S, hS⟩ : ∃ S : Nat → Prop, S = fun y => y = B := ⟨_, rfl⟩
  rw [← hS] at hT HT
  have HN : Hid (∀ y, S y → w.heap.size ≤ y ∧ y ≠ w1.heap.size) := by
    intro y hy
    have := hT.lt y hy
    rw [hS] at hy
    have hy2 : y = B := hy
    exact ⟨by omega, by omega⟩
  clear hS
  clear hT hb1 hb2
  go_upto_region 3 with (fail)
  generalize (w1.alloc (.cells #[.int .u64 0, .int .u64 4, .int .u64 0, .int .u64 12] 27)) = w2 at HX HT HS ⊢
  generalize w1.heap.size = bc at HX HN ⊢
  have hcall : Calls Try.prog 10 #[.pointer (some ⟨B, 0, none⟩), .int .i64 5, .agg #[.int .u64 0, .int .u64 4, .int .u64 0, .int .u64 12]] w2 (TrieTo w2 B aw1 S (.int .i64 0)) := by
    have h := add_c 5 c4 B [] S w2 (by decide) (by decide) HT.out
    rw [aw_t1, aw_e1] at h
    exact h
  have x0 := (HX.out.cell 0).trans rfl
  have x1 := (HX.out.cell 1).trans rfl
  have x2 := (HX.out.cell 2).trans rfl
  have x3 := (HX.out.cell 3).trans rfl
  simp only [List.getElem?_toArray, List.getElem?_cons_succ, List.getElem?_cons_zero] at x0 x1 x2 x3
  go_wp2_with fail
  (with_reducible refine hcall.mono ?_)
  rintro e w3 ⟨S3, rfl, hT3, hn3, hc3⟩
  have HX3 := Lib.hid (hc3.blk HX.out (fun h => (HN.out _ h).2 rfl))
  have HN3 : Hid (∀ y, S3 y → w.heap.size ≤ y ∧ y ≠ bc) := fun y hy => (hn3 y hy).elim (fun h => HN.out y h) (fun h => ⟨by have := HS.out.size; omega, fun e => by have := HX.out.lt; omega⟩)
  have HS3 := Lib.hid (ch_then HS.out hc3 (fun y _ hy => (HN.out y hy).1))
  have HT3 := Lib.hid hT3
  clear hT3 hn3 hc3 hcall x0 x1 x2 x3 HX HN HS HT
  have hcall : Calls Try.prog 10 #[.pointer (some ⟨B, 0, none⟩), .int .i64 3, .agg #[.int .u64 0, .int .u64 0, .int .u64 0, .int .u64 0]] w3 (TrieTo w3 B aw2 S3 (.int .i64 0)) := by
    have h := add_c 3 ⟨0#64, 0#64, 0#64, 0#64⟩ B aw1 S3 w3 (by decide) (by decide) HT3.out
    rw [aw_t2, aw_e2] at h
    exact h
  go_wp2_with fail
  (with_reducible refine hcall.mono ?_)
  rintro e w4 ⟨S4, rfl, hT4, hn4, hc4⟩
  have HX4 := Lib.hid (hc4.blk HX3.out (fun h => (HN3.out _ h).2 rfl))
  have HN4 : Hid (∀ y, S4 y → w.heap.size ≤ y ∧ y ≠ bc) := fun y hy => (hn4 y hy).elim (fun h => HN3.out y h) (fun h => ⟨by have := HS3.out.size; omega, fun e => by have := HX3.out.lt; omega⟩)
  have HS4 := Lib.hid (ch_then HS3.out hc4 (fun y _ hy => (HN3.out y hy).1))
  have HT4 := Lib.hid hT4
  clear hT4 hn4 hc4 hcall HX3 HN3 HS3 HT3
  have hcall : Calls Try.prog 10 #[.pointer (some ⟨B, 0, none⟩), .int .i64 5, .agg #[.int .u64 0, .int .u64 4, .int .u64 0, .int .u64 12]] w4 (TrieTo w4 B aw2 S4 (.int .i64 8)) := by
    have h := add_c 5 c4 B aw2 S4 w4 (by decide) (by decide) HT4.out
    rw [aw_t3, aw_e3] at h
    exact h
  have x0 := (HX4.out.cell 0).trans rfl
  have x1 := (HX4.out.cell 1).trans rfl
  have x2 := (HX4.out.cell 2).trans rfl
  have x3 := (HX4.out.cell 3).trans rfl
  simp only [List.getElem?_toArray, List.getElem?_cons_succ, List.getElem?_cons_zero] at x0 x1 x2 x3
  go_wp2_with fail
  (with_reducible refine hcall.mono ?_)
  rintro e w5 ⟨S5, rfl, hT5, hn5, hc5⟩
  have HX5 := Lib.hid (hc5.blk HX4.out (fun h => (HN4.out _ h).2 rfl))
  have HS5 := Lib.hid (ch_then HS4.out hc5 (fun y _ hy => (HN4.out y hy).1))
  have HT5 := Lib.hid hT5
  clear hT5 hn5 hc5 hcall HX4 HN4 HS4 HT4 x0 x1 x2 x3
  have hcall : Calls Try.prog 15 #[.pointer (some ⟨B, 0, none⟩), .agg #[.int .u64 0, .int .u64 7]] w5 (GotO w5 [3, 5]) := by
    have h := match_c 0#64 7#64 B aw2 S5 w5 (by decide) HT5.out
    rw [aw_m1] at h
    exact h
  go_wp2_with fail
  (with_reducible refine hcall.mono ?_)
  rintro e w6 ⟨v6, rfl, ho6, hb6⟩
  obtain ⟨g, cap, rfl, hg, hg0, hg1⟩ := row_two ho6
  have HX6 := Lib.hid (HX5.out.on hb6)
  have HS6 := Lib.hid (ch_then HS5.out (Ch.of_below hb6 : Ch (fun _ => False) _ _) (fun _ _ h => h.elim))
  have HT6 := Lib.hid (HT5.out.on hb6)
  clear ho6 hb6 hcall HX5 HS5 HT5
  have HG := Lib.hid (And.intro hg (And.intro hg0 hg1))
  clear hg hg0 hg1
  have hcall : Calls Try.prog 15 #[.pointer (some ⟨B, 0, none⟩), .agg #[.int .u64 0, .int .u64 8]] w6 (GotO w6 [3]) := by
    have h := match_c 0#64 8#64 B aw2 S5 w6 (by decide) HT6.out
    rw [aw_m2] at h
    exact h
  go_wp2_with fail
  (with_reducible refine hcall.mono ?_)
  rintro e w7 ⟨v7, rfl, ho7, hb7⟩
  obtain ⟨A7, cap7, rfl⟩ := own_slT ho7
  have HX7 := Lib.hid (HX6.out.on hb7)
  have HS7 := Lib.hid (ch_then HS6.out (Ch.of_below hb7 : Ch (fun _ => False) _ _) (fun _ _ h => h.elim))
  have HT7 := Lib.hid (HT6.out.on hb7)
  have g0 := on_some hb7 HG.out.2.1
  have g1 := on_some hb7 HG.out.2.2
  clear ho7 hb7 hcall HX6 HS6 HT6
  have hcall : Calls Try.prog 13 #[.pointer (some ⟨B, 0, none⟩)] w7 fun e w' => e = .returned (.int .i64 2) ∧ w' = w7 := len_c B aw2 S5 w7 HT7.out
  go_wp2_with fail
  (with_reducible refine hcall.mono ?_)
  rintro e w8 ⟨rfl, rfl⟩
  have x0 := (HX7.out.cell 0).trans rfl
  have x1 := (HX7.out.cell 1).trans rfl
  have x2 := (HX7.out.cell 2).trans rfl
  have x3 := (HX7.out.cell 3).trans rfl
  simp only [List.getElem?_toArray, List.getElem?_cons_succ, List.getElem?_cons_zero] at x0 x1 x2 x3
  have hcall2 : Calls Try.prog 16 #[.pointer (some ⟨B, 0, none⟩), .agg #[.int .u64 0, .int .u64 4, .int .u64 0, .int .u64 12]] w8 (GotO w8 [3, 5]) := by
    have h := ov_c c4 B aw2 S5 w8 (by decide) HT7.out
    rw [aw_o1] at h
    exact h
  clear hcall
  go_wp2_with fail
  (with_reducible refine hcall2.mono ?_)
  rintro e w9 ⟨v9, rfl, ho9, hb9⟩
  obtain ⟨A9, cap9, rfl⟩ := own_slT ho9
  have HS9 := Lib.hid (ch_then HS7.out (Ch.of_below hb9 : Ch (fun _ => False) _ _) (fun _ _ h => h.elim))
  clear ho9 hb9 hcall2 HX7 HS7 HT7 g0 g1 x0 x1 x2 x3
  go_wp2
  go_ret
  exact ⟨rfl, HS9.out.below (Nat.le_refl _) (fun k hk h => by omega)⟩
end Go.Proofs
