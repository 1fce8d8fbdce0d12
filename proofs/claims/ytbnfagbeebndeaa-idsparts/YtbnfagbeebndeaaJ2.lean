/-
  Numbers in memory (Nm); contracts of ids.Sound, of slices.Index, slices.Contains and ids.Has, and of the law's own has. Conditions as each theorem lists them.
  How a header that is handed in by value reads, and that it reads so again. No conditions.
  How a slice of numbers that is handed in reads. No conditions.
  The library's contracts of slices.Sort, slices.Compact, cmp.Less and slices.isNaN over ints lie at this program: their functions' bodies are compared by the kernel. No conditions.
  Rows of numbers that a call owns; what slices.Sort and slices.Compact make of a list is its set; contract of ids.Make. Conditions as each theorem lists them.
  Contracts of ids.asSet, of slices.BinarySearch at an increasing list, of the set's methods has, lacks and only. Conditions as each theorem lists them.
-/
import Derived.Test.YtbnfagbeebndeaaJ1
import Derived.Deep.LoopGhost
import Derived.BigQuiet
import Derived.Lib.Hide
import Derived.Shelf.RegionOpenPlain
import Derived.Test.YtbnfagbeebndeaaProg
import Derived.Test.YtbnfagbeebndeaaChecked
import Derived.ProofKit
import Derived.OpenShut
import Derived.Lib.SmallJoins
import Derived.KernelRfl
import Derived.Deep.Slices
import Derived.Deep.Strs
import Derived.Shelf.Sort.Plain
import Derived.Shelf.Slices.CompactI
import Derived.Shelf.Slices.SearchI
import Derived.Shelf.Slices.In.SortNone
import Derived.Shelf.SlicesG.SearchI
import Derived.Sort.OwnSortedInts
import Derived.Laws.MakeOwn
namespace Go.Proofs.Hd
open Go.RowKit
/-- v is a slice that reads as the numbers L (a nil one let in), no longer than its capacity. -/
def Nm (w : World) (v : Value) (L : List Int) : Prop := ∃ A c, v = .slice A L.length c ∧ L.length ≤ c ∧ c ≤ maxLen ∧ (L = [] ∨ ∃ b o, A = some ⟨b, o, none⟩ ∧ b < w.heap.size ∧ ∀ (k : Nat) (x : Int), L[k]? = some x → w.cell? ⟨b, o + k, none⟩ = some (.int .i64 x))
theorem Nm.on {w w' : World} {v : Value} {L : List Int} (h : Nm w v L) (hb : Below w.heap.size w w') : Nm w' v L := by
  obtain ⟨A, c, e, h1, h2, h3⟩ := h
  refine ⟨A, c, e, h1, h2, ?_⟩
  rcases h3 with h | ⟨b, o, e, hlt, h⟩
  · exact .inl h
  · exact .inr ⟨b, o, e, Nat.lt_of_lt_of_le hlt hb.size, fun k x hk => on_some hb (h k x hk)⟩
theorem Nm.nil (w : World) : Nm w (.slice none 0 0) [] := ⟨none, 0, rfl, Nat.le_refl _, Nat.zero_le _, .inl rfl⟩
theorem bdn {B : Nat} {w w' : World} (h : Below B w w') (n : Nat) : Below B w (w'.drewN n) := ⟨h.os, h.tape, h.output, h.size, h.block⟩
theorem Nm.take {w : World} {A : Option Addr} {n c : Nat} {L : List Int} (h : Nm w (.slice A n c) L) {k : Nat} (hk : k ≤ L.length) : Nm w (.slice A k c) (L.take k) := by
  obtain ⟨A', c', e, h1, h2, h3⟩ := h
  injection e with e1 e2 e3
  subst e1 e2 e3
  have hl : (L.take k).length = k := by rw [List.length_take]; omega
  refine ⟨A, c, by rw [hl], by omega, h2, ?_⟩
  rcases h3 with h | ⟨b, o, e, hlt, h⟩
  · left; rw [h]; simp
  · refine .inr ⟨b, o, e, hlt, fun j x hj => h j x ?_⟩
    rw [List.getElem?_take] at hj
    split at hj
    · exact hj
    · cases hj
theorem incB_iff {L : List Int} : decide (Inc L) = true ↔ Inc L := by simp
/-- The step of Sound. -/
theorem inc_step {L : List Int} {j k : Nat} {y z : Int} (e : j + 1 = k) (hy : L[j]? = some y) (hz : L[k]? = some z) : Inc (L.take (k + 1)) ↔ Inc (L.take k) ∧ y < z := by
  subst e
  exact inc_take_succ hy hz
theorem inc_one {L : List Int} {k : Nat} (h : k ≤ 1) : Inc (L.take k) := by
  match L, k, h with
  | [], k, _ => simp [Inc]
  | a :: L, 0, _ => simp [Inc]
  | a :: L, 1, _ => simp [Inc]
theorem inc_take {L : List Int} (h : Inc L) (k : Nat) : Inc (L.take k) := List.Pairwise.sublist (List.take_sublist k L) h
theorem pred_wrap {j k : Nat} (e : j + 1 = k) (h : k ≤ 4611686018427387904) : IntKind.i64.wrap ((k : Int) - 1) = (j : Int) := by rw [IntKind.wrap_i64]; omega
end Go.Proofs.Hd
namespace Go.Proofs
open Go.RowKit Go.Proofs.Hd Go.Lib
attribute [local go_sem] uv_nonneg
set_option maxHeartbeats 2000000 in
theorem idsound_c (v : Value) (L : List Int) (w : World) (hl : L.length ≤ 4611686018427387904) (hv : Nm w v L) : Calls Try.prog 10 #[v] w fun e w' => e = .returned (.bool (decide (Inc L))) ∧ Below w.heap.size w w' := by
  obtain ⟨A, c, rfl, _, _, h3⟩ := hv
  have hlz : (L.length : Int) ≤ 4611686018427387904 := by omega
  obtain ⟨r, hr⟩ : ∃ r, decide (Inc L) = r := ⟨_, rfl⟩
  rw [hr]
  rcases h3 with rfl | ⟨b, o, rfl, hb, hc⟩
  · obtain rfl : r = true := by rw [← hr]; simp [Inc]
    clear hr
    go_enter Try.func10, Try.ntmps10
    go_wp2
    refine wp_loop_rounds 1 ?_
    rw [rounds_succ]
    go_wp2
    go_ret
    exact ⟨rfl, Below.refl _ _⟩
  · have HC := Lib.hid hc
    have HR := Lib.hid hr
    clear hc hr
    go_enter Try.func10, Try.ntmps10
    go_wp2
    go_loopg [3] L.length (fun gk s3 wr => ∃ k : Nat, 1 ≤ k ∧ gk + k = L.length + 1 ∧ s3 = .int .i64 k ∧ Hid (Below w.heap.size w wr) ∧ Hid (Inc (L.take k)))
    case atStart => exact ⟨1, Nat.le_refl _, by omega, rfl, Below.refl _ _, inc_one (Nat.le_refl _)⟩
    case round =>
      obtain ⟨k, hk, hgk, rfl, HB, HI⟩ := hrel
      by_cases hlt : k < L.length
      · have hltz : (k : Int) < (L.length : Int) := by omega
        obtain ⟨j, e⟩ : ∃ j, j + 1 = k := ⟨k - 1, by omega⟩
        have hjz : (j : Int) < (L.length : Int) := by omega
        have q1 := pred_wrap e (by omega)
        have q2 : (k : Int) - 1 = (j : Int) := by omega
        obtain ⟨y, hy⟩ : ∃ y, L[j]? = some y := ⟨_, List.getElem?_eq_getElem (by omega)⟩
        obtain ⟨z, hz⟩ : ∃ z, L[k]? = some z := ⟨_, List.getElem?_eq_getElem hlt⟩
        have d1 := on_some HB.out (HC.out j y hy)
        have d2 := on_some HB.out (HC.out k z hz)
        have st := Lib.hid (inc_step e hy hz)
        have E := Lib.hid e
        clear hy hz e
        by_cases hyz : y < z
        · have hd : decide (z ≤ y) = false := by simp; omega
          go_wp2_with fail
          go_quiet (fail)
          have HB2 := Lib.hid (bdn HB.out nq)
          clear d1 d2 HB
          generalize wr.drewN nq = w2 at HB2 ⊢
          go_wp2
          go_roundg (L.length + 1 - (k + 1))
          case measure => omega
          case rel => exact ⟨k + 1, by omega, by omega, by go_num, HB2, st.out.2 ⟨HI.out, hyz⟩⟩
        · have hd : decide (z ≤ y) = true := by simp; omega
          have hrf : r = false := by
            cases r with
            | false => rfl
            | true =>
              have h1 : Inc L := by simpa using HR.out
              exact absurd (st.out.1 (inc_take h1 _)).2 hyz
          subst hrf
          go_wp2_with fail
          go_quiet (fail)
          have HB2 := Lib.hid (bdn HB.out nq)
          clear d1 d2 HB
          generalize wr.drewN nq = w2 at HB2 ⊢
          go_wp2
          go_ret
          exact ⟨rfl, HB2.out⟩
      · have hltz : ¬ (k : Int) < (L.length : Int) := by omega
        have hrt : r = true := by
          have h1 := HI.out
          rw [List.take_of_length_le (by omega)] at h1
          have h2 := HR.out
          simpa [h1] using h2.symm
        subst hrt
        go_wp2
        go_ret
        exact ⟨rfl, HB.out⟩
set_option maxHeartbeats 2000000 in
theorem lhas_c (v : Value) (L : List Int) (x : Int) (w : World) (hl : L.length ≤ 4611686018427387904) (hv : Nm w v L) : Calls Try.prog 12 #[v, .int .i64 x] w fun e w' => e = .returned (.bool (decide (x ∈ L))) ∧ Below w.heap.size w w' := by
  obtain ⟨A, c, rfl, _, _, h3⟩ := hv
  have hlz : (L.length : Int) ≤ 4611686018427387904 := by omega
  obtain ⟨r, hr⟩ : ∃ r, decide (x ∈ L) = r := ⟨_, rfl⟩
  rw [hr]
  rcases h3 with rfl | ⟨b, o, rfl, hb, hc⟩
  · obtain rfl : r = false := by rw [← hr]; simp
    clear hr
    go_enter Try.func12, Try.ntmps12
    go_wp2
    refine wp_loop_rounds 1 ?_
    rw [rounds_succ]
    go_wp2
    go_ret
    exact ⟨rfl, Below.refl _ _⟩
  · have HC := Lib.hid hc
    have HR := Lib.hid hr
    clear hc hr
    go_enter Try.func12, Try.ntmps12
    go_wp2
    go_loopg [5] L.length (fun gk s5 wr => ∃ k : Nat, k ≤ L.length ∧ gk = L.length - k ∧ s5 = .int .i64 k ∧ wr = w ∧ Hid (x ∉ L.take k))
    case atStart => exact ⟨0, Nat.zero_le _, rfl, rfl, rfl, by simp [Hid]⟩
    case round =>
      obtain ⟨k, hk, rfl, rfl, rfl, HI⟩ := hrel
      by_cases hlt : k < L.length
      · have hltz : (k : Int) < (L.length : Int) := by omega
        obtain ⟨y, hy⟩ : ∃ y, L[k]? = some y := ⟨_, List.getElem?_eq_getElem hlt⟩
        have d1 := HC.out k y hy
        have HY := Lib.hid hy
        clear hy
        by_cases e : y = x
        · have hd : (y == x) = true := by simpa using e
          have hrt : r = true := by
            rw [← HR.out]
            have := List.mem_of_getElem? HY.out
            simp [← e, this]
          subst hrt
          have E := Lib.hid e
          clear e
          go_wp2
          go_ret
          exact ⟨rfl, Below.refl _ _⟩
        · have hd : (y == x) = false := by simpa using e
          have E := Lib.hid e
          clear e
          go_wp2
          go_roundg (L.length - (k + 1))
          case measure => omega
          case rel =>
            refine ⟨k + 1, by omega, rfl, by go_num, rfl, fun h => ?_⟩
            rw [List.take_add_one, HY.out, List.mem_append] at h
            rcases h with h | h
            · exact HI.out h
            · simp at h; exact E.out h.symm
      · have hltz : ¬ (k : Int) < (L.length : Int) := by omega
        have hrf : r = false := by
          rw [← HR.out]
          have h1 := HI.out
          rw [List.take_of_length_le (by omega)] at h1
          simp [h1]
        subst hrf
        go_wp2
        go_ret
        exact ⟨rfl, Below.refl _ _⟩
set_option maxHeartbeats 2000000 in
theorem sindex_c (v : Value) (L : List Int) (x : Int) (w : World) (hl : L.length ≤ 4611686018427387904) (hv : Nm w v L) : Calls Try.prog 28 #[v, .int .i64 x] w fun e w' => ∃ r : Int, e = .returned (.int .i64 r) ∧ w' = w ∧ (0 ≤ r ↔ x ∈ L) := by
  obtain ⟨A, c, rfl, _, _, h3⟩ := hv
  have hlz : (L.length : Int) ≤ 4611686018427387904 := by omega
  rcases h3 with rfl | ⟨b, o, rfl, hb, hc⟩
  · go_enter Try.func28, Try.ntmps28
    go_wp2
    refine wp_loop_rounds 1 ?_
    rw [rounds_succ]
    go_wp2
    go_ret
    exact ⟨-1, rfl, rfl, by simp⟩
  · have HC := Lib.hid hc
    clear hc
    go_enter Try.func28, Try.ntmps28
    go_wp2
    go_loopg [5, 8] L.length (fun gk _ s8 wr => ∃ k : Nat, k ≤ L.length ∧ gk = L.length - k ∧ s8 = .int .i64 k ∧ wr = w ∧ Hid (x ∉ L.take k))
    case atStart => exact ⟨0, Nat.zero_le _, rfl, rfl, rfl, by simp [Hid]⟩
    case round =>
      obtain ⟨k, hk, rfl, rfl, rfl, HI⟩ := hrel
      by_cases hlt : k < L.length
      · have hltz : (k : Int) < (L.length : Int) := by omega
        obtain ⟨y, hy⟩ : ∃ y, L[k]? = some y := ⟨_, List.getElem?_eq_getElem hlt⟩
        have d1 := HC.out k y hy
        have HY := Lib.hid hy
        clear hy
        by_cases e : x = y
        · have hd : (x == y) = true := by simpa using e
          have E := Lib.hid e
          clear e
          go_wp2
          go_ret
          exact ⟨(k : Int), rfl, rfl, by simp [E.out, List.mem_of_getElem? HY.out]⟩
        · have hd : (x == y) = false := by simpa using e
          have E := Lib.hid e
          clear e
          go_wp2
          go_roundg (L.length - (k + 1))
          case measure => omega
          case rel =>
            refine ⟨k + 1, by omega, rfl, by go_num, rfl, fun h => ?_⟩
            rw [List.take_add_one, HY.out, List.mem_append] at h
            rcases h with h | h
            · exact HI.out h
            · simp at h; exact E.out h
      · have hltz : ¬ (k : Int) < (L.length : Int) := by omega
        have h1 := HI.out
        rw [List.take_of_length_le (by omega)] at h1
        have H1 := Lib.hid h1
        clear h1
        go_wp2
        go_ret
        exact ⟨-1, rfl, rfl, ⟨fun h => absurd h (by decide), fun h => absurd h H1.out⟩⟩
theorem idhas_c (v : Value) (L : List Int) (x : Int) (w : World) (hl : L.length ≤ 4611686018427387904) (hv : Nm w v L) : Calls Try.prog 11 #[v, .int .i64 x] w fun e w' => e = .returned (.bool (decide (x ∈ L))) ∧ w' = w := by
  have hcon := sindex_c v L x w hl hv
  obtain ⟨r, hr⟩ : ∃ r, decide (x ∈ L) = r := ⟨_, rfl⟩
  rw [hr]
  have HR := Lib.hid hr
  clear hr hv
  have hcon2 : Calls Try.prog 19 #[v, .int .i64 x] w fun e w' => e = .returned (.bool r) ∧ w' = w := by
    go_enter Try.func19, Try.ntmps19
    go_wp2_with fail
    (with_reducible refine hcon.mono ?_)
    rintro e w1 ⟨k, rfl, rfl, hk⟩
    cases r with
    | true =>
      have h1 : (0 : Int) ≤ k := hk.2 (by simpa using HR.out)
      clear hk HR
      go_wp2
      go_ret
      exact ⟨rfl, rfl⟩
    | false =>
      have h1 : decide ((0 : Int) ≤ k) = false := by
        have h2 := HR.out
        simp only [decide_eq_false_iff_not] at h2 ⊢
        exact fun h => h2 (hk.1 h)
      clear hk HR
      go_wp2
      go_ret
      exact ⟨rfl, rfl⟩
  clear hcon HR
  go_enter Try.func11, Try.ntmps11
  go_wp2_with fail
  (with_reducible refine hcon2.mono ?_)
  rintro e w1 ⟨rfl, rfl⟩
  go_wp2
  go_ret
  exact ⟨rfl, rfl⟩
end Go.Proofs

namespace Go.Proofs.Ytbnfagbeebndeaa
open Go.ChangeShapes Go.WideShapes Go.ChangeAt Go.RowKit Go.Joins Go.Proofs.Hd

theorem own : ownKnob Try.prog.godebug = none := by kernel_rfl
theorem uv_of (a : Int) (h : (Lit.int .u64 a).wf = true) : ∃ x : BitVec 64, a = uv x := by
  obtain ⟨h1, h2⟩ := bounds_u64 h
  refine ⟨BitVec.ofInt 64 a, ?_⟩
  unfold uv
  rw [BitVec.toNat_ofInt, big]
  omega

end Go.Proofs.Ytbnfagbeebndeaa

namespace Go.Proofs.Ytbnfagbeebndeaa
open Go.ChangeShapes Go.WideShapes Go.ChangeAt Go.RowKit Go.Joins Go.Deep Go.Proofs.Hd
theorem cellsIntY : Try.prog.cellsOf 3 = 1 := by kernel_rfl
theorem add_plainY (b o n : Nat) : (⟨b, o, none⟩ : Addr).add n = ⟨b, o + n, none⟩ := by unfold Addr.add; by_cases hn : n = 0 <;> simp [hn]
set_option maxRecDepth 100000 in
/-- A slice of numbers. -/
theorem open_nums {H : Type} {enc : TypeId × Value → H} {W : World} {base : Nat} {v : Value} {d : DataW H} {p : List MemPlace} (hok : Value.okWide Try.prog W .any base 22 v)
    (h0 : DataW.Trod enc Try.prog W 0 (fun _ => true) true 22 v d p) : ∃ (A : Option Addr) (cap : Nat) (L : List Int), v = .slice A L.length cap ∧ Nm W v L ∧ (L.length = 0 ∨ ∃ el sp, d = .slice el sp ∧ el.length = L.length) := by
  obtain ⟨fuel, hf⟩ := h0
  obtain ⟨va, vl, vc, rfl⟩ := okWide_slice Try.underlying22 hok
  rcases open_slice Try.underlying22 hf with ⟨h1, _⟩ | ⟨a, len, cap, m, n, D, Pl, hcs, _, hlc, hcm, hm, hx, hel⟩
  · have : va = none ∧ vl = 0 ∧ vc = 0 := by simpa [Value.cells] using h1
    obtain ⟨rfl, rfl, rfl⟩ := this
    exact ⟨none, 0, [], rfl, Nm.nil _, .inl rfl⟩
  · have hv : va = some a ∧ vl = len ∧ vc = cap := by simpa [Value.cells] using hcs
    obtain ⟨rfl, rfl, rfl⟩ := hv
    rw [cellsIntY] at hel
    have hm' : m = vc := by simpa using hm
    subst hm'
    obtain ⟨f, hfr⟩ := choose_lt (α := Int) (p := fun i x => W.cell? (a.add (i * 1)) = some (.int .i64 x)) (fun i (hi : i < m) => by
      obtain ⟨cs', hc, ht⟩ := hel i hi
      obtain ⟨_, hl, hat⟩ := World.cells?_some hc
      match cs', hl with
      | [c0], _ =>
        obtain ⟨x, e0, _, _⟩ := DataW.trod_int Try.underlying3 ht
        have e1 : c0 = .int .i64 x := by simpa using e0
        refine ⟨x, ?_⟩
        have := hat 0 (by simp)
        simpa [e1, Addr.add] using this)
    have hd := congrArg Prod.fst hx
    refine ⟨some a, m, (List.range vl).map f, by simp, ⟨some a, m, by simp, by simpa using hlc, hcm, ?_⟩, .inr ⟨_, _, hd, by simp⟩⟩
    by_cases h0 : vl = 0
    · subst h0
      exact .inl (by simp)
    · have h1 := hfr 0 (by omega)
      obtain ⟨b, off, spot⟩ := a
      have hs : spot = none := by
        have := World.cell?_spot h1
        simpa [Addr.add] using this
      subst hs
      have hlt := World.block_lt_of_cell? W _ h1
      rw [add_plainY] at hlt
      refine .inr ⟨b, off, rfl, hlt, fun k x hk => ?_⟩
      obtain ⟨hkl, rfl⟩ := List.getElem?_eq_some_iff.1 hk
      simp only [List.length_map, List.length_range] at hkl
      simp only [List.getElem_map, List.getElem_range]
      have := hfr k (by omega)
      rw [add_plainY, Nat.mul_one] at this
      exact this
end Go.Proofs.Ytbnfagbeebndeaa

namespace Go.Proofs
open Go.Shelf Go.RowKit Go.Lib Go.Sort
def Try.lays189_ren : Go.Shelf.Ren := ⟨fun | 189 => 17 | 125 => 27 | 257 => 26 | 128 => 41 | 129 => 42 | 294 => 32 | 295 => 33 | 296 => 34 | 297 => 35 | 298 => 36 | 299 => 37 | 216 => 38 | 300 => 39 | 301 => 40 | 328 => 45 | 329 => 46 | 330 => 47 | 331 => 48 | 332 => 49 | 215 => 44 | 343 => 50 | n => n, fun | 28 => 22 | 3 => 3 | 46 => 40 | 0 => 0 | 51 => 56 | 53 => 58 | 4 => 4 | 183 => 49 | 182 => 48 | 131 => 44 | 5 => 5 | 9 => 9 | 218 => 59 | 222 => 63 | 228 => 65 | 229 => 66 | n => n, fun | n => n⟩
theorem Try.lays189 : Go.Proofs.Lays.n189 Try.prog Try.lays189_ren := {
  mixed := by kernel_rfl
  f125 := Try.func27.trans (congrArg some (by kernel_rfl))
  f128 := Try.func41.trans (congrArg some (by kernel_rfl))
  f129 := Try.func42.trans (congrArg some (by kernel_rfl))
  f189 := Try.func17.trans (congrArg some (by kernel_rfl))
  f215 := Try.func44.trans (congrArg some (by kernel_rfl))
  f216 := Try.func38.trans (congrArg some (by kernel_rfl))
  f257 := Try.func26.trans (congrArg some (by kernel_rfl))
  f294 := Try.func32.trans (congrArg some (by kernel_rfl))
  f295 := Try.func33.trans (congrArg some (by kernel_rfl))
  f296 := Try.func34.trans (congrArg some (by kernel_rfl))
  f297 := Try.func35.trans (congrArg some (by kernel_rfl))
  f298 := Try.func36.trans (congrArg some (by kernel_rfl))
  f299 := Try.func37.trans (congrArg some (by kernel_rfl))
  f300 := Try.func39.trans (congrArg some (by kernel_rfl))
  f301 := Try.func40.trans (congrArg some (by kernel_rfl))
  f328 := Try.func45.trans (congrArg some (by kernel_rfl))
  f329 := Try.func46.trans (congrArg some (by kernel_rfl))
  f330 := Try.func47.trans (congrArg some (by kernel_rfl))
  f331 := Try.func48.trans (congrArg some (by kernel_rfl))
  f332 := Try.func49.trans (congrArg some (by kernel_rfl))
  f343 := Try.func50.trans (congrArg some (by kernel_rfl))
  t0 := Try.underlying0
  a0 := Try.isAgg0
  z0 := Try.sizeOf0
  v0 := Try.zeroValue0
  t3 := Try.underlying3
  a3 := Try.isAgg3
  z3 := Try.sizeOf3
  v3 := Try.zeroValue3
  t4 := Try.underlying4
  a4 := Try.isAgg4
  z4 := Try.sizeOf4
  v4 := Try.zeroValue4
  t5 := Try.underlying5
  a5 := Try.isAgg5
  z5 := Try.sizeOf5
  v5 := Try.zeroValue5
  t9 := Try.underlying9
  a9 := Try.isAgg9
  z9 := Try.sizeOf9
  v9 := Try.zeroValue9
  t28 := Try.underlying22
  a28 := Try.isAgg22
  z28 := Try.sizeOf22
  v28 := Try.zeroValue22
  t46 := Try.underlying40
  a46 := Try.isAgg40
  z46 := Try.sizeOf40
  v46 := Try.zeroValue40
  t51 := Try.underlying56
  a51 := Try.isAgg56
  z51 := Try.sizeOf56
  v51 := Try.zeroValue56
  t53 := Try.underlying58
  a53 := Try.isAgg58
  z53 := Try.sizeOf58
  v53 := Try.zeroValue58
  t131 := Try.underlying44
  a131 := Try.isAgg44
  z131 := Try.sizeOf44
  v131 := Try.zeroValue44
  t182 := Try.underlying48
  a182 := Try.isAgg48
  z182 := Try.sizeOf48
  v182 := Try.zeroValue48
  t183 := Try.underlying49
  a183 := Try.isAgg49
  z183 := Try.sizeOf49
  v183 := Try.zeroValue49
  t218 := Try.underlying59
  a218 := Try.isAgg59
  z218 := Try.sizeOf59
  v218 := Try.zeroValue59
  t222 := Try.underlying63
  a222 := Try.isAgg63
  z222 := Try.sizeOf63
  v222 := Try.zeroValue63
  t228 := Try.underlying65
  a228 := Try.isAgg65
  z228 := Try.sizeOf65
  v228 := Try.zeroValue65
  t229 := Try.underlying66
  a229 := Try.isAgg66
  z229 := Try.sizeOf66
  v229 := Try.zeroValue66 }
theorem Try.slices_Sort_int (blk off cap : Nat) (zs : List Int) (w : World) (hH : Holds (Value.int .i64) w blk off zs.toArray) (hblk : blk < w.heap.size) (hsz : zs.length < 4611686018427387904) :
    Calls Try.prog 17 #[.slice (some ⟨blk, off, none⟩) zs.length cap] w fun e w' =>
      e = .returned (.tuple #[]) ∧ ∃ n os, w' = grow (putRow (Value.int .i64) (Sort.ahead w n) blk off (zs.mergeSort fun x y => decide (x ≤ y)).toArray) os := Any.slices_Sort_int Try.lays189 blk off cap zs w hH hblk hsz
def Try.laysNm220_ren : Go.Shelf.Ren := ⟨fun | 20 => 18 | n => n, fun | 22 => 22 | 3 => 3 | 4 => 4 | 0 => 0 | n => n, fun | n => n⟩
theorem Try.laysNm220 : Go.Proofs.Lays2.n20 Try.prog Try.laysNm220_ren := {
  mixed := by kernel_rfl
  f20 := Try.func18.trans (congrArg some (by kernel_rfl))
  t0 := Try.underlying0
  a0 := Try.isAgg0
  z0 := Try.sizeOf0
  v0 := Try.zeroValue0
  t3 := Try.underlying3
  a3 := Try.isAgg3
  z3 := Try.sizeOf3
  v3 := Try.zeroValue3
  t4 := Try.underlying4
  a4 := Try.isAgg4
  z4 := Try.sizeOf4
  v4 := Try.zeroValue4
  t22 := Try.underlying22
  a22 := Try.isAgg22
  z22 := Try.sizeOf22
  v22 := Try.zeroValue22
  i3 := by kernel_rfl }
theorem Try.slices_Compact_int (blk off cap : Nat) (zs : List Int) (w : World) (hH : Holds (Value.int .i64) w blk off zs.toArray) (hsz : zs.length ≤ 9223372036854775807) (hcap : zs.length ≤ cap) :
    Calls Try.prog 18 #[.slice (some ⟨blk, off, none⟩) zs.length cap] w fun e w' => e = .returned (.slice (some ⟨blk, off, none⟩) (Lib.compact zs).length cap) ∧ ∃ q, w' = putRow (Value.int .i64) (Sort.ahead w q) blk off (Lib.compact zs ++ List.replicate (zs.length - (Lib.compact zs).length) 0).toArray := Any.slices_Compact_int Try.laysNm220 blk off cap zs w hH hsz hcap
theorem Try.slices_Compact_int_empty (a : Option Addr) (cap : Nat) (w : World) :
    Calls Try.prog 18 #[.slice a 0 cap] w fun e w' => e = .returned (.slice a 0 cap) ∧ w' = w := Any.slices_Compact_int_empty Try.laysNm220 a cap w
def Try.laysNm237_ren : Go.Shelf.Ren := ⟨fun | 37 => 44 | n => n, fun | 3 => 3 | 4 => 4 | n => n, fun | n => n⟩
theorem Try.laysNm237 : Go.Proofs.Lays2.n37 Try.prog Try.laysNm237_ren := {
  mixed := by kernel_rfl
  f37 := Try.func44.trans (congrArg some (by kernel_rfl))
  t3 := Try.underlying3
  a3 := Try.isAgg3
  z3 := Try.sizeOf3
  v3 := Try.zeroValue3
  t4 := Try.underlying4
  a4 := Try.isAgg4
  z4 := Try.sizeOf4
  v4 := Try.zeroValue4 }
theorem Try.cmp_isNaN_int2 (x : Int) (w : World) :
    Calls Try.prog 44 #[.int .i64 x] w fun e w' => e = .returned (.bool false) ∧ w' = w := Any.cmp_isNaN_int2 Try.laysNm237 x w
def Try.laysNm232_ren : Go.Shelf.Ren := ⟨fun | 32 => 43 | n => n, fun | 3 => 3 | 4 => 4 | n => n, fun | n => n⟩
theorem Try.laysNm232 : Go.Proofs.Lays2.n32 Try.prog Try.laysNm232_ren := {
  mixed := by kernel_rfl
  f32 := Try.func43.trans (congrArg some (by kernel_rfl))
  t3 := Try.underlying3
  a3 := Try.isAgg3
  z3 := Try.sizeOf3
  v3 := Try.zeroValue3
  t4 := Try.underlying4
  a4 := Try.isAgg4
  z4 := Try.sizeOf4
  v4 := Try.zeroValue4 }
theorem Try.slices_isNaN_int2 (x : Int) (w : World) :
    Calls Try.prog 43 #[.int .i64 x] w fun e w' => e = .returned (.bool false) ∧ w' = w := Any.slices_isNaN_int2 Try.laysNm232 x w
def Try.laysNm231_ren : Go.Shelf.Ren := ⟨fun | 31 => 38 | 37 => 44 | n => n, fun | 3 => 3 | 4 => 4 | n => n, fun | n => n⟩
theorem Try.laysNm231 : Go.Proofs.Lays2.n31 Try.prog Try.laysNm231_ren := {
  mixed := by kernel_rfl
  f31 := Try.func38.trans (congrArg some (by kernel_rfl))
  f37 := Try.func44.trans (congrArg some (by kernel_rfl))
  t3 := Try.underlying3
  a3 := Try.isAgg3
  z3 := Try.sizeOf3
  v3 := Try.zeroValue3
  t4 := Try.underlying4
  a4 := Try.isAgg4
  z4 := Try.sizeOf4
  v4 := Try.zeroValue4 }
theorem Try.cmp_Less_int2 (x y : Int) (w : World) :
    Calls Try.prog 38 #[.int .i64 x, .int .i64 y] w fun e w' => e = .returned (.bool (decide (x < y))) ∧ w' = w := Any.cmp_Less_int2 Try.laysNm231 x y w
theorem Try.slices_Sort_int_none (p : Option Addr) (cap : Nat) (w : World) :
    Calls Try.prog 17 #[.slice p 0 cap] w fun e w' => e = .returned (.tuple #[]) ∧ w' = w := Any.slices_Sort_int_none Try.lays189 p cap w
def Try.searchI_ren : Go.Shelf.Ren := ⟨fun | 49 => 30 | 59 => 38 | 60 => 43 | 68 => 44 | n => n, fun | 0 => 0 | 3 => 3 | 4 => 4 | 22 => 33 | 23 => 3 | 51 => 40 | n => n, fun | n => n⟩
theorem Try.searchI : Go.Proofs.SlLaysN.n49 Try.prog Try.searchI_ren := {
  mixed := by kernel_rfl
  f49 := ⟨Try.f30.name, by decide, Try.func30.trans (congrArg some (by kernel_rfl))⟩
  f59 := ⟨Try.f38.name, by decide, Try.func38.trans (congrArg some (by kernel_rfl))⟩
  f60 := ⟨Try.f43.name, by decide, Try.func43.trans (congrArg some (by kernel_rfl))⟩
  f68 := ⟨Try.f44.name, by decide, Try.func44.trans (congrArg some (by kernel_rfl))⟩
  t0 := Try.underlying0
  a0 := Try.isAgg0
  z0 := Try.sizeOf0
  v0 := Try.zeroValue0
  t3 := Try.underlying3
  a3 := Try.isAgg3
  z3 := Try.sizeOf3
  v3 := Try.zeroValue3
  t4 := Try.underlying4
  a4 := Try.isAgg4
  z4 := Try.sizeOf4
  v4 := Try.zeroValue4
  t22 := Try.underlying33
  a22 := Try.isAgg33
  z22 := Try.sizeOf33
  v22 := Try.zeroValue33
  t23 := Try.underlying3
  a23 := Try.isAgg3
  z23 := Try.sizeOf3
  v23 := Try.zeroValue3
  t51 := Try.underlying40
  a51 := Try.isAgg40
  z51 := Try.sizeOf40
  v51 := Try.zeroValue40 }
theorem Try.slices_BinarySearch_int (b off n c : Nat) (zs : List Int) (x : Int) (w : World) (hz : n ≤ zs.length) (hbig : n < 4611686018427387904) (hc : ∀ j, j < zs.length → w.cell? ⟨b, off + j, none⟩ = some (.int .i64 (zs.getD j 0))) (hs : (zs.take n).Pairwise (· ≤ ·)) :
    Calls Try.prog 30 #[.slice (some ⟨b, off, none⟩) n c, .int .i64 x] w fun e w' => e = .returned (.tuple #[.int .i64 ((zs.take n).countP (· < x) : Nat), .bool ((zs.take n).contains x)]) ∧ ∃ q, w' = w.drewN q :=
  AnyG.slices_BinarySearch_int Try.searchI b off n c zs x w hz hbig hc hs
end Go.Proofs

namespace Go.Proofs.Hd
open Go.RowKit Go.Lib
/-- Numbers as cells. -/
def iv (L : List Int) : List Value := L.map (Value.int .i64)
theorem iv_len (L : List Int) : (iv L).length = L.length := by simp [iv]
theorem iv_app (A B : List Int) : iv A ++ iv B = iv (A ++ B) := by simp [iv]
theorem add_plainN (b o j : Nat) : (⟨b, o, none⟩ : Addr).add j = ⟨b, o + j, none⟩ := by simp [Addr.add]
theorem Nm.src {w : World} {v : Value} {L : List Int} (h : Nm w v L) : Src w 1 v L.length (iv L) := by
  obtain ⟨A, c, rfl, h1, h2, h3⟩ := h
  refine ⟨by simp [iv], ?_, ?_⟩
  · intro u hu
    simp only [iv, List.mem_map] at hu
    obtain ⟨x, _, rfl⟩ := hu
    rfl
  rcases h3 with rfl | ⟨b, o, rfl, _, hc⟩
  · cases A with
    | none => exact .inl ⟨rfl, c, rfl⟩
    | some ad => exact .inr ⟨ad, c, rfl, fun j u hj => by simp [iv] at hj⟩
  · refine .inr ⟨_, c, rfl, fun j u hj => ?_⟩
    simp only [iv, List.getElem?_map, Option.map_eq_some_iff] at hj
    obtain ⟨x, hx, rfl⟩ := hj
    rw [add_plainN]; exact hc j x hx
/-- Numbers were returned, in memory of the call's own or in none. -/
def GotN (w : World) (L : List Int) (e : Ending) (w' : World) : Prop := ∃ v, e = .returned v ∧ Nm w' v L ∧ Below w.heap.size w w'
theorem own_Nm {w : World} {base : Nat} {e : TypeId} {v : Value} {n : Nat} {L : List Int} (h : w.ownsRow base e 1 v n (iv L)) : Nm w v L := by
  have hl : L.length = n := by simpa [iv] using h.1
  rcases h.2 with ⟨rfl, rfl⟩ | ⟨g, cap, cur, rfl, hge, hheap, hnc, hcm, _⟩
  · obtain rfl : L = [] := List.eq_nil_of_length_eq_zero hl
    exact Nm.nil w
  · subst hl
    refine ⟨_, cap, rfl, hnc, hcm, .inr ⟨g, 0, rfl, ?_, fun k x hk => ?_⟩⟩
    · rcases Nat.lt_or_ge g w.heap.size with h1 | h1
      · exact h1
      · rw [Array.getElem?_eq_none h1] at hheap; cases hheap
    · have hkl := (List.getElem?_eq_some_iff.1 hk).1
      rw [Nat.zero_add, h.cellAt k (by omega)]
      simp [iv, hk]
section
variable {P : Program} (w : World)
/-- An append that fits. -/
theorem run_fit (base : Nat) (t ty e : TypeId) (i : TypeInfo) (size : Nat) (ht : P.underlying t = some (.slice e)) (hi : P.info? e = some i) (hsize : i.size = size)
    (g n cap : Nat) (xs : List Value) (hown : w.ownsRow base e size (.slice (some ⟨g, 0, none⟩) n cap) n xs) (x : Value) (m : Nat) (news : List Value) (hx : Src w size x m news) (hroom : n + m ≤ cap) :
    ∃ w', (Builtin.append_ #[t, t] ty #[.slice (some ⟨g, 0, none⟩) n cap, x]).run P w = .ok (.slice (some ⟨g, 0, none⟩) (n + m) cap) w' ∧ w'.ownsRow base e size (.slice (some ⟨g, 0, none⟩) (n + m) cap) (n + m) (xs ++ news) ∧ w.grownBy w' (some g) := by
  obtain ⟨hl, h1, ⟨rfl, c, rfl⟩ | ⟨ad, c, rfl, hc⟩⟩ := hx
  · obtain rfl : news = [] := List.eq_nil_of_length_eq_zero (by simpa using hl)
    refine ⟨w, ?_, by simpa using hown, World.grownBy.refl w _⟩
    rcases hown.2 with ⟨e1, _⟩ | ⟨g', cap', cur, e1, _, _, hnc, _⟩
    · simp at e1
    · simp only [Value.slice.injEq, Option.some.injEq, Addr.mk.injEq, and_true, true_and] at e1
      obtain ⟨rfl, rfl⟩ := e1
      simp [Builtin.append_, run_underlying ht, sizeOf, typeInfo, hi, Builtin.lenOf, Builtin.firstCells, hnc, storeCells]
  · exact run_append_fits (P := P) w base t ty e i size ht hi hsize g n cap xs hown ad m c news hl hc h1 hroom
theorem wpList_fit {ops : Array Oper} {rest : List Oper} {o : Oper} {a : Act} {Q : Exit → Act → World → Prop} (hgd : o.guard = none) (s x : Operand) (t : TypeId)
    (ho : o.op = .call { callee := .builtin .append, args := #[s, x], argTypes := #[t, t] }) (base : Nat) (e : TypeId) (i : TypeInfo) (size : Nat) (ht : P.underlying t = some (.slice e)) (hi : P.info? e = some i)
    (hsize : i.size = size) (g n cap : Nat) (xs : List Value) (hs : a.eval s = .slice (some ⟨g, 0, none⟩) n cap) (hown : w.ownsRow base e size (.slice (some ⟨g, 0, none⟩) n cap) n xs)
    (y : Value) (m : Nat) (news : List Value) (hy : a.eval x = y) (hx : Src w size y m news) (hroom : n + m ≤ cap)
    (h : ∀ w', w'.ownsRow base e size (.slice (some ⟨g, 0, none⟩) (n + m) cap) (n + m) (xs ++ news) → w.grownBy w' (some g) → wpList P ops Q rest (a.put o.dst (.slice (some ⟨g, 0, none⟩) (n + m) cap)) w') : wpList P ops Q (o :: rest) a w :=
  wpList_plain hgd fun _ hK => by
    obtain ⟨w', hr, h2, h3⟩ := run_fit (P := P) w base t o.type e i size ht hi hsize g n cap xs hown y m news hx hroom
    exact Lib.wp_append_run w s x t t ho _ y hs hy _ w' hr (hK _ _ (h w' h2 h3))
end
/-- What stays of a sorted row, place by place. -/
theorem cut_facts (d : Array Int) (hs : ∀ i j, i < j → j < d.size → d[i]! ≤ d[j]!) : ∀ m, m ≤ d.size → Inc (compactUpTo d m) ∧ ∀ x, x ∈ compactUpTo d m ↔ ∃ j, j < m ∧ d[j]! = x
  | 0, _ => by simp [compactUpTo, Inc]
  | m + 1, hm => by
    obtain ⟨h1, h2⟩ := cut_facts d hs m (by omega)
    rw [compactUpTo_succ]
    cases hk : keeps d m with
    | true =>
      have hne : m = 0 ∨ d[m]! ≠ d[m - 1]! := by simpa [keeps] using hk
      rw [if_pos rfl]
      constructor
      · rw [Inc, List.pairwise_append]
        refine ⟨h1, by simp, fun a ha c hc => ?_⟩
        rw [List.mem_singleton] at hc
        subst hc
        obtain ⟨j, hj, rfl⟩ := (h2 a).1 ha
        rcases hne with e | e
        · omega
        · have q := hs (m - 1) m (by omega) (by omega)
          rcases Nat.lt_or_ge j (m - 1) with h3 | h3
          · have q2 := hs j (m - 1) h3 (by omega)
            omega
          · have e3 : j = m - 1 := by omega
            subst e3
            omega
      · intro x
        rw [List.mem_append, h2, List.mem_singleton]
        constructor
        · rintro (⟨j, hj, e⟩ | e)
          · exact ⟨j, by omega, e⟩
          · exact ⟨m, by omega, e.symm⟩
        · rintro ⟨j, hj, e⟩
          rcases Nat.lt_or_ge j m with h3 | h3
          · exact .inl ⟨j, h3, e⟩
          · have e3 : j = m := by omega
            subst e3
            exact .inr e.symm
    | false =>
      have hne : ¬ m = 0 ∧ d[m]! = d[m - 1]! := by simpa [keeps] using hk
      rw [if_neg (by simp), List.append_nil]
      refine ⟨h1, fun x => ?_⟩
      rw [h2]
      constructor
      · rintro ⟨j, hj, e⟩
        exact ⟨j, by omega, e⟩
      · rintro ⟨j, hj, e⟩
        rcases Nat.lt_or_ge j m with h3 | h3
        · exact ⟨j, h3, e⟩
        · have e3 : j = m := by omega
          subst e3
          exact ⟨j - 1, by omega, by rw [← hne.2]; exact e⟩
theorem compact_sorted (L : List Int) : Lib.compact (L.mergeSort fun x y => decide (x ≤ y)) = setI L := by
  have hsort : (L.mergeSort fun x y => decide (x ≤ y)).Pairwise (fun a b => decide (a ≤ b) = true) := List.pairwise_mergeSort (fun a b c h1 h2 => by simp at h1 h2 ⊢; omega) (fun a b => by simp; omega) L
  have hmem : ∀ x, x ∈ L.mergeSort (fun x y => decide (x ≤ y)) ↔ x ∈ L := fun x => (List.mergeSort_perm L _).mem_iff
  generalize L.mergeSort (fun x y => decide (x ≤ y)) = S at hsort hmem
  have hd : ∀ i j, i < j → j < S.toArray.size → S.toArray[i]! ≤ S.toArray[j]! := by
    intro i j hij hj
    have hj' : j < S.length := by simpa using hj
    have := List.pairwise_iff_getElem.1 hsort i j (by omega) hj' hij
    rw [getElem!_pos _ i (by simp; omega), getElem!_pos _ j (by simpa using hj')]
    simpa using this
  obtain ⟨h1, h2⟩ := cut_facts S.toArray hd S.length (by simp)
  symm
  refine setI_of h1 fun x => ?_
  rw [← hmem x]
  show x ∈ compactUpTo S.toArray S.length ↔ _
  rw [h2]
  constructor
  · rintro ⟨j, hj, rfl⟩
    rw [getElem!_pos _ j (by simpa using hj)]
    simp
  · intro h
    obtain ⟨j, hj, rfl⟩ := List.mem_iff_getElem.1 h
    refine ⟨j, hj, ?_⟩
    rw [getElem!_pos _ j (by simpa using hj)]
    simp
end Go.Proofs.Hd
namespace Go.Proofs
open Go.RowKit Go.Proofs.Hd Go.Lib Go.Sort Go.Shelf
attribute [local go_sem] uv_nonneg
theorem info_int : (Try.prog.info? 3).map (fun i => (i.zero, i.size, i.bytes)) = some (some (.int .i64 0), 1, 8) := by kernel_rfl
set_option maxRecDepth 100000 in
set_option maxHeartbeats 2000000 in
theorem idmake_c (v : Value) (L : List Int) (w : World) (hl : L.length ≤ 35184372088832) (hv : Nm w v L) : Calls Try.prog 8 #[v] w (GotN w (setI L)) := by
  obtain ⟨ic, hic, hcz0, hcz1, hcz2⟩ := info_parts info_int
  have hlz : (L.length : Int) ≤ 35184372088832 := by omega
  have B0 := below1 w (.cells (madeCells (.int .i64 0 : Value).cells (L.length * 1)) 3)
  have hs1 := (hv.on B0).src
  have O := World.ownsRow_made (base := w.heap.size) (e := 3) (size := 1) w (madeCells (.int .i64 0 : Value).cells (L.length * 1)) L.length (Nat.le_refl _) (by unfold maxLen; omega) (by simp [madeCells])
  have hmk : (Instr.makeSlice 22 (.int .i64 0) (.int .i64 (L.length : Int))).run Try.prog w = .ok (.slice (some ⟨w.heap.size, 0, none⟩) 0 L.length) (w.alloc (.cells (madeCells (.int .i64 0 : Value).cells (L.length * 1)) 3)) := by
    have h := run_make (P := Try.prog) w 22 3 ic _ Try.underlying22 hic hcz0 .i64 .i64 0 L.length (by omega) (by omega) (by rw [hcz2]; omega) (by omega)
    rw [hcz1] at h
    exact h
  obtain ⟨A, c, rfl, _, _, _⟩ := hv
  generalize w.alloc (.cells (madeCells (.int .i64 0 : Value).cells (L.length * 1)) 3) = w1 at hmk O B0 hs1
  have hb1 := B0.size
  generalize hgg : w.heap.size = g at O hmk
  go_enter Try.func8, Try.ntmps8
  go_wp2_with (at_builtin; refine wpList_fit _ rfl (.tmp 6) (.tmp 7) 22 rfl g 3 ic 1 Try.underlying22 hic hcz1 g 0 L.length [] rfl O _ L.length (iv L) rfl hs1 (by omega) ?_)
  intro w2 O2 hg
  have B2 := B0.grown hg hb1 (fun j hj => by simp at hj; omega)
  clear hs1 O B0 hg hmk
  obtain ⟨cur, hheap, hcs, htk⟩ : ∃ cur, w2.heap[g]? = some (.cells cur 3 (0, 0)) ∧ cur.size = L.length * 1 ∧ cur.toList.take (L.length * 1) = iv L := by
    rcases O2.2 with ⟨e, _⟩ | ⟨g', cap', cur, e, _, hh, _, _, h4, h5⟩
    · simp at e
    · simp only [Value.slice.injEq, Option.some.injEq, Addr.mk.injEq, and_true, true_and] at e
      obtain ⟨rfl, rfl⟩ := e
      exact ⟨cur, hh, h4, h5⟩
  have hH := holds_of_blockI hheap (ss := L) (by rw [Nat.mul_one] at htk; exact htk)
  have hlt : g < w2.heap.size := (Array.getElem?_eq_some_iff.1 hheap).1
  have hcon := Try.slices_Sort_int g 0 L.length L w2 hH hlt (by omega)
  have hS := compact_sorted L
  have hSl : (L.mergeSort fun x y => decide (x ≤ y)).length = L.length := List.length_mergeSort _
  generalize hSS : (L.mergeSort fun x y => decide (x ≤ y)) = S at hcon hS hSl
  clear hSS hlz
  have HX := Lib.hid (And.intro hS hSl)
  have HB := Lib.hid B2
  have HO := Lib.hid hheap
  have HC := Lib.hid (And.intro hcs hl)
  have HG := Lib.hid hgg
  clear hS hSl B2 hheap hcs htk hgg O2 hH
  go_wp2_with fail
  (with_reducible refine hcon.mono ?_)
  rintro e w3 ⟨rfl, n, os, hw3⟩
  have hh3 : ∃ cur3, w3.heap[g]? = some (.cells cur3 3 (0, 0)) ∧ cur3.toList.take S.length = S.map (Value.int .i64) ∧ cur3.size = L.length ∧ w2.grownBy w3 (some g) := by
    refine ⟨_, by rw [hw3]; exact heap_sortedI _ HO.out, ?_, ?_, by rw [hw3]; exact grownBy_sortedI _⟩
    · exact take_putCellsI cur S (by have := HC.out.1; have := HX.out.2; omega)
    · have := HC.out.1; simp [putCells]; omega
  obtain ⟨cur3, h3, t3, s3, g3⟩ := hh3
  have hH3 := holds_of_blockI h3 (ss := S) t3
  have B3 := HB.out.grown g3 (by have := HG.out; have := HB.out.size; omega) (fun j hj => by simp at hj; have := HG.out; omega)
  have hcon2 := Try.slices_Compact_int g 0 L.length S w3 hH3 (by have := HC.out.2; have := HX.out.2; omega) (by have := HX.out.2; omega)
  rw [HX.out.1, HX.out.2] at hcon2
  have HB3 := Lib.hid B3
  have H3 := Lib.hid h3
  have HT := Lib.hid s3
  clear hcon hw3 h3 t3 s3 g3 hH3 B3
  go_wp2_with fail
  (with_reducible refine hcon2.mono ?_)
  rintro e w4 ⟨rfl, q, hw4⟩
  clear hcon2
  have hle := setI_len L
  have h4 : w4.heap[g]? = some (.cells (putCells (Value.int .i64) 0 (setI L ++ List.replicate (L.length - (setI L).length) 0).toArray cur3) 3 (0, 0)) := by
    have := heap_sortedI (n := q) (os := #[]) (setI L ++ List.replicate (L.length - (setI L).length) 0).toArray H3.out
    rw [grow_empty] at this
    rw [hw4]; exact this
  have g4 : w3.grownBy w4 (some g) := by
    have := grownBy_sortedI (w := w3) (g := g) (n := q) (os := #[]) (setI L ++ List.replicate (L.length - (setI L).length) 0).toArray
    rw [grow_empty] at this
    rw [hw4]; exact this
  have B4 := HB3.out.grown g4 (by have := HG.out; have := HB3.out.size; omega) (fun j hj => by simp at hj; have := HG.out; omega)
  have N4 : Nm w4 (.slice (some ⟨g, 0, none⟩) (setI L).length L.length) (setI L) := by
    have t4 := take_putCellsI cur3 (setI L ++ List.replicate (L.length - (setI L).length) 0) (by have := HT.out; simp; omega)
    have hx := holds_of_blockI h4 t4
    have hlt4 : g < w4.heap.size := (Array.getElem?_eq_some_iff.1 h4).1
    refine ⟨_, _, rfl, hle, by have := HC.out.2; unfold maxLen; omega, .inr ⟨g, 0, rfl, hlt4, fun k x hk => ?_⟩⟩
    have hkl := (List.getElem?_eq_some_iff.1 hk).1
    have e := (hx k (by simp; omega)).1
    rw [e, getElem!_pos _ k (by simp; omega)]
    have e2 := (List.getElem?_eq_some_iff.1 hk).2
    simp only [List.getElem_toArray]
    rw [List.getElem_append_left hkl, e2]
  have HN := Lib.hid N4
  have HB4 := Lib.hid B4
  clear hw4 h4 g4 B4 N4 hle
  go_wp2
  go_ret
  exact ⟨_, rfl, HN.out, by have := HB4.out; rw [HG.out] at *; exact this⟩
end Go.Proofs

namespace Go.Proofs
open Go.RowKit Go.Proofs.Hd Go.Lib Go.Sort
attribute [local go_sem] uv_nonneg
theorem idset_c (v : Value) (L : List Int) (w : World) (hl : L.length ≤ 17592186044416) (hv : Nm w v L) : Calls Try.prog 21 #[v] w (GotN w (setI L)) := by
  have hcon := idsound_c v L w (by omega) hv
  have HV := Lib.hid hv
  have HL := Lib.hid hl
  by_cases hi : Inc L
  · rw [decide_eq_true hi] at hcon
    have HI := Lib.hid hi
    clear hv hi hl
    go_enter Try.func21, Try.ntmps21
    go_wp2_with fail
    (with_reducible refine hcon.mono ?_)
    rintro e w1 ⟨rfl, hb⟩
    have N1 := Lib.hid (HV.out.on hb)
    have B1 := Lib.hid hb
    clear hcon hb
    go_wp2
    go_ret
    exact ⟨v, rfl, by rw [setI_inc HI.out]; exact N1.out, B1.out⟩
  · rw [decide_eq_false hi] at hcon
    clear hv hi hl
    go_enter Try.func21, Try.ntmps21
    go_wp2_with fail
    (with_reducible refine hcon.mono ?_)
    rintro e w1 ⟨rfl, hb⟩
    have hm := idmake_c v L w1 (by have := HL.out; omega) (HV.out.on hb)
    have B1 := Lib.hid hb
    clear hcon hb
    go_wp2_with fail
    (with_reducible refine hm.mono ?_)
    rintro e w2 ⟨v2, rfl, hn, hb⟩
    have N2 := Lib.hid hn
    have B2 := Lib.hid hb
    clear hm hn hb
    go_wp2
    go_ret
    exact ⟨v2, rfl, N2.out, B1.out.trans (B2.out.mono B1.out.size)⟩
set_option maxHeartbeats 2000000 in
theorem bs_c (v : Value) (L : List Int) (x : Int) (w : World) (hl : L.length ≤ 17592186044416) (hi : Inc L) (hv : Nm w v L) : Calls Try.prog 30 #[v, .int .i64 x] w fun e w' => (∃ i : Int, e = .returned (.tuple #[.int .i64 i, .bool (decide (x ∈ L))])) ∧ Below w.heap.size w w' := by
  obtain ⟨A, c, rfl, _, _, h3⟩ := hv
  rcases h3 with rfl | ⟨b, o, rfl, hb, hc⟩
  · obtain ⟨r, hr⟩ : ∃ r, decide (x ∈ ([] : List Int)) = r := ⟨_, rfl⟩
    rw [hr]
    obtain rfl : r = false := by rw [← hr]; simp
    clear hr hi
    go_enter Try.func30, Try.ntmps30
    go_wp2
    refine wp_loop_rounds 1 ?_
    rw [rounds_succ]
    go_wp2
    go_ret2
    exact ⟨⟨0, rfl⟩, Below.refl _ _⟩
  · have hcon := Try.slices_BinarySearch_int b o L.length c L x w (Nat.le_refl _) (by omega) (fun j hj => by rw [List.getD_eq_getElem?_getD, List.getElem?_eq_getElem hj]; exact hc j _ (List.getElem?_eq_getElem hj)) (by rw [List.take_length]; exact hi.imp fun h => by omega)
    refine hcon.mono ?_
    rintro e w' ⟨rfl, q, rfl⟩
    refine ⟨⟨((L.countP (· < x) : Nat) : Int), ?_⟩, bdn (Below.refl _ _) q⟩
    have e : L.contains x = decide (x ∈ L) := by rw [Bool.eq_iff_iff]; simp
    rw [List.take_length, e]
theorem shas_c (v : Value) (L : List Int) (x : Int) (w : World) (hl : L.length ≤ 17592186044416) (hi : Inc L) (hv : Nm w v L) : Calls Try.prog 23 #[v, .int .i64 x] w fun e w' => e = .returned (.bool (decide (x ∈ L))) ∧ Below w.heap.size w w' := by
  have hcon := bs_c v L x w hl hi hv
  obtain ⟨r, hr⟩ : ∃ r, decide (x ∈ L) = r := ⟨_, rfl⟩
  rw [hr] at hcon ⊢
  clear hr hi hv
  go_enter Try.func23, Try.ntmps23
  go_wp2_with fail
  (with_reducible refine hcon.mono ?_)
  rintro e w1 ⟨⟨i, rfl⟩, hb⟩
  clear hcon
  go_wp2
  go_ret
  exact ⟨rfl, hb⟩
theorem slacks_c (v : Value) (L : List Int) (x : Int) (w : World) (hl : L.length ≤ 17592186044416) (hi : Inc L) (hv : Nm w v L) : Calls Try.prog 24 #[v, .int .i64 x] w fun e w' => e = .returned (.bool (!decide (x ∈ L))) ∧ Below w.heap.size w w' := by
  have hcon := shas_c v L x w hl hi hv
  obtain ⟨r, hr⟩ : ∃ r, decide (x ∈ L) = r := ⟨_, rfl⟩
  rw [hr] at hcon ⊢
  clear hr hi hv
  go_enter Try.func24, Try.ntmps24
  go_wp2_with fail
  (with_reducible refine hcon.mono ?_)
  rintro e w1 ⟨rfl, hb⟩
  clear hcon
  go_wp2
  go_ret
  exact ⟨rfl, hb⟩
theorem filter_take {q : Int → Bool} {L : List Int} {k : Nat} {x : Int} (hx : L[k]? = some x) : (L.take (k + 1)).filter q = (L.take k).filter q ++ (if q x then [x] else []) := by
  rw [List.take_add_one, hx, List.filter_append]
  congr 1
  cases h : q x <;> simp [h]
theorem filter_take_len (q : Int → Bool) (L : List Int) (k : Nat) : ((L.take k).filter q).length ≤ L.length := Nat.le_trans (List.length_filter_le _ _) (by rw [List.length_take]; omega)
set_option maxHeartbeats 4000000 in
set_option maxRecDepth 100000 in
theorem onlyh_c (v u : Value) (L S M : List Int) (w : World) (hl : L.length ≤ 17592186044416) (hs : S.length ≤ 17592186044416) (hi : Inc S) (hM : (L.filter fun x => decide (x ∈ S)) = M) (hv : Nm w v L) (hu : Nm w u S) :
    Calls Try.prog 22 #[v, .func (.func 23) #[u] #[]] w (GotN w M) := by
  obtain ⟨ic, hic, hcz0, hcz1, hcz2⟩ := info_parts info_int
  have HM := Lib.hid hM
  have HU : Hid (∀ (W : World) (x : Int), Below w.heap.size w W → Calls Try.prog 23 #[u, .int .i64 x] W fun e w' => e = .returned (.bool ((fun x => decide (x ∈ S)) x)) ∧ Below W.heap.size W w') := fun W x hb => shas_c u S x W hs hi (hu.on hb)
  have HL := Lib.hid hl
  generalize hqq : (fun x : Int => decide (x ∈ S)) = p at HU HM
  clear hM hu hs hi hqq
  obtain ⟨A, c, rfl, _, _, h3⟩ := hv
  have hlz : (L.length : Int) ≤ 17592186044416 := by omega
  rcases h3 with rfl | ⟨b, o, rfl, hb, hc⟩
  · have hm : M = [] := by rw [← HM.out]; rfl
    subst hm
    clear HU hl
    go_enter Try.func22, Try.ntmps22
    go_wp2
    refine wp_loop_rounds 1 ?_
    rw [rounds_succ]
    go_wp2
    go_ret
    exact ⟨_, rfl, Nm.nil _, Below.refl _ _⟩
  · have HC := Lib.hid hc
    clear hc hl
    go_enter Try.func22, Try.ntmps22
    go_wp2
    go_loopg [5, 10] L.length (fun gk s5 s10 wr => ∃ k : Nat, k ≤ L.length ∧ gk = L.length - k ∧ s10 = .int .i64 k ∧ Hid (Below w.heap.size w wr) ∧ Hid (wr.ownsRow w.heap.size 3 1 s5 ((L.take k).filter p).length (iv ((L.take k).filter p))))
    case atStart => exact ⟨0, Nat.zero_le _, rfl, rfl, Below.refl _ _, World.ownsRow_nil _ _ _ _⟩
    case round =>
      obtain ⟨k, hk, rfl, rfl, HB, HO⟩ := hrel
      by_cases hlt : k < L.length
      · have hltz : (k : Int) < (L.length : Int) := by omega
        obtain ⟨x, hx⟩ : ∃ x, L[k]? = some x := ⟨_, List.getElem?_eq_getElem hlt⟩
        have d1 := on_some HB.out (HC.out k x hx)
        have HX := Lib.hid hx
        have hcall := HU.out wr x HB.out
        clear hx
        cases hq : p x with
        | true =>
          rw [hq] at hcall
          go_wp2_with fail
          (with_reducible refine hcall.mono ?_)
          rintro e w2 ⟨rfl, hb2⟩
          have B2 := HB.out.trans (hb2.mono HB.out.size)
          have O2 := own_on HO.out hb2
          have O3 := own_on O2 (below1 w2 (.cells #[.int .i64 x] 3))
          have hsrc : Src (w2.alloc (.cells #[.int .i64 x] 3)) 1 (.slice (some ⟨w2.heap.size, 0, none⟩) 1 1) 1 [.int .i64 x] := ⟨rfl, by simp [Value.oneCell'], .inr ⟨_, _, rfl, fun j u hj => by
            match j, hj with
            | 0, hj =>
              have e : (Value.int .i64 x) = u := by simpa using hj
              rw [add_plainN, (Blk.new w2 3 #[.int .i64 x]).cell, ← e]; rfl
            | j + 1, hj => simp at hj⟩⟩
          have B3 := B2.trans ((below1 w2 (.cells #[.int .i64 x] 3)).mono B2.size)
          have hz3 := B3.size
          have hfl := filter_take_len p L k
          have HF := Lib.hid (Nat.le_trans hfl HL.out)
          have hlen : Hid (((L.take k).filter p).length + 1 ≤ 17592186044416) := by
            have e := congrArg List.length (filter_take (q := p) HX.out)
            have e2 := filter_take_len p L (k + 1)
            rw [e, hq] at e2
            simp at e2
            have := HL.out
            show _ ≤ _
            omega
          generalize hFF : (L.take k).filter p = F at O3 hlen
          have HFF := Lib.hid hFF
          clear hcall d1 HB HO hb2 O2 B2 hFF hfl HF
          go_wp2_with (at_builtin; refine wpList_app _ rfl (.tmp 17) (.tmp 19) 22 rfl w.heap.size 3 ic _ 1 8 Try.underlying22 hic hcz0 hcz1 hcz2 rfl (by decide) _ F.length (iv F) rfl O3 _ 1 [.int .i64 x] rfl hsrc (by have := hlen.out; unfold maxLen; omega) (by have := hlen.out; omega) hz3 ?_)
          intro v4 w4 O4 hg4
          have B4 := Lib.hid (B3.grown hg4 hz3 (fun j hj => (O3.lt j hj).1))
          have O5 : Hid (w4.ownsRow w.heap.size 3 1 v4 ((L.take (k + 1)).filter p).length (iv ((L.take (k + 1)).filter p))) := by
            show World.ownsRow _ _ _ _ _ _ _
            rw [filter_take HX.out, HFF.out, hq]
            simpa [iv] using O4
          clear O3 hsrc B3 hz3 hg4 O4 hlen HFF
          go_wp2
          go_roundg (L.length - (k + 1))
          case measure => omega
          case rel => exact ⟨k + 1, by omega, rfl, by go_num, B4, O5⟩
        | false =>
          rw [hq] at hcall
          go_wp2_with fail
          (with_reducible refine hcall.mono ?_)
          rintro e w2 ⟨rfl, hb2⟩
          have B4 := Lib.hid (HB.out.trans (hb2.mono HB.out.size))
          have O5 : Hid (w2.ownsRow w.heap.size 3 1 u5 ((L.take (k + 1)).filter p).length (iv ((L.take (k + 1)).filter p))) := by
            show World.ownsRow _ _ _ _ _ _ _
            have := own_on HO.out hb2
            rw [filter_take HX.out, hq]
            simpa using this
          clear hcall d1 HB HO hb2
          go_wp2
          go_roundg (L.length - (k + 1))
          case measure => omega
          case rel => exact ⟨k + 1, by omega, rfl, by go_num, B4, O5⟩
      · have hltz : ¬ (k : Int) < (L.length : Int) := by omega
        have N : Hid (Nm wr u5 M) := by
          have := HO.out
          rw [List.take_of_length_le (by omega), HM.out] at this
          exact own_Nm this
        go_wp2
        go_ret
        exact ⟨_, rfl, N.out, HB.out⟩
set_option maxHeartbeats 4000000 in
set_option maxRecDepth 100000 in
theorem onlyl_c (v u : Value) (L S M : List Int) (w : World) (hl : L.length ≤ 17592186044416) (hs : S.length ≤ 17592186044416) (hi : Inc S) (hM : (L.filter fun x => !decide (x ∈ S)) = M) (hv : Nm w v L) (hu : Nm w u S) :
    Calls Try.prog 22 #[v, .func (.func 24) #[u] #[]] w (GotN w M) := by
  obtain ⟨ic, hic, hcz0, hcz1, hcz2⟩ := info_parts info_int
  have HM := Lib.hid hM
  have HU : Hid (∀ (W : World) (x : Int), Below w.heap.size w W → Calls Try.prog 24 #[u, .int .i64 x] W fun e w' => e = .returned (.bool ((fun x => !decide (x ∈ S)) x)) ∧ Below W.heap.size W w') := fun W x hb => slacks_c u S x W hs hi (hu.on hb)
  have HL := Lib.hid hl
  generalize hqq : (fun x : Int => !decide (x ∈ S)) = p at HU HM
  clear hM hu hs hi hqq
  obtain ⟨A, c, rfl, _, _, h3⟩ := hv
  have hlz : (L.length : Int) ≤ 17592186044416 := by omega
  rcases h3 with rfl | ⟨b, o, rfl, hb, hc⟩
  · have hm : M = [] := by rw [← HM.out]; rfl
    subst hm
    clear HU hl
    go_enter Try.func22, Try.ntmps22
    go_wp2
    refine wp_loop_rounds 1 ?_
    rw [rounds_succ]
    go_wp2
    go_ret
    exact ⟨_, rfl, Nm.nil _, Below.refl _ _⟩
  · have HC := Lib.hid hc
    clear hc hl
    go_enter Try.func22, Try.ntmps22
    go_wp2
    go_loopg [5, 10] L.length (fun gk s5 s10 wr => ∃ k : Nat, k ≤ L.length ∧ gk = L.length - k ∧ s10 = .int .i64 k ∧ Hid (Below w.heap.size w wr) ∧ Hid (wr.ownsRow w.heap.size 3 1 s5 ((L.take k).filter p).length (iv ((L.take k).filter p))))
    case atStart => exact ⟨0, Nat.zero_le _, rfl, rfl, Below.refl _ _, World.ownsRow_nil _ _ _ _⟩
    case round =>
      obtain ⟨k, hk, rfl, rfl, HB, HO⟩ := hrel
      by_cases hlt : k < L.length
      · have hltz : (k : Int) < (L.length : Int) := by omega
        obtain ⟨x, hx⟩ : ∃ x, L[k]? = some x := ⟨_, List.getElem?_eq_getElem hlt⟩
        have d1 := on_some HB.out (HC.out k x hx)
        have HX := Lib.hid hx
        have hcall := HU.out wr x HB.out
        clear hx
        cases hq : p x with
        | true =>
          rw [hq] at hcall
          go_wp2_with fail
          (with_reducible refine hcall.mono ?_)
          rintro e w2 ⟨rfl, hb2⟩
          have B2 := HB.out.trans (hb2.mono HB.out.size)
          have O2 := own_on HO.out hb2
          have O3 := own_on O2 (below1 w2 (.cells #[.int .i64 x] 3))
          have hsrc : Src (w2.alloc (.cells #[.int .i64 x] 3)) 1 (.slice (some ⟨w2.heap.size, 0, none⟩) 1 1) 1 [.int .i64 x] := ⟨rfl, by simp [Value.oneCell'], .inr ⟨_, _, rfl, fun j u hj => by
            match j, hj with
            | 0, hj =>
              have e : (Value.int .i64 x) = u := by simpa using hj
              rw [add_plainN, (Blk.new w2 3 #[.int .i64 x]).cell, ← e]; rfl
            | j + 1, hj => simp at hj⟩⟩
          have B3 := B2.trans ((below1 w2 (.cells #[.int .i64 x] 3)).mono B2.size)
          have hz3 := B3.size
          have hfl := filter_take_len p L k
          have HF := Lib.hid (Nat.le_trans hfl HL.out)
          have hlen : Hid (((L.take k).filter p).length + 1 ≤ 17592186044416) := by
            have e := congrArg List.length (filter_take (q := p) HX.out)
            have e2 := filter_take_len p L (k + 1)
            rw [e, hq] at e2
            simp at e2
            have := HL.out
            show _ ≤ _
            omega
          generalize hFF : (L.take k).filter p = F at O3 hlen
          have HFF := Lib.hid hFF
          clear hcall d1 HB HO hb2 O2 B2 hFF hfl HF
          go_wp2_with (at_builtin; refine wpList_app _ rfl (.tmp 17) (.tmp 19) 22 rfl w.heap.size 3 ic _ 1 8 Try.underlying22 hic hcz0 hcz1 hcz2 rfl (by decide) _ F.length (iv F) rfl O3 _ 1 [.int .i64 x] rfl hsrc (by have := hlen.out; unfold maxLen; omega) (by have := hlen.out; omega) hz3 ?_)
          intro v4 w4 O4 hg4
          have B4 := Lib.hid (B3.grown hg4 hz3 (fun j hj => (O3.lt j hj).1))
          have O5 : Hid (w4.ownsRow w.heap.size 3 1 v4 ((L.take (k + 1)).filter p).length (iv ((L.take (k + 1)).filter p))) := by
            show World.ownsRow _ _ _ _ _ _ _
            rw [filter_take HX.out, HFF.out, hq]
            simpa [iv] using O4
          clear O3 hsrc B3 hz3 hg4 O4 hlen HFF
          go_wp2
          go_roundg (L.length - (k + 1))
          case measure => omega
          case rel => exact ⟨k + 1, by omega, rfl, by go_num, B4, O5⟩
        | false =>
          rw [hq] at hcall
          go_wp2_with fail
          (with_reducible refine hcall.mono ?_)
          rintro e w2 ⟨rfl, hb2⟩
          have B4 := Lib.hid (HB.out.trans (hb2.mono HB.out.size))
          have O5 : Hid (w2.ownsRow w.heap.size 3 1 u5 ((L.take (k + 1)).filter p).length (iv ((L.take (k + 1)).filter p))) := by
            show World.ownsRow _ _ _ _ _ _ _
            have := own_on HO.out hb2
            rw [filter_take HX.out, hq]
            simpa using this
          clear hcall d1 HB HO hb2
          go_wp2
          go_roundg (L.length - (k + 1))
          case measure => omega
          case rel => exact ⟨k + 1, by omega, rfl, by go_num, B4, O5⟩
      · have hltz : ¬ (k : Int) < (L.length : Int) := by omega
        have N : Hid (Nm wr u5 M) := by
          have := HO.out
          rw [List.take_of_length_le (by omega), HM.out] at this
          exact own_Nm this
        go_wp2
        go_ret
        exact ⟨_, rfl, N.out, HB.out⟩
end Go.Proofs
