/-
  Rows of numbers that a call owns; what slices.Sort and slices.Compact make of a list is its set; contract of ids.Make. Conditions as each theorem lists them.
  Contracts of ids.asSet, of slices.BinarySearch at an increasing list, of the set's methods has, lacks and only. Conditions as each theorem lists them.
  Contracts of slices.Grow (of nil), slices.Concat (of two), slices.Compare and of ids.Join, Meet, Less and Compare. Conditions as each theorem lists them.
  Atoms in memory: how a slice reads as atoms; a row of atoms of the call's own, whose slices lie elsewhere; what stays behind an append and a store. Conditions as each theorem lists them.
  Contracts of slices.IndexFunc and slices.ContainsFunc over atoms, of slices.Equal over numbers, and of atoms.sound and atoms.Find. Conditions as each theorem lists them.
  Contract of atoms.atomOf. Conditions as the theorem lists them.
  A row that grows, and where it lies then. No program in sight. No conditions.
  Contracts of atoms.parts and of atoms.Of. Conditions as each theorem lists them.
-/
import Derived.Test.YtpmgbofnikmhgaaGreatJ7
import Derived.Sort.OwnSortedInts
import Derived.Laws.MakeOwn
import Derived.Lib.SliceRun
import Derived.BigQuiet
import Derived.OwnWalk
namespace Go.Proofs.Hd
open Go.RowKit Go.Lib
/-- Numbers as cells. -/
def iv (L : List Int) : List Value := L.map (Value.int .i64)
theorem iv_len (L : List Int) : (iv L).length = L.length := by simp [iv]
theorem iv_app (A B : List Int) : iv A ++ iv B = iv (A ++ B) := by simp [iv]
theorem add_plainN (b o j : Nat) : (⟨b, o, none⟩ : Addr).add j = ⟨b, o + j, none⟩ := by simp [Addr.add]
theorem Nm.src {w : World} {v : Value} {L : List Int} (h : Nm w v L) : Src w 1 v L.length (iv L) := by
  obtain ⟨A, c, rfl, h1, h2, h3⟩ := h
  refine ⟨by simp [iv], ?_, ?_⟩
  · intro u hu
    simp only [iv, List.mem_map] at hu
    obtain ⟨x, _, rfl⟩ := hu
    rfl
  rcases h3 with rfl | ⟨b, o, rfl, _, hc⟩
  · cases A with
    | none => exact .inl ⟨rfl, c, rfl⟩
    | some ad => exact .inr ⟨ad, c, rfl, fun j u hj => by simp [iv] at hj⟩
  · refine .inr ⟨_, c, rfl, fun j u hj => ?_⟩
    simp only [iv, List.getElem?_map, Option.map_eq_some_iff] at hj
    obtain ⟨x, hx, rfl⟩ := hj
    rw [add_plainN]; exact hc j x hx
/-- Numbers were returned, in memory of the call's own or in none. -/
def GotN (w : World) (L : List Int) (e : Ending) (w' : World) : Prop := ∃ v, e = .returned v ∧ Nm w' v L ∧ Below w.heap.size w w'
/-- Numbers were returned in a row of the call's own. -/
def GotO (w : World) (L : List Int) (e : Ending) (w' : World) : Prop := ∃ v, e = .returned v ∧ w'.ownsRow w.heap.size 3 1 v L.length (iv L) ∧ Below w.heap.size w w'
theorem own_Nm {w : World} {base : Nat} {e : TypeId} {v : Value} {n : Nat} {L : List Int} (h : w.ownsRow base e 1 v n (iv L)) : Nm w v L := by
  have hl : L.length = n := by simpa [iv] using h.1
  rcases h.2 with ⟨rfl, rfl⟩ | ⟨g, cap, cur, rfl, hge, hheap, hnc, hcm, _⟩
  · obtain rfl : L = [] := List.eq_nil_of_length_eq_zero hl
    exact Nm.nil w
  · subst hl
    refine ⟨_, cap, rfl, hnc, hcm, .inr ⟨g, 0, rfl, ?_, fun k x hk => ?_⟩⟩
    · rcases Nat.lt_or_ge g w.heap.size with h1 | h1
      · exact h1
      · rw [Array.getElem?_eq_none h1] at hheap; cases hheap
    · have hkl := (List.getElem?_eq_some_iff.1 hk).1
      rw [Nat.zero_add, h.cellAt k (by omega)]
      simp [iv, hk]
section
variable {P : Program} (w : World)
/-- An append that fits. -/
theorem run_fit (base : Nat) (t ty e : TypeId) (i : TypeInfo) (size : Nat) (ht : P.underlying t = some (.slice e)) (hi : P.info? e = some i) (hsize : i.size = size)
    (g n cap : Nat) (xs : List Value) (hown : w.ownsRow base e size (.slice (some ⟨g, 0, none⟩) n cap) n xs) (x : Value) (m : Nat) (news : List Value) (hx : Src w size x m news) (hroom : n + m ≤ cap) :
    ∃ w', (Builtin.append_ #[t, t] ty #[.slice (some ⟨g, 0, none⟩) n cap, x]).run P w = .ok (.slice (some ⟨g, 0, none⟩) (n + m) cap) w' ∧ w'.ownsRow base e size (.slice (some ⟨g, 0, none⟩) (n + m) cap) (n + m) (xs ++ news) ∧ w.grownBy w' (some g) := by
  obtain ⟨hl, h1, ⟨rfl, c, rfl⟩ | ⟨ad, c, rfl, hc⟩⟩ := hx
  · obtain rfl : news = [] := List.eq_nil_of_length_eq_zero (by simpa using hl)
    refine ⟨w, ?_, by simpa using hown, World.grownBy.refl w _⟩
    rcases hown.2 with ⟨e1, _⟩ | ⟨g', cap', cur, e1, _, _, hnc, _⟩
    · simp at e1
    · simp only [Value.slice.injEq, Option.some.injEq, Addr.mk.injEq, and_true, true_and] at e1
      obtain ⟨rfl, rfl⟩ := e1
      simp [Builtin.append_, run_underlying ht, sizeOf, typeInfo, hi, Builtin.lenOf, Builtin.firstCells, hnc, storeCells]
  · exact run_append_fits (P := P) w base t ty e i size ht hi hsize g n cap xs hown ad m c news hl hc h1 hroom
theorem wpList_fit {ops : Array Oper} {rest : List Oper} {o : Oper} {a : Act} {Q : Exit → Act → World → Prop} (hgd : o.guard = none) (s x : Operand) (t : TypeId)
    (ho : o.op = .call { callee := .builtin .append, args := #[s, x], argTypes := #[t, t] }) (base : Nat) (e : TypeId) (i : TypeInfo) (size : Nat) (ht : P.underlying t = some (.slice e)) (hi : P.info? e = some i)
    (hsize : i.size = size) (g n cap : Nat) (xs : List Value) (hs : a.eval s = .slice (some ⟨g, 0, none⟩) n cap) (hown : w.ownsRow base e size (.slice (some ⟨g, 0, none⟩) n cap) n xs)
    (y : Value) (m : Nat) (news : List Value) (hy : a.eval x = y) (hx : Src w size y m news) (hroom : n + m ≤ cap)
    (h : ∀ w', w'.ownsRow base e size (.slice (some ⟨g, 0, none⟩) (n + m) cap) (n + m) (xs ++ news) → w.grownBy w' (some g) → wpList P ops Q rest (a.put o.dst (.slice (some ⟨g, 0, none⟩) (n + m) cap)) w') : wpList P ops Q (o :: rest) a w :=
  wpList_plain hgd fun _ hK => by
    obtain ⟨w', hr, h2, h3⟩ := run_fit (P := P) w base t o.type e i size ht hi hsize g n cap xs hown y m news hx hroom
    exact Lib.wp_append_run w s x t t ho _ y hs hy _ w' hr (hK _ _ (h w' h2 h3))
end
theorem GotO.nm {w : World} {L : List Int} {e : Ending} {w' : World} (h : GotO w L e w') : GotN w L e w' := by
  obtain ⟨v, h1, h2, h3⟩ := h
  exact ⟨v, h1, own_Nm h2, h3⟩
/-- What stays of a sorted row, place by place. -/
theorem cut_facts (d : Array Int) (hs : ∀ i j, i < j → j < d.size → d[i]! ≤ d[j]!) : ∀ m, m ≤ d.size → Inc (compactUpTo d m) ∧ ∀ x, x ∈ compactUpTo d m ↔ ∃ j, j < m ∧ d[j]! = x
  | 0, _ => by simp [compactUpTo, Inc]
  | m + 1, hm => by
    obtain ⟨h1, h2⟩ := cut_facts d hs m (by omega)
    rw [compactUpTo_succ]
    cases hk : keeps d m with
    | true =>
      have hne : m = 0 ∨ d[m]! ≠ d[m - 1]! := by simpa [keeps] using hk
      rw [if_pos rfl]
      constructor
      · rw [Inc, List.pairwise_append]
        refine ⟨h1, by simp, fun a ha c hc => ?_⟩
        rw [List.mem_singleton] at hc
        subst hc
        obtain ⟨j, hj, rfl⟩ := (h2 a).1 ha
        rcases hne with e | e
        · omega
        · have q := hs (m - 1) m (by omega) (by omega)
          rcases Nat.lt_or_ge j (m - 1) with h3 | h3
          · have q2 := hs j (m - 1) h3 (by omega)
            omega
          · have e3 : j = m - 1 := by omega
            subst e3
            omega
      · intro x
        rw [List.mem_append, h2, List.mem_singleton]
        constructor
        · rintro (⟨j, hj, e⟩ | e)
          · exact ⟨j, by omega, e⟩
          · exact ⟨m, by omega, e.symm⟩
        · rintro ⟨j, hj, e⟩
          rcases Nat.lt_or_ge j m with h3 | h3
          · exact .inl ⟨j, h3, e⟩
          · have e3 : j = m := by omega
            subst e3
            exact .inr e.symm
    | false =>
      have hne : ¬ m = 0 ∧ d[m]! = d[m - 1]! := by simpa [keeps] using hk
      rw [if_neg (by simp), List.append_nil]
      refine ⟨h1, fun x => ?_⟩
      rw [h2]
      constructor
      · rintro ⟨j, hj, e⟩
        exact ⟨j, by omega, e⟩
      · rintro ⟨j, hj, e⟩
        rcases Nat.lt_or_ge j m with h3 | h3
        · exact ⟨j, h3, e⟩
        · have e3 : j = m := by omega
          subst e3
          exact ⟨j - 1, by omega, by rw [← hne.2]; exact e⟩
theorem compact_sorted (L : List Int) : Lib.compact (L.mergeSort fun x y => decide (x ≤ y)) = setI L := by
  have hsort : (L.mergeSort fun x y => decide (x ≤ y)).Pairwise (fun a b => decide (a ≤ b) = true) := List.pairwise_mergeSort (fun a b c h1 h2 => by simp at h1 h2 ⊢; omega) (fun a b => by simp; omega) L
  have hmem : ∀ x, x ∈ L.mergeSort (fun x y => decide (x ≤ y)) ↔ x ∈ L := fun x => (List.mergeSort_perm L _).mem_iff
  generalize L.mergeSort (fun x y => decide (x ≤ y)) = S at hsort hmem
  have hd : ∀ i j, i < j → j < S.toArray.size → S.toArray[i]! ≤ S.toArray[j]! := by
    intro i j hij hj
    have hj' : j < S.length := by simpa using hj
    have := List.pairwise_iff_getElem.1 hsort i j (by omega) hj' hij
    rw [getElem!_pos _ i (by simp; omega), getElem!_pos _ j (by simpa using hj')]
    simpa using this
  obtain ⟨h1, h2⟩ := cut_facts S.toArray hd S.length (by simp)
  symm
  refine setI_of h1 fun x => ?_
  rw [← hmem x]
  show x ∈ compactUpTo S.toArray S.length ↔ _
  rw [h2]
  constructor
  · rintro ⟨j, hj, rfl⟩
    rw [getElem!_pos _ j (by simpa using hj)]
    simp
  · intro h
    obtain ⟨j, hj, rfl⟩ := List.mem_iff_getElem.1 h
    refine ⟨j, hj, ?_⟩
    rw [getElem!_pos _ j (by simpa using hj)]
    simp
end Go.Proofs.Hd
namespace Go.Proofs
open Go.RowKit Go.Proofs.Hd Go.Lib Go.Sort Go.Shelf
attribute [local go_sem] uv_nonneg
theorem info_int : (Tryz.prog.info? 3).map (fun i => (i.zero, i.size, i.bytes)) = some (some (.int .i64 0), 1, 8) := by kernel_rfl
set_option maxRecDepth 100000 in
set_option maxHeartbeats 2000000 in
theorem idmakeo_c (v : Value) (L : List Int) (w : World) (hl : L.length ≤ 35184372088832) (hv : Nm w v L) : Calls Tryz.prog 42 #[v] w (GotO w (setI L)) := by
  obtain ⟨ic, hic, hcz0, hcz1, hcz2⟩ := info_parts info_int
  have hlz : (L.length : Int) ≤ 35184372088832 := by omega
  have B0 := below1 w (.cells (madeCells (.int .i64 0 : Value).cells (L.length * 1)) 3)
  have hs1 := (hv.on B0).src
  have O := World.ownsRow_made (base := w.heap.size) (e := 3) (size := 1) w (madeCells (.int .i64 0 : Value).cells (L.length * 1)) L.length (Nat.le_refl _) (by unfold maxLen; omega) (by simp [madeCells])
  have hmk : (Instr.makeSlice 36 (.int .i64 0) (.int .i64 (L.length : Int))).run Tryz.prog w = .ok (.slice (some ⟨w.heap.size, 0, none⟩) 0 L.length) (w.alloc (.cells (madeCells (.int .i64 0 : Value).cells (L.length * 1)) 3)) := by
    have h := run_make (P := Tryz.prog) w 36 3 ic _ Tryz.underlying36 hic hcz0 .i64 .i64 0 L.length (by omega) (by omega) (by rw [hcz2]; omega) (by omega)
    rw [hcz1] at h
    exact h
  obtain ⟨A, c, rfl, _, _, _⟩ := hv
  generalize w.alloc (.cells (madeCells (.int .i64 0 : Value).cells (L.length * 1)) 3) = w1 at hmk O B0 hs1
  have hb1 := B0.size
  generalize hgg : w.heap.size = g at O hmk
  go_enter Tryz.func42, Tryz.ntmps42
  go_wp2_with (at_builtin; refine wpList_fit _ rfl (.tmp 6) (.tmp 7) 36 rfl g 3 ic 1 Tryz.underlying36 hic hcz1 g 0 L.length [] rfl O _ L.length (iv L) rfl hs1 (by omega) ?_)
  intro w2 O2 hg
  have B2 := B0.grown hg hb1 (fun j hj => by simp at hj; omega)
  clear hs1 O B0 hg hmk
  obtain ⟨cur, hheap, hcs, htk⟩ : ∃ cur, w2.heap[g]? = some (.cells cur 3 (0, 0)) ∧ cur.size = L.length * 1 ∧ cur.toList.take (L.length * 1) = iv L := by
    rcases O2.2 with ⟨e, _⟩ | ⟨g', cap', cur, e, _, hh, _, _, h4, h5⟩
    · simp at e
    · simp only [Value.slice.injEq, Option.some.injEq, Addr.mk.injEq, and_true, true_and] at e
      obtain ⟨rfl, rfl⟩ := e
      exact ⟨cur, hh, h4, h5⟩
  have hH := holds_of_blockI hheap (ss := L) (by rw [Nat.mul_one] at htk; exact htk)
  have hlt : g < w2.heap.size := (Array.getElem?_eq_some_iff.1 hheap).1
  have hcon := Tryz.slices_Sort_int g 0 L.length L w2 hH hlt (by omega)
  have hS := compact_sorted L
  have hSl : (L.mergeSort fun x y => decide (x ≤ y)).length = L.length := List.length_mergeSort _
  generalize hSS : (L.mergeSort fun x y => decide (x ≤ y)) = S at hcon hS hSl
  clear hSS hlz
  have HX := Lib.hid (And.intro hS hSl)
  have HB := Lib.hid B2
  have HO := Lib.hid hheap
  have HC := Lib.hid (And.intro hcs hl)
  have HG := Lib.hid hgg
  clear hS hSl B2 hheap hcs htk hgg O2 hH
  go_wp2_with fail
  (with_reducible refine hcon.mono ?_)
  rintro e w3 ⟨rfl, n, os, hw3⟩
  have hh3 : ∃ cur3, w3.heap[g]? = some (.cells cur3 3 (0, 0)) ∧ cur3.toList.take S.length = S.map (Value.int .i64) ∧ cur3.size = L.length ∧ w2.grownBy w3 (some g) := by
    refine ⟨_, by rw [hw3]; exact heap_sortedI _ HO.out, ?_, ?_, by rw [hw3]; exact grownBy_sortedI _⟩
    · exact take_putCellsI cur S (by have := HC.out.1; have := HX.out.2; omega)
    · have := HC.out.1; simp [putCells]; omega
  obtain ⟨cur3, h3, t3, s3, g3⟩ := hh3
  have hH3 := holds_of_blockI h3 (ss := S) t3
  have B3 := HB.out.grown g3 (by have := HG.out; have := HB.out.size; omega) (fun j hj => by simp at hj; have := HG.out; omega)
  have hcon2 := Tryz.slices_Compact_int g 0 L.length S w3 hH3 (by have := HC.out.2; have := HX.out.2; omega) (by have := HX.out.2; omega)
  rw [HX.out.1, HX.out.2] at hcon2
  have HB3 := Lib.hid B3
  have H3 := Lib.hid h3
  have HT := Lib.hid s3
  clear hcon hw3 h3 t3 s3 g3 hH3 B3
  go_wp2_with fail
  (with_reducible refine hcon2.mono ?_)
  rintro e w4 ⟨rfl, q, hw4⟩
  clear hcon2
  have hle := setI_len L
  have h4 : w4.heap[g]? = some (.cells (putCells (Value.int .i64) 0 (setI L ++ List.replicate (L.length - (setI L).length) 0).toArray cur3) 3 (0, 0)) := by
    have := heap_sortedI (n := q) (os := #[]) (setI L ++ List.replicate (L.length - (setI L).length) 0).toArray H3.out
    rw [grow_empty] at this
    rw [hw4]; exact this
  have g4 : w3.grownBy w4 (some g) := by
    have := grownBy_sortedI (w := w3) (g := g) (n := q) (os := #[]) (setI L ++ List.replicate (L.length - (setI L).length) 0).toArray
    rw [grow_empty] at this
    rw [hw4]; exact this
  have B4 := HB3.out.grown g4 (by have := HG.out; have := HB3.out.size; omega) (fun j hj => by simp at hj; have := HG.out; omega)
  have N4 : w4.ownsRow w.heap.size 3 1 (.slice (some ⟨g, 0, none⟩) (setI L).length L.length) (setI L).length (iv (setI L)) := by
    have t4 := take_putCellsI cur3 (setI L ++ List.replicate (L.length - (setI L).length) 0) (by have := HT.out; simp; omega)
    refine ⟨by simp [iv], .inr ⟨g, L.length, _, rfl, by rw [HG.out]; exact Nat.le_refl _, h4, hle, by have := HC.out.2; unfold maxLen; omega, ?_, ?_⟩⟩
    · have := HT.out
      simp [putCells]
      omega
    · have e := congrArg (List.take ((setI L).length * 1)) t4
      rw [List.take_take, Nat.min_eq_left (by simp)] at e
      rw [e, List.map_append, List.take_append_of_le_length (by simp), List.take_of_length_le (by simp)]
      rfl
  have HN := Lib.hid N4
  have HB4 := Lib.hid B4
  clear hw4 h4 g4 B4 N4 hle
  go_wp2
  go_ret
  exact ⟨_, rfl, HN.out, by have := HB4.out; rw [HG.out] at *; exact this⟩
theorem idmake_c (v : Value) (L : List Int) (w : World) (hl : L.length ≤ 35184372088832) (hv : Nm w v L) : Calls Tryz.prog 42 #[v] w (GotN w (setI L)) := (idmakeo_c v L w hl hv).mono fun _ _ h => h.nm
end Go.Proofs

namespace Go.Proofs
open Go.RowKit Go.Proofs.Hd Go.Lib Go.Sort
attribute [local go_sem] uv_nonneg
theorem idset_c (v : Value) (L : List Int) (w : World) (hl : L.length ≤ 17592186044416) (hv : Nm w v L) : Calls Tryz.prog 62 #[v] w (GotN w (setI L)) := by
  have hcon := idsound_c v L w (by omega) hv
  have HV := Lib.hid hv
  have HL := Lib.hid hl
  by_cases hi : Inc L
  · rw [decide_eq_true hi] at hcon
    have HI := Lib.hid hi
    clear hv hi hl
    go_enter Tryz.func62, Tryz.ntmps62
    go_wp2_with fail
    (with_reducible refine hcon.mono ?_)
    rintro e w1 ⟨rfl, hb⟩
    have N1 := Lib.hid (HV.out.on hb)
    have B1 := Lib.hid hb
    clear hcon hb
    go_wp2
    go_ret
    exact ⟨v, rfl, by rw [setI_inc HI.out]; exact N1.out, B1.out⟩
  · rw [decide_eq_false hi] at hcon
    clear hv hi hl
    go_enter Tryz.func62, Tryz.ntmps62
    go_wp2_with fail
    (with_reducible refine hcon.mono ?_)
    rintro e w1 ⟨rfl, hb⟩
    have hm := idmake_c v L w1 (by have := HL.out; omega) (HV.out.on hb)
    have B1 := Lib.hid hb
    clear hcon hb
    go_wp2_with fail
    (with_reducible refine hm.mono ?_)
    rintro e w2 ⟨v2, rfl, hn, hb⟩
    have N2 := Lib.hid hn
    have B2 := Lib.hid hb
    clear hm hn hb
    go_wp2
    go_ret
    exact ⟨v2, rfl, N2.out, B1.out.trans (B2.out.mono B1.out.size)⟩
set_option maxHeartbeats 2000000 in
theorem bs_c (v : Value) (L : List Int) (x : Int) (w : World) (hl : L.length ≤ 17592186044416) (hi : Inc L) (hv : Nm w v L) : Calls Tryz.prog 107 #[v, .int .i64 x] w fun e w' => (∃ i : Int, e = .returned (.tuple #[.int .i64 i, .bool (decide (x ∈ L))])) ∧ Below w.heap.size w w' := by
  obtain ⟨A, c, rfl, _, _, h3⟩ := hv
  rcases h3 with rfl | ⟨b, o, rfl, hb, hc⟩
  · obtain ⟨r, hr⟩ : ∃ r, decide (x ∈ ([] : List Int)) = r := ⟨_, rfl⟩
    rw [hr]
    obtain rfl : r = false := by rw [← hr]; simp
    clear hr hi
    go_enter Tryz.func107, Tryz.ntmps107
    go_wp2
    refine wp_loop_rounds 1 ?_
    rw [rounds_succ]
    go_wp2
    go_ret2
    exact ⟨⟨0, rfl⟩, Below.refl _ _⟩
  · have hcon := Tryz.slices_BinarySearch_int b o L.length c L x w (Nat.le_refl _) (by omega) (fun j hj => by rw [List.getD_eq_getElem?_getD, List.getElem?_eq_getElem hj]; exact hc j _ (List.getElem?_eq_getElem hj)) (by rw [List.take_length]; exact hi.imp fun h => by omega)
    refine hcon.mono ?_
    rintro e w' ⟨rfl, q, rfl⟩
    refine ⟨⟨((L.countP (· < x) : Nat) : Int), ?_⟩, bdn (Below.refl _ _) q⟩
    have e : L.contains x = decide (x ∈ L) := by rw [Bool.eq_iff_iff]; simp
    rw [List.take_length, e]
theorem shas_c (v : Value) (L : List Int) (x : Int) (w : World) (hl : L.length ≤ 17592186044416) (hi : Inc L) (hv : Nm w v L) : Calls Tryz.prog 83 #[v, .int .i64 x] w fun e w' => e = .returned (.bool (decide (x ∈ L))) ∧ Below w.heap.size w w' := by
  have hcon := bs_c v L x w hl hi hv
  obtain ⟨r, hr⟩ : ∃ r, decide (x ∈ L) = r := ⟨_, rfl⟩
  rw [hr] at hcon ⊢
  clear hr hi hv
  go_enter Tryz.func83, Tryz.ntmps83
  go_wp2_with fail
  (with_reducible refine hcon.mono ?_)
  rintro e w1 ⟨⟨i, rfl⟩, hb⟩
  clear hcon
  go_wp2
  go_ret
  exact ⟨rfl, hb⟩
theorem slacks_c (v : Value) (L : List Int) (x : Int) (w : World) (hl : L.length ≤ 17592186044416) (hi : Inc L) (hv : Nm w v L) : Calls Tryz.prog 64 #[v, .int .i64 x] w fun e w' => e = .returned (.bool (!decide (x ∈ L))) ∧ Below w.heap.size w w' := by
  have hcon := shas_c v L x w hl hi hv
  obtain ⟨r, hr⟩ : ∃ r, decide (x ∈ L) = r := ⟨_, rfl⟩
  rw [hr] at hcon ⊢
  clear hr hi hv
  go_enter Tryz.func64, Tryz.ntmps64
  go_wp2_with fail
  (with_reducible refine hcon.mono ?_)
  rintro e w1 ⟨rfl, hb⟩
  clear hcon
  go_wp2
  go_ret
  exact ⟨rfl, hb⟩
theorem fil_take {q : Int → Bool} {L : List Int} {k : Nat} {x : Int} (hx : L[k]? = some x) : (L.take (k + 1)).filter q = (L.take k).filter q ++ (if q x then [x] else []) := by
  rw [List.take_add_one, hx, List.filter_append]
  congr 1
  cases h : q x <;> simp [h]
theorem fil_take_len (q : Int → Bool) (L : List Int) (k : Nat) : ((L.take k).filter q).length ≤ L.length := Nat.le_trans (List.length_filter_le _ _) (by rw [List.length_take]; omega)
set_option maxHeartbeats 4000000 in
set_option maxRecDepth 100000 in
theorem onlyh_c (v u : Value) (L S M : List Int) (w : World) (hl : L.length ≤ 17592186044416) (hs : S.length ≤ 17592186044416) (hi : Inc S) (hM : (L.filter fun x => decide (x ∈ S)) = M) (hv : Nm w v L) (hu : Nm w u S) :
    Calls Tryz.prog 63 #[v, .func (.func 83) #[u] #[]] w (GotN w M) := by
  obtain ⟨ic, hic, hcz0, hcz1, hcz2⟩ := info_parts info_int
  have HM := Lib.hid hM
  have HU : Hid (∀ (W : World) (x : Int), Below w.heap.size w W → Calls Tryz.prog 83 #[u, .int .i64 x] W fun e w' => e = .returned (.bool ((fun x => decide (x ∈ S)) x)) ∧ Below W.heap.size W w') := fun W x hb => shas_c u S x W hs hi (hu.on hb)
  have HL := Lib.hid hl
  generalize hqq : (fun x : Int => decide (x ∈ S)) = p at HU HM
  clear hM hu hs hi hqq
  obtain ⟨A, c, rfl, _, _, h3⟩ := hv
  have hlz : (L.length : Int) ≤ 17592186044416 := by omega
  rcases h3 with rfl | ⟨b, o, rfl, hb, hc⟩
  · have hm : M = [] := by rw [← HM.out]; rfl
    subst hm
    clear HU hl
    go_enter Tryz.func63, Tryz.ntmps63
    go_wp2
    refine wp_loop_rounds 1 ?_
    rw [rounds_succ]
    go_wp2
    go_ret
    exact ⟨_, rfl, Nm.nil _, Below.refl _ _⟩
  · have HC := Lib.hid hc
    clear hc hl
    go_enter Tryz.func63, Tryz.ntmps63
    go_wp2
    go_loopg [5, 10] L.length (fun gk s5 s10 wr => ∃ k : Nat, k ≤ L.length ∧ gk = L.length - k ∧ s10 = .int .i64 k ∧ Hid (Below w.heap.size w wr) ∧ Hid (wr.ownsRow w.heap.size 3 1 s5 ((L.take k).filter p).length (iv ((L.take k).filter p))))
    case atStart => exact ⟨0, Nat.zero_le _, rfl, rfl, Below.refl _ _, World.ownsRow_nil _ _ _ _⟩
    case round =>
      obtain ⟨k, hk, rfl, rfl, HB, HO⟩ := hrel
      by_cases hlt : k < L.length
      · have hltz : (k : Int) < (L.length : Int) := by omega
        obtain ⟨x, hx⟩ : ∃ x, L[k]? = some x := ⟨_, List.getElem?_eq_getElem hlt⟩
        have d1 := on_some HB.out (HC.out k x hx)
        have HX := Lib.hid hx
        have hcall := HU.out wr x HB.out
        clear hx
        cases hq : p x with
        | true =>
          rw [hq] at hcall
          go_wp2_with fail
          (with_reducible refine hcall.mono ?_)
          rintro e w2 ⟨rfl, hb2⟩
          have B2 := HB.out.trans (hb2.mono HB.out.size)
          have O2 := own_on HO.out hb2
          have O3 := own_on O2 (below1 w2 (.cells #[.int .i64 x] 3))
          have hsrc : Src (w2.alloc (.cells #[.int .i64 x] 3)) 1 (.slice (some ⟨w2.heap.size, 0, none⟩) 1 1) 1 [.int .i64 x] := ⟨rfl, by simp [Value.oneCell'], .inr ⟨_, _, rfl, fun j u hj => by
            match j, hj with
            | 0, hj =>
              have e : (Value.int .i64 x) = u := by simpa using hj
              rw [add_plainN, (Blk.new w2 3 #[.int .i64 x]).cell, ← e]; rfl
            | j + 1, hj => simp at hj⟩⟩
          have B3 := B2.trans ((below1 w2 (.cells #[.int .i64 x] 3)).mono B2.size)
          have hz3 := B3.size
          have hfl := fil_take_len p L k
          have HF := Lib.hid (Nat.le_trans hfl HL.out)
          have hlen : Hid (((L.take k).filter p).length + 1 ≤ 17592186044416) := by
            have e := congrArg List.length (fil_take (q := p) HX.out)
            have e2 := fil_take_len p L (k + 1)
            rw [e, hq] at e2
            simp at e2
            have := HL.out
            show _ ≤ _
            omega
          generalize hFF : (L.take k).filter p = F at O3 hlen
          have HFF := Lib.hid hFF
          clear hcall d1 HB HO hb2 O2 B2 hFF hfl HF
          go_wp2_with (at_builtin; refine wpList_app _ rfl (.tmp 17) (.tmp 19) 36 rfl w.heap.size 3 ic _ 1 8 Tryz.underlying36 hic hcz0 hcz1 hcz2 rfl (by decide) _ F.length (iv F) rfl O3 _ 1 [.int .i64 x] rfl hsrc (by have := hlen.out; unfold maxLen; omega) (by have := hlen.out; omega) hz3 ?_)
          intro v4 w4 O4 hg4
          have B4 := Lib.hid (B3.grown hg4 hz3 (fun j hj => (O3.lt j hj).1))
          have O5 : Hid (w4.ownsRow w.heap.size 3 1 v4 ((L.take (k + 1)).filter p).length (iv ((L.take (k + 1)).filter p))) := by
            show World.ownsRow _ _ _ _ _ _ _
            rw [fil_take HX.out, HFF.out, hq]
            simpa [iv] using O4
          clear O3 hsrc B3 hz3 hg4 O4 hlen HFF
          go_wp2
          go_roundg (L.length - (k + 1))
          case measure => omega
          case rel => exact ⟨k + 1, by omega, rfl, by go_num, B4, O5⟩
        | false =>
          rw [hq] at hcall
          go_wp2_with fail
          (with_reducible refine hcall.mono ?_)
          rintro e w2 ⟨rfl, hb2⟩
          have B4 := Lib.hid (HB.out.trans (hb2.mono HB.out.size))
          have O5 : Hid (w2.ownsRow w.heap.size 3 1 u5 ((L.take (k + 1)).filter p).length (iv ((L.take (k + 1)).filter p))) := by
            show World.ownsRow _ _ _ _ _ _ _
            have := own_on HO.out hb2
            rw [fil_take HX.out, hq]
            simpa using this
          clear hcall d1 HB HO hb2
          go_wp2
          go_roundg (L.length - (k + 1))
          case measure => omega
          case rel => exact ⟨k + 1, by omega, rfl, by go_num, B4, O5⟩
      · have hltz : ¬ (k : Int) < (L.length : Int) := by omega
        have N : Hid (Nm wr u5 M) := by
          have := HO.out
          rw [List.take_of_length_le (by omega), HM.out] at this
          exact own_Nm this
        go_wp2
        go_ret
        exact ⟨_, rfl, N.out, HB.out⟩
set_option maxHeartbeats 4000000 in
set_option maxRecDepth 100000 in
theorem onlylo_c (v u : Value) (L S M : List Int) (w : World) (hl : L.length ≤ 17592186044416) (hs : S.length ≤ 17592186044416) (hi : Inc S) (hM : (L.filter fun x => !decide (x ∈ S)) = M) (hv : Nm w v L) (hu : Nm w u S) :
    Calls Tryz.prog 63 #[v, .func (.func 64) #[u] #[]] w (GotO w M) := by
  obtain ⟨ic, hic, hcz0, hcz1, hcz2⟩ := info_parts info_int
  have HM := Lib.hid hM
  have HU : Hid (∀ (W : World) (x : Int), Below w.heap.size w W → Calls Tryz.prog 64 #[u, .int .i64 x] W fun e w' => e = .returned (.bool ((fun x => !decide (x ∈ S)) x)) ∧ Below W.heap.size W w') := fun W x hb => slacks_c u S x W hs hi (hu.on hb)
  have HL := Lib.hid hl
  generalize hqq : (fun x : Int => !decide (x ∈ S)) = p at HU HM
  clear hM hu hs hi hqq
  obtain ⟨A, c, rfl, _, _, h3⟩ := hv
  have hlz : (L.length : Int) ≤ 17592186044416 := by omega
  rcases h3 with rfl | ⟨b, o, rfl, hb, hc⟩
  · have hm : M = [] := by rw [← HM.out]; rfl
    subst hm
    clear HU hl
    go_enter Tryz.func63, Tryz.ntmps63
    go_wp2
    refine wp_loop_rounds 1 ?_
    rw [rounds_succ]
    go_wp2
    go_ret
    exact ⟨_, rfl, World.ownsRow_nil _ _ _ _, Below.refl _ _⟩
  · have HC := Lib.hid hc
    clear hc hl
    go_enter Tryz.func63, Tryz.ntmps63
    go_wp2
    go_loopg [5, 10] L.length (fun gk s5 s10 wr => ∃ k : Nat, k ≤ L.length ∧ gk = L.length - k ∧ s10 = .int .i64 k ∧ Hid (Below w.heap.size w wr) ∧ Hid (wr.ownsRow w.heap.size 3 1 s5 ((L.take k).filter p).length (iv ((L.take k).filter p))))
    case atStart => exact ⟨0, Nat.zero_le _, rfl, rfl, Below.refl _ _, World.ownsRow_nil _ _ _ _⟩
    case round =>
      obtain ⟨k, hk, rfl, rfl, HB, HO⟩ := hrel
      by_cases hlt : k < L.length
      · have hltz : (k : Int) < (L.length : Int) := by omega
        obtain ⟨x, hx⟩ : ∃ x, L[k]? = some x := ⟨_, List.getElem?_eq_getElem hlt⟩
        have d1 := on_some HB.out (HC.out k x hx)
        have HX := Lib.hid hx
        have hcall := HU.out wr x HB.out
        clear hx
        cases hq : p x with
        | true =>
          rw [hq] at hcall
          go_wp2_with fail
          (with_reducible refine hcall.mono ?_)
          rintro e w2 ⟨rfl, hb2⟩
          have B2 := HB.out.trans (hb2.mono HB.out.size)
          have O2 := own_on HO.out hb2
          have O3 := own_on O2 (below1 w2 (.cells #[.int .i64 x] 3))
          have hsrc : Src (w2.alloc (.cells #[.int .i64 x] 3)) 1 (.slice (some ⟨w2.heap.size, 0, none⟩) 1 1) 1 [.int .i64 x] := ⟨rfl, by simp [Value.oneCell'], .inr ⟨_, _, rfl, fun j u hj => by
            match j, hj with
            | 0, hj =>
              have e : (Value.int .i64 x) = u := by simpa using hj
              rw [add_plainN, (Blk.new w2 3 #[.int .i64 x]).cell, ← e]; rfl
            | j + 1, hj => simp at hj⟩⟩
          have B3 := B2.trans ((below1 w2 (.cells #[.int .i64 x] 3)).mono B2.size)
          have hz3 := B3.size
          have hfl := fil_take_len p L k
          have HF := Lib.hid (Nat.le_trans hfl HL.out)
          have hlen : Hid (((L.take k).filter p).length + 1 ≤ 17592186044416) := by
            have e := congrArg List.length (fil_take (q := p) HX.out)
            have e2 := fil_take_len p L (k + 1)
            rw [e, hq] at e2
            simp at e2
            have := HL.out
            show _ ≤ _
            omega
          generalize hFF : (L.take k).filter p = F at O3 hlen
          have HFF := Lib.hid hFF
          clear hcall d1 HB HO hb2 O2 B2 hFF hfl HF
          go_wp2_with (at_builtin; refine wpList_app _ rfl (.tmp 17) (.tmp 19) 36 rfl w.heap.size 3 ic _ 1 8 Tryz.underlying36 hic hcz0 hcz1 hcz2 rfl (by decide) _ F.length (iv F) rfl O3 _ 1 [.int .i64 x] rfl hsrc (by have := hlen.out; unfold maxLen; omega) (by have := hlen.out; omega) hz3 ?_)
          intro v4 w4 O4 hg4
          have B4 := Lib.hid (B3.grown hg4 hz3 (fun j hj => (O3.lt j hj).1))
          have O5 : Hid (w4.ownsRow w.heap.size 3 1 v4 ((L.take (k + 1)).filter p).length (iv ((L.take (k + 1)).filter p))) := by
            show World.ownsRow _ _ _ _ _ _ _
            rw [fil_take HX.out, HFF.out, hq]
            simpa [iv] using O4
          clear O3 hsrc B3 hz3 hg4 O4 hlen HFF
          go_wp2
          go_roundg (L.length - (k + 1))
          case measure => omega
          case rel => exact ⟨k + 1, by omega, rfl, by go_num, B4, O5⟩
        | false =>
          rw [hq] at hcall
          go_wp2_with fail
          (with_reducible refine hcall.mono ?_)
          rintro e w2 ⟨rfl, hb2⟩
          have B4 := Lib.hid (HB.out.trans (hb2.mono HB.out.size))
          have O5 : Hid (w2.ownsRow w.heap.size 3 1 u5 ((L.take (k + 1)).filter p).length (iv ((L.take (k + 1)).filter p))) := by
            show World.ownsRow _ _ _ _ _ _ _
            have := own_on HO.out hb2
            rw [fil_take HX.out, hq]
            simpa using this
          clear hcall d1 HB HO hb2
          go_wp2
          go_roundg (L.length - (k + 1))
          case measure => omega
          case rel => exact ⟨k + 1, by omega, rfl, by go_num, B4, O5⟩
      · have hltz : ¬ (k : Int) < (L.length : Int) := by omega
        have N : Hid (wr.ownsRow w.heap.size 3 1 u5 M.length (iv M)) := by
          have := HO.out
          rw [List.take_of_length_le (by omega), HM.out] at this
          exact this
        go_wp2
        go_ret
        exact ⟨_, rfl, N.out, HB.out⟩
theorem onlyl_c (v u : Value) (L S M : List Int) (w : World) (hl : L.length ≤ 17592186044416) (hs : S.length ≤ 17592186044416) (hi : Inc S) (hM : (L.filter fun x => !decide (x ∈ S)) = M) (hv : Nm w v L) (hu : Nm w u S) :
    Calls Tryz.prog 63 #[v, .func (.func 64) #[u] #[]] w (GotN w M) := (onlylo_c v u L S M w hl hs hi hM hv hu).mono fun _ _ h => h.nm
end Go.Proofs

namespace Go.Proofs
open Go.RowKit Go.Proofs.Hd Go.Lib Go.Sort
attribute [local go_sem] uv_nonneg
set_option maxRecDepth 100000 in
theorem growI_c (n : Nat) (w : World) (hl : n ≤ 35184372088832) (h0 : 0 < n) : Calls Tryz.prog 89 #[.slice none 0 0, .int .i64 (n : Int)] w fun e w' => ∃ cap, e = .returned (.slice (some ⟨w.heap.size, 0, none⟩) 0 cap) ∧ n ≤ cap ∧ w'.ownsRow w.heap.size 3 1 (.slice (some ⟨w.heap.size, 0, none⟩) 0 cap) 0 [] ∧ Below w.heap.size w w' := by
  have hz : (n : Int) ≤ 35184372088832 := by omega
  have hpz : (0 : Int) < (n : Int) := by omega
  obtain ⟨ic, hic, hcz0, hcz1, hcz2⟩ := info_parts info_int
  have hr := fun ty => run_append_nil_zeros w 36 3 ty 3 ic _ .i64 .i64 Tryz.underlying36 Tryz.underlying3 hic hcz0 n (by omega) (by omega) (by omega) (by rw [hcz2]; omega)
  have hcap : n ≤ grownCap w n 0 3 ∧ grownCap w n 0 3 ≤ maxLen := ⟨grownCap_ge _ _ _ _, grownCap_le_maxLen _ _ _ _ (by unfold maxLen; omega)⟩
  generalize grownCap w n 0 3 = cap at hr hcap
  have O : (w.drew.alloc (.cells (Builtin.zeroCells (Value.int .i64 0).cells n ++ Builtin.zeroCells (Value.int .i64 0).cells (cap - n)) 3)).ownsRow w.heap.size 3 1 (.slice (some ⟨w.heap.size, 0, none⟩) 0 cap) 0 [] :=
    World.ownsRow_made (base := w.heap.size) (e := 3) (size := 1) w.drew _ cap (Nat.le_refl _) hcap.2 (by rw [Array.size_append, size_zeroCells, size_zeroCells, ← Nat.add_mul, show n + (cap - n) = cap by omega]; rfl)
  have B := (Below.refl w.heap.size w).drew.alloc (Nat.le_refl _) (.cells (Builtin.zeroCells (Value.int .i64 0).cells n ++ Builtin.zeroCells (Value.int .i64 0).cells (cap - n)) 3)
  have hcz := hcap.1
  have HO := Lib.hid O
  have HB := Lib.hid B
  clear O B
  go_enter Tryz.func89, Tryz.ntmps89
  go_wp2_with (at_builtin; refine Lib.wpList_append_run _ rfl _ _ _ _ rfl _ _ rfl rfl _ _ (hr _) ?_)
  go_wp2
  go_ret
  exact ⟨cap, rfl, hcz, HO.out, HB.out⟩
theorem growI_0 (w : World) : Calls Tryz.prog 89 #[.slice none 0 0, .int .i64 0] w fun e w' => e = .returned (.slice none 0 0) ∧ w' = w := by
  go_enter Tryz.func89, Tryz.ntmps89
  go_wp2
  go_ret
  exact ⟨rfl, rfl⟩
set_option maxHeartbeats 1000000 in
set_option maxRecDepth 100000 in
theorem iconcat_c (a b : Value) (A B : List Int) (g : Nat) (w : World) (hl : A.length ≤ 17592186044416) (hm : B.length ≤ 17592186044416) (ha : Nm w a A) (hb : Nm w b B) (hg : w.cell? ⟨g, 0, none⟩ = some a ∧ w.cell? ⟨g, 1, none⟩ = some b) :
    Calls Tryz.prog 74 #[.slice (some ⟨g, 0, none⟩) 2 2] w (GotN w (A ++ B)) := by
  obtain ⟨ic, hic, hcz0, hcz1, hcz2⟩ := info_parts info_int
  have hlz : (A.length : Int) ≤ 17592186044416 := by omega
  have hmz : (B.length : Int) ≤ 17592186044416 := by omega
  have HA := Lib.hid ha
  have HB := Lib.hid hb
  obtain ⟨A1, c1, rfl, _, _, _⟩ := ha
  obtain ⟨A2, c2, rfl, _, _, _⟩ := hb
  have HG := Lib.hid hg
  obtain ⟨g0, g1⟩ := hg
  by_cases h0 : A.length + B.length = 0
  · have eA : A = [] := List.eq_nil_of_length_eq_zero (by omega)
    have eB : B = [] := List.eq_nil_of_length_eq_zero (by omega)
    subst eA eB
    have hcon := growI_0 w
    clear h0
    have O0 := World.ownsRow_nil w w.heap.size 3 1
    have hs1 := HA.out.src
    go_enter Tryz.func74, Tryz.ntmps74
    go_wp2
    refine wp_loop_rounds 3 ?_
    rw [rounds_succ]
    go_wp2
    rw [rounds_succ]
    go_wp2
    rw [rounds_succ]
    go_wp2_with (go_at_call 89; refine hcon.mono ?_; rintro e w1 ⟨rfl, rfl⟩)
    clear hcon
    refine wp_loop_rounds 3 ?_
    rw [rounds_succ]
    go_wp2_with (at_builtin; refine wpList_app _ rfl (.tmp 31) (.tmp 32) 36 rfl w1.heap.size 3 ic _ 1 8 Tryz.underlying36 hic hcz0 hcz1 hcz2 rfl (by decide) _ 0 [] rfl O0 _ 0 [] rfl hs1 (by unfold maxLen; omega) (by omega) (Nat.le_refl _) ?_)
    intro v2 w2 O2 hg2
    have B2 := (Below.refl w1.heap.size w1).grown hg2 (Nat.le_refl _) (fun j hj => by simp [Value.ownBlock] at hj)
    have hz2 := B2.size
    clear O0 hs1 hg2 g0 g1
    have g0 := on_some B2 HG.out.1
    have g1 := on_some B2 HG.out.2
    go_wp2
    rw [rounds_succ]
    have hs2 := (HB.out.on B2).src
    go_wp2_with (at_builtin; refine wpList_app _ rfl (.tmp 31) (.tmp 32) 36 rfl w1.heap.size 3 ic _ 1 8 Tryz.underlying36 hic hcz0 hcz1 hcz2 rfl (by decide) _ 0 [] rfl O2 _ 0 [] rfl hs2 (by unfold maxLen; omega) (by omega) hz2 ?_)
    intro v3 w3 O3 hg3
    have B3 := Lib.hid (B2.grown hg3 hz2 (fun j hj => (O2.lt j hj).1))
    have N3 : Hid (Nm w3 v3 []) := own_Nm (n := 0) (by simpa [iv] using O3)
    clear O2 hs2 hg3 B2 g0 g1 O3
    go_wp2
    rw [rounds_succ]
    go_wp2
    go_ret
    exact ⟨_, rfl, N3.out, B3.out⟩
  · have HS : Hid (A.length + B.length ≤ 35184372088832) := by show _ ≤ _; omega
    have hcon := growI_c (A.length + B.length) w HS.out (by omega)
    rw [show ((A.length + B.length : Nat) : Int) = (A.length : Int) + (B.length : Int) by omega] at hcon
    have HZ := Lib.hid h0
    clear HS h0
    go_enter Tryz.func74, Tryz.ntmps74
    go_wp2
    refine wp_loop_rounds 3 ?_
    rw [rounds_succ]
    go_wp2
    rw [rounds_succ]
    go_wp2
    rw [rounds_succ]
    go_wp2_with (go_at_call 89; refine hcon.mono ?_; rintro e w1 ⟨cap, rfl, hcap, O1, B1⟩)
    clear hcon
    replace g0 := on_some B1 HG.out.1
    replace g1 := on_some B1 HG.out.2
    have hz1 := B1.size
    have HC := Lib.hid hcap
    clear hcap
    refine wp_loop_rounds 3 ?_
    rw [rounds_succ]
    have hs1 := (HA.out.on B1).src
    generalize hgg : w.heap.size = gg at O1 ⊢
    have HGG := Lib.hid hgg
    clear hgg
    go_wp2_with (at_builtin; refine wpList_fit _ rfl (.tmp 31) (.tmp 32) 36 rfl gg 3 ic 1 Tryz.underlying36 hic hcz1 gg 0 cap [] rfl O1 _ A.length (iv A) rfl hs1 (by have := HC.out; omega) ?_)
    intro w2 O2 hg2
    have B2 := B1.grown hg2 hz1 (fun j hj => by have := HGG.out; simp at hj; omega)
    have hz2 := B2.size
    clear O1 hs1 hg2 B1 g0 g1
    have g0 := on_some B2 HG.out.1
    have g1 := on_some B2 HG.out.2
    go_wp2
    rw [rounds_succ]
    have hs2 := (HB.out.on B2).src
    go_wp2_with (at_builtin; refine wpList_fit _ rfl (.tmp 31) (.tmp 32) 36 rfl gg 3 ic 1 Tryz.underlying36 hic hcz1 gg A.length cap (iv A) rfl (by simpa using O2) _ B.length (iv B) rfl hs2 (by have := HC.out; omega) ?_)
    intro w3 O3 hg3
    have B3 := Lib.hid (B2.grown hg3 hz2 (fun j hj => by have := HGG.out; simp at hj; omega))
    have N3 : Hid (Nm w3 (.slice (some ⟨gg, 0, none⟩) (A.length + B.length) cap) (A ++ B)) := own_Nm (n := A.length + B.length) (by rw [← iv_app]; exact O3)
    clear O2 hs2 hg3 B2 g0 g1 O3
    go_wp2
    rw [rounds_succ]
    go_wp2
    go_ret
    exact ⟨_, rfl, N3.out, B3.out⟩
theorem idjoino_c (v u : Value) (A B : List Int) (w : World) (hl : A.length ≤ 17592186044416) (hm : B.length ≤ 17592186044416) (ha : Nm w v A) (hb : Nm w u B) : Calls Tryz.prog 52 #[v, u] w (GotO w (joinI A B)) := by
  have HA := Lib.hid ha
  have HB := Lib.hid hb
  obtain ⟨A1, c1, rfl, _, _, _⟩ := ha
  obtain ⟨A2, c2, rfl, _, _, _⟩ := hb
  have B0 := below1 w (.cells #[.slice A1 A.length c1, .slice A2 B.length c2] 36)
  have K := Blk.new w 36 #[.slice A1 A.length c1, .slice A2 B.length c2]
  have hcon := iconcat_c _ _ A B w.heap.size _ hl hm (HA.out.on B0) (HB.out.on B0) ⟨by rw [K.cell]; rfl, by rw [K.cell]; rfl⟩
  have HB0 := Lib.hid B0
  have HL := Lib.hid (And.intro hl hm)
  clear B0 K hl hm
  go_enter Tryz.func52, Tryz.ntmps52
  go_wp2_with fail
  (with_reducible refine hcon.mono ?_)
  rintro e w2 ⟨v2, rfl, hn, hb⟩
  have hmk := idmakeo_c v2 (A ++ B) w2 (by have := HL.out; rw [List.length_append]; omega) hn
  have B2 := Lib.hid (HB0.out.trans (hb.mono HB0.out.size))
  clear hcon hn hb
  go_wp2_with fail
  (with_reducible refine hmk.mono ?_)
  rintro e w3 ⟨v3, rfl, hn, hb⟩
  have N3 := Lib.hid hn
  have B3 := Lib.hid (B2.out.trans (hb.mono B2.out.size))
  clear hmk hn hb
  go_wp2
  go_ret
  exact ⟨v3, rfl, World.ownsRow.mono N3.out B2.out.size, B3.out⟩
theorem idjoin_c (v u : Value) (A B : List Int) (w : World) (hl : A.length ≤ 17592186044416) (hm : B.length ≤ 17592186044416) (ha : Nm w v A) (hb : Nm w u B) : Calls Tryz.prog 52 #[v, u] w (GotN w (joinI A B)) := (idjoino_c v u A B w hl hm ha hb).mono fun _ _ h => h.nm
theorem idlesso_c (v u : Value) (A B : List Int) (w : World) (hl : A.length ≤ 17592186044416) (hm : B.length ≤ 17592186044416) (ha : Nm w v A) (hb : Nm w u B) : Calls Tryz.prog 44 #[v, u] w (GotO w (diffI A B)) := by
  have hcon := idset_c v A w hl ha
  have HB := Lib.hid hb
  have HL := Lib.hid (And.intro hl hm)
  clear ha hb hl hm
  go_enter Tryz.func44, Tryz.ntmps44
  go_wp2_with fail
  (with_reducible refine hcon.mono ?_)
  rintro e w1 ⟨v1, rfl, hn, hb1⟩
  have hcon2 := idset_c u B w1 HL.out.2 (HB.out.on hb1)
  have N1 := Lib.hid hn
  have B1 := Lib.hid hb1
  clear hcon hn hb1
  go_wp2_with fail
  (with_reducible refine hcon2.mono ?_)
  rintro e w2 ⟨v2, rfl, hn, hb⟩
  have hcon3 := onlylo_c v1 v2 (setI A) (setI B) (diffI A B) w2 (Nat.le_trans (setI_len A) HL.out.1) (Nat.le_trans (setI_len B) HL.out.2) (inc_setI B) (by unfold diffI; congr 1; funext x; congr 1; rw [decide_eq_decide]; exact mem_setI) (N1.out.on hb) hn
  have B2 := Lib.hid (B1.out.trans (hb.mono B1.out.size))
  clear hcon2 hn hb
  go_wp2_with fail
  (with_reducible refine hcon3.mono ?_)
  rintro e w3 ⟨v3, rfl, hn, hb⟩
  have N3 := Lib.hid hn
  have B3 := Lib.hid (B2.out.trans (hb.mono B2.out.size))
  clear hcon3 hn hb
  go_wp2
  go_ret
  exact ⟨v3, rfl, World.ownsRow.mono N3.out B2.out.size, B3.out⟩
theorem idless_c (v u : Value) (A B : List Int) (w : World) (hl : A.length ≤ 17592186044416) (hm : B.length ≤ 17592186044416) (ha : Nm w v A) (hb : Nm w u B) : Calls Tryz.prog 44 #[v, u] w (GotN w (diffI A B)) := (idlesso_c v u A B w hl hm ha hb).mono fun _ _ h => h.nm
end Go.Proofs

namespace Go.Proofs.Hd
open Go.RowKit
/-- An atom at a place. -/
def AtomAt (w : World) (b o : Nat) (a : AtC) : Prop := ∃ iv pv, w.cell? ⟨b, o, none⟩ = some iv ∧ w.cell? ⟨b, o + 1, none⟩ = some (.int .u64 (uv a.hd.1)) ∧ w.cell? ⟨b, o + 2, none⟩ = some (.int .u64 (uv a.hd.2)) ∧ w.cell? ⟨b, o + 3, none⟩ = some pv ∧ Nm w iv a.ids ∧ Pl w pv a.pl
theorem AtomAt.on {w w' : World} {b o : Nat} {a : AtC} (h : AtomAt w b o a) (hb : Below w.heap.size w w') : AtomAt w' b o a := by
  obtain ⟨iv, pv, h0, h1, h2, h3, h4, h5⟩ := h
  exact ⟨iv, pv, on_some hb h0, on_some hb h1, on_some hb h2, on_some hb h3, h4.on hb, h5.on hb⟩
/-- v is a slice that reads as the atoms al. -/
def At (w : World) (v : Value) (al : List AtC) : Prop := ∃ A cap, v = .slice A al.length cap ∧ al.length ≤ cap ∧ cap ≤ maxLen ∧ (al ≠ [] → ∃ b o, A = some ⟨b, o, none⟩ ∧ b < w.heap.size ∧ ∀ (k : Nat) (a : AtC), al[k]? = some a → AtomAt w b (o + k * 4) a)
theorem At.on {w w' : World} {v : Value} {al : List AtC} (h : At w v al) (hb : Below w.heap.size w w') : At w' v al := by
  obtain ⟨A, cap, e, h1, h2, h3⟩ := h
  refine ⟨A, cap, e, h1, h2, fun hne => ?_⟩
  obtain ⟨b, o, e2, hlt, h4⟩ := h3 hne
  exact ⟨b, o, e2, Nat.lt_of_lt_of_le hlt hb.size, fun k a hk => (h4 k a hk).on hb⟩
theorem At.nil (w : World) : At w (.slice none 0 0) [] := ⟨none, 0, rfl, Nat.le_refl _, Nat.zero_le _, fun h => absurd rfl h⟩
theorem At.take {w : World} {A : Option Addr} {n c : Nat} {al : List AtC} (h : At w (.slice A n c) al) {k : Nat} (hk : k ≤ al.length) : At w (.slice A k c) (al.take k) := by
  obtain ⟨A', c', e, h1, h2, h3⟩ := h
  injection e with e1 e2 e3
  subst e1 e2 e3
  have hl : (al.take k).length = k := by rw [List.length_take]; omega
  refine ⟨A, c, by rw [hl], by omega, h2, fun hne => ?_⟩
  obtain ⟨b, o, e, hlt, h⟩ := h3 (fun e => hne (by rw [e]; simp))
  refine ⟨b, o, e, hlt, fun j x hj => h j x ?_⟩
  rw [List.getElem?_take] at hj
  split at hj
  · exact hj
  · cases hj
/-- What a call that keeps to rows of atoms of its own changes: no block from below B on, no row of numbers or cubes. -/
structure Kp (B : Nat) (w w' : World) : Prop where
  size : w.heap.size ≤ w'.heap.size
  block : ∀ b, b < w.heap.size → (b < B ∨ TB w b 3 ∨ TB w b 53) → w'.heap[b]? = w.heap[b]?
theorem tb_ne {w : World} {g : Nat} {t t' : TypeId} (h : TB w g t) (h' : TB w g t') : t = t' := by
  obtain ⟨cs, fr, e⟩ := h
  obtain ⟨cs', fr', e'⟩ := h'
  rw [e] at e'
  injection e' with e'
  injection e' with _ e'
theorem Kp.of_below {B : Nat} {w w' : World} (h : Below w.heap.size w w') : Kp B w w' := ⟨h.size, fun b hb _ => h.block b hb⟩
theorem Kp.set {B g i : Nat} {u : Value} {w : World} (hg : TB w g 42) (hB : B ≤ g) : Kp B w (w.setCell ⟨g, i, none⟩ u) := by
  refine ⟨by simp [World.setCell], fun b hb h => Below.heap_setCell _ _ _ _ (fun e => ?_)⟩
  have e : b = g := e
  subst e
  rcases h with h | h | h
  · omega
  · exact absurd (tb_ne h hg) (by decide)
  · exact absurd (tb_ne h hg) (by decide)
theorem Kp.grown {B n : Nat} {v : Value} {xs : List Value} {w w' : World} (ho : w.ownsRow B 42 4 v n xs) (hg : w.grownBy w' v.ownBlock) : Kp B w w' := by
  refine ⟨hg.size, fun b hb h => hg.block b hb (fun e => ?_)⟩
  rcases ho.2 with ⟨rfl, _⟩ | ⟨g, cap, cur, rfl, hBg, hheap, _⟩
  · cases e
  · have e : b = g := by injection e
    subst e
    have hg : TB w b 42 := ⟨cur, (0, 0), hheap⟩
    rcases h with h | h | h
    · omega
    · exact absurd (tb_ne h hg) (by decide)
    · exact absurd (tb_ne h hg) (by decide)
/-- Numbers, cubes that such a call does not change. -/
def NmB (B : Nat) (w : World) (v : Value) (L : List Int) : Prop := Nm w v L ∧ ∀ b o n c, v = .slice (some ⟨b, o, none⟩) n c → L ≠ [] → b < B ∨ TB w b 3
def PlB (B : Nat) (w : World) (v : Value) (L : List Cb) : Prop := Pl w v L ∧ ∀ b o n c, v = .slice (some ⟨b, o, none⟩) n c → L ≠ [] → b < B ∨ TB w b 53
theorem tb_kp {B b : Nat} {w w' : World} (h : Kp B w w') : (TB w b 3 → TB w' b 3) ∧ (TB w b 53 → TB w' b 53) := by
  constructor
  · rintro ⟨cs, fr, e⟩
    exact ⟨cs, fr, (h.block b (Array.getElem?_eq_some_iff.1 e).1 (.inr (.inl ⟨cs, fr, e⟩))).trans e⟩
  · rintro ⟨cs, fr, e⟩
    exact ⟨cs, fr, (h.block b (Array.getElem?_eq_some_iff.1 e).1 (.inr (.inr ⟨cs, fr, e⟩))).trans e⟩
theorem cell_kp {B : Nat} {w w' : World} {p : Addr} {u : Value} (h : Kp B w w') (hb : p.block < B ∨ TB w p.block 3 ∨ TB w p.block 53) (hc : w.cell? p = some u) : w'.cell? p = some u :=
  (World.cell?_of_block (h.block p.block (World.block_lt_of_cell? w p hc) hb)).trans hc
theorem NmB.kp {B : Nat} {w w' : World} {v : Value} {L : List Int} (h : NmB B w v L) (hk : Kp B w w') : NmB B w' v L := by
  obtain ⟨⟨A, c, rfl, h1, h2, h3⟩, h4⟩ := h
  refine ⟨⟨A, c, rfl, h1, h2, ?_⟩, fun b o n c' e hne => ?_⟩
  · rcases h3 with h3 | ⟨b, o, rfl, hlt, hc⟩
    · exact .inl h3
    · refine .inr ⟨b, o, rfl, Nat.lt_of_lt_of_le hlt hk.size, fun k x hx => ?_⟩
      have hne : L ≠ [] := by rintro rfl; simp at hx
      refine cell_kp hk ?_ (hc k x hx)
      rcases h4 b o _ _ rfl hne with h | h
      · exact .inl h
      · exact .inr (.inl h)
  · rcases h4 b o n c' e hne with h | h
    · exact .inl h
    · exact .inr ((tb_kp hk).1 h)
theorem PlB.kp {B : Nat} {w w' : World} {v : Value} {L : List Cb} (h : PlB B w v L) (hk : Kp B w w') : PlB B w' v L := by
  obtain ⟨h3, h4⟩ := h
  refine ⟨?_, fun b o n c' e hne => ?_⟩
  · rcases h3 with h3 | ⟨b, o, cap, rfl, hl, hlt, hc⟩
    · exact .inl h3
    · refine .inr ⟨b, o, cap, rfl, hl, Nat.lt_of_lt_of_le hlt hk.size, fun k x hx => ?_⟩
      have hne : L ≠ [] := by rintro rfl; simp at hx
      have hb : b < B ∨ TB w b 3 ∨ TB w b 53 := by
        rcases h4 b o _ _ rfl hne with h | h
        · exact .inl h
        · exact .inr (.inr h)
      obtain ⟨c0, c1, c2, c3⟩ := hc k x hx
      exact ⟨cell_kp hk hb c0, cell_kp hk hb c1, cell_kp hk hb c2, cell_kp hk hb c3⟩
  · rcases h4 b o n c' e hne with h | h
    · exact .inl h
    · exact .inr ((tb_kp hk).2 h)
theorem Nm.old {B : Nat} {w0 w : World} {v : Value} {L : List Int} (h : Nm w0 v L) (hb : Below w0.heap.size w0 w) (hB : w0.heap.size ≤ B) : NmB B w v L := by
  refine ⟨h.on hb, fun b o n c e hne => ?_⟩
  obtain ⟨A, c', e2, _, _, h3⟩ := h
  subst e2
  rcases h3 with h3 | ⟨b', o', rfl, hlt, _⟩
  · exact absurd h3 hne
  · simp only [Value.slice.injEq, Option.some.injEq, Addr.mk.injEq, and_true] at e
    exact .inl (by omega)
theorem Pl.old {B : Nat} {w0 w : World} {v : Value} {L : List Cb} (h : Pl w0 v L) (hb : Below w0.heap.size w0 w) (hB : w0.heap.size ≤ B) : PlB B w v L := by
  refine ⟨h.on hb, fun b o n c e hne => ?_⟩
  rcases h with ⟨h3, _⟩ | ⟨b', o', cap, rfl, _, hlt, _⟩
  · exact absurd h3 hne
  · simp only [Value.slice.injEq, Option.some.injEq, Addr.mk.injEq, and_true] at e
    exact .inl (by omega)
theorem own_nmb {B base n : Nat} {w : World} {v : Value} {L : List Int} (h : w.ownsRow base 3 1 v n (iv L)) : NmB B w v L := by
  refine ⟨own_Nm h, fun b o m c e hne => ?_⟩
  rcases h.2 with ⟨rfl, _⟩ | ⟨g, cap, cur, rfl, _, hheap, _⟩
  · cases e
  · simp only [Value.slice.injEq, Option.some.injEq, Addr.mk.injEq, and_true] at e
    exact .inr ⟨cur, (0, 0), by rw [← e.1.1]; exact hheap⟩
theorem own_plb {B base : Nat} {w : World} {v : Value} {L : List Cb} (h : w.ownsRow base 53 4 v L.length (flat L)) : PlB B w v L := by
  refine ⟨own_Pl h, fun b o m c e hne => ?_⟩
  rcases h.2 with ⟨rfl, _⟩ | ⟨g, cap, cur, rfl, _, hheap, _⟩
  · cases e
  · simp only [Value.slice.injEq, Option.some.injEq, Addr.mk.injEq, and_true] at e
    exact .inr ⟨cur, (0, 0), by rw [← e.1.1]; exact hheap⟩
theorem NmB.nil (B : Nat) (w : World) : NmB B w (.slice none 0 0) [] := ⟨Nm.nil w, fun _ _ _ _ e => by cases e⟩
theorem PlB.nil (B : Nat) (w : World) : PlB B w (.slice none 0 0) [] := ⟨.inl ⟨rfl, Option.none, 0, rfl⟩, fun _ _ _ _ e => by cases e⟩
/-- An atom with the values of its slices. -/
structure AtX where
  iv : Value
  a : AtC
  pv : Value
def AtX.cs (x : AtX) : List Value := [x.iv, .int .u64 (uv x.a.hd.1), .int .u64 (uv x.a.hd.2), x.pv]
def flatX (E : List AtX) : List Value := E.flatMap AtX.cs
theorem flatX_len (E : List AtX) : (flatX E).length = E.length * 4 := by
  induction E with
  | nil => rfl
  | cons x E ih => unfold flatX at *; rw [List.flatMap_cons, List.length_append, ih]; simp [AtX.cs]; omega
theorem flatX_snoc (E : List AtX) (x : AtX) : flatX (E ++ [x]) = flatX E ++ x.cs := by simp [flatX]
theorem flatX_get : ∀ {E : List AtX} {k j : Nat} {x : AtX}, E[k]? = some x → j < 4 → (flatX E)[k * 4 + j]? = x.cs[j]?
  | [], k, j, x, h, _ => by simp at h
  | y :: E, 0, j, x, h, hj => by
    simp only [List.getElem?_cons_zero, Option.some.injEq] at h
    subst h
    unfold flatX
    rw [List.flatMap_cons, List.getElem?_append_left (by simp [AtX.cs]; omega)]
    simp
  | y :: E, k + 1, j, x, h, hj => by
    rw [List.getElem?_cons_succ] at h
    unfold flatX
    rw [List.flatMap_cons, List.getElem?_append_right (by simp [AtX.cs]; omega)]
    have := flatX_get (E := E) h hj
    unfold flatX at this
    rw [show (k + 1) * 4 + j - y.cs.length = k * 4 + j by simp [AtX.cs]; omega]
    exact this
theorem flatX_set3 : ∀ {E : List AtX} {k : Nat} {x : AtX} (u : Value), E[k]? = some x → (flatX E).set (k * 4 + 3) u = flatX (E.set k ⟨x.iv, x.a, u⟩)
  | [], k, x, u, h => by simp at h
  | y :: E, 0, x, u, h => by
    simp only [List.getElem?_cons_zero, Option.some.injEq] at h
    subst h
    simp [flatX, AtX.cs]
  | y :: E, k + 1, x, u, h => by
    rw [List.getElem?_cons_succ] at h
    have := flatX_set3 (E := E) u h
    unfold flatX at *
    rw [List.flatMap_cons, List.set_cons_succ, List.flatMap_cons, ← this, List.set_append_right _ _ (by simp [AtX.cs]; omega)]
    rw [show (k + 1) * 4 + 3 - y.cs.length = k * 4 + 3 by simp [AtX.cs]; omega]
theorem flatX_set4 : ∀ {E : List AtX} {k : Nat} (x : AtX), k < E.length → ((((flatX E).set (k * 4) x.iv).set (k * 4 + 1) (.int .u64 (uv x.a.hd.1))).set (k * 4 + 2) (.int .u64 (uv x.a.hd.2))).set (k * 4 + 3) x.pv = flatX (E.set k x)
  | [], k, x, h => by simp at h
  | y :: E, 0, x, h => by simp [flatX, AtX.cs]
  | y :: E, k + 1, x, h => by
    have := flatX_set4 (E := E) (k := k) x (by simpa using h)
    unfold flatX at *
    rw [List.flatMap_cons, List.set_cons_succ, List.flatMap_cons, ← this]
    have hy : y.cs.length = 4 := rfl
    rw [List.set_append_right _ _ (by omega), List.set_append_right _ _ (by omega), List.set_append_right _ _ (by omega), List.set_append_right _ _ (by omega)]
    rw [show (k + 1) * 4 - y.cs.length = k * 4 by omega, show (k + 1) * 4 + 1 - y.cs.length = k * 4 + 1 by omega, show (k + 1) * 4 + 2 - y.cs.length = k * 4 + 2 by omega, show (k + 1) * 4 + 3 - y.cs.length = k * 4 + 3 by omega]
theorem Nm.one {w : World} {v : Value} {L : List Int} (h : Nm w v L) : v.oneCell' = true := by obtain ⟨A, c, rfl, _⟩ := h; rfl
theorem Pl.one {w : World} {v : Value} {L : List Cb} (h : Pl w v L) : v.oneCell' = true := by obtain ⟨A, c, rfl, _⟩ := h.form; rfl
/-- What is known of the elements of a row of atoms. -/
def InX (B : Nat) (w : World) (E : List AtX) : Prop := ∀ x ∈ E, NmB B w x.iv x.a.ids ∧ PlB B w x.pv x.a.pl
theorem InX.kp {B : Nat} {w w' : World} {E : List AtX} (h : InX B w E) (hk : Kp B w w') : InX B w' E := fun x hx => ⟨(h x hx).1.kp hk, (h x hx).2.kp hk⟩
theorem InX.snoc {B : Nat} {w : World} {E : List AtX} {x : AtX} (h : InX B w E) (h1 : NmB B w x.iv x.a.ids) (h2 : PlB B w x.pv x.a.pl) : InX B w (E ++ [x]) := fun y hy => by
  rcases List.mem_append.1 hy with hy | hy
  · exact h y hy
  · rw [List.mem_singleton] at hy; subst hy; exact ⟨h1, h2⟩
theorem InX.set {B k : Nat} {w : World} {E : List AtX} {x : AtX} (h : InX B w E) (h1 : NmB B w x.iv x.a.ids) (h2 : PlB B w x.pv x.a.pl) : InX B w (E.set k x) := fun y hy => by
  rcases List.mem_or_eq_of_mem_set hy with hy | rfl
  · exact h y hy
  · exact ⟨h1, h2⟩
theorem InX.nil (B : Nat) (w : World) : InX B w [] := fun x hx => by cases hx
/-- Atoms in a row of the call's own. -/
def OwX (B : Nat) (w : World) (v : Value) (E : List AtX) : Prop := w.ownsRow B 42 4 v E.length (flatX E) ∧ InX B w E
def OwA (B : Nat) (w : World) (v : Value) (al : List AtC) : Prop := ∃ E : List AtX, E.map AtX.a = al ∧ OwX B w v E
theorem OwX.on {B : Nat} {w w' : World} {v : Value} {E : List AtX} (h : OwX B w v E) (hb : Below w.heap.size w w') : OwX B w' v E := ⟨own_on h.1 hb, h.2.kp (Kp.of_below hb)⟩
theorem OwA.on {B : Nat} {w w' : World} {v : Value} {al : List AtC} (h : OwA B w v al) (hb : Below w.heap.size w w') : OwA B w' v al := by
  obtain ⟨E, h1, h2⟩ := h
  exact ⟨E, h1, h2.on hb⟩
theorem OwX.nil (B : Nat) (w : World) : OwX B w (.slice none 0 0) [] := ⟨World.ownsRow_nil _ _ _ _, InX.nil B w⟩
theorem OwA.nil (B : Nat) (w : World) : OwA B w (.slice none 0 0) [] := ⟨[], rfl, OwX.nil B w⟩
theorem own_max {w : World} {base : Nat} {t : TypeId} {size n : Nat} {v : Value} {xs : List Value} (h : w.ownsRow base t size v n xs) : n ≤ maxLen := by
  rcases h.2 with ⟨_, rfl⟩ | ⟨g, cap, cur, _, _, _, h1, h2, _⟩
  · exact Nat.zero_le _
  · exact Nat.le_trans h1 h2
theorem OwX.at {B : Nat} {w : World} {v : Value} {E : List AtX} (h : OwX B w v E) : At w v (E.map AtX.a) := by
  obtain ⟨h1, h2⟩ := h
  rcases h1.2 with ⟨rfl, h0⟩ | ⟨g, cap, cur, rfl, hBg, hheap, hnc, hcm, _⟩
  · obtain rfl : E = [] := List.eq_nil_of_length_eq_zero h0
    exact At.nil w
  · refine ⟨_, cap, by rw [List.length_map], by rw [List.length_map]; exact hnc, hcm, fun _ => ⟨g, 0, rfl, (Array.getElem?_eq_some_iff.1 hheap).1, fun k a hk => ?_⟩⟩
    rw [List.getElem?_map, Option.map_eq_some_iff] at hk
    obtain ⟨x, hx, rfl⟩ := hk
    have hkl := (List.getElem?_eq_some_iff.1 hx).1
    have h3 := h2 x (List.mem_of_getElem? hx)
    refine ⟨x.iv, x.pv, ?_, ?_, ?_, ?_, h3.1.1, h3.2.1⟩
    · rw [Nat.zero_add, h1.cellAt _ (by omega)]; exact flatX_get (j := 0) hx (by omega)
    · rw [Nat.zero_add, h1.cellAt _ (by omega)]; exact flatX_get (j := 1) hx (by omega)
    · rw [Nat.zero_add, h1.cellAt _ (by omega)]; exact flatX_get (j := 2) hx (by omega)
    · rw [Nat.zero_add, h1.cellAt _ (by omega)]; exact flatX_get (j := 3) hx (by omega)
theorem OwA.at {B : Nat} {w : World} {v : Value} {al : List AtC} (h : OwA B w v al) : At w v al := by
  obtain ⟨E, rfl, h⟩ := h
  exact h.at
theorem OwX.mono {B B' : Nat} {w : World} {v : Value} {E : List AtX} (h : OwX B w v E) (hB : B' ≤ B) (hn : ∀ x ∈ E, NmB B' w x.iv x.a.ids ∧ PlB B' w x.pv x.a.pl) : OwX B' w v E := ⟨World.ownsRow.mono h.1 hB, hn⟩
/-- One atom more. -/
theorem OwX.app {B : Nat} {w w' : World} {v v' : Value} {E : List AtX} {x : AtX} (h : OwX B w v E) (h1 : NmB B w x.iv x.a.ids) (h2 : PlB B w x.pv x.a.pl) (ho : w'.ownsRow B 42 4 v' (E.length + 1) (flatX E ++ x.cs)) (hg : w.grownBy w' v.ownBlock) : OwX B w' v' (E ++ [x]) := by
  have hk := Kp.grown h.1 hg
  refine ⟨by rw [flatX_snoc, List.length_append]; exact ho, (h.2.snoc h1 h2).kp hk⟩
/-- What is appended: one atom, made in a block of its own. -/
theorem src_atom {w : World} {g : Nat} {t : TypeId} {x : AtX} (h : Blk w g t x.cs.toArray) (h1 : x.iv.oneCell' = true) (h2 : x.pv.oneCell' = true) : Src w 4 (.slice (some ⟨g, 0, none⟩) 1 1) 1 x.cs := by
  refine ⟨rfl, fun u hu => ?_, .inr ⟨_, 1, rfl, fun j u hj => ?_⟩⟩
  · simp only [AtX.cs, List.mem_cons, List.not_mem_nil, or_false] at hu
    rcases hu with rfl | rfl | rfl | rfl
    · exact h1
    · rfl
    · rfl
    · exact h2
  · have e : (⟨g, 0, none⟩ : Addr).add j = ⟨g, j, none⟩ := by unfold Addr.add; by_cases h0 : j = 0 <;> simp [h0]
    rw [e, h.cell]
    simpa using hj
/-- A pile is put in another one's place. -/
theorem OwX.pile {B g n c k : Nat} {w : World} {E : List AtX} {x : AtX} {u : Value} {p : List Cb} (h : OwX B w (.slice (some ⟨g, 0, none⟩) n c) E) (hn : n = E.length) (hx : E[k]? = some x) (hp : PlB B w u p) :
    OwX B (w.setCell ⟨g, k * 4 + 3, none⟩ u) (.slice (some ⟨g, 0, none⟩) n c) (E.set k ⟨x.iv, ⟨x.a.ids, x.a.hd, p⟩, u⟩) := by
  subst hn
  obtain ⟨h1, h2⟩ := h
  have hg : TB w g 42 ∧ B ≤ g := by
    rcases h1.2 with ⟨h', _⟩ | ⟨g', cap', cur, h', hb, hg, _⟩
    · simp at h'
    · simp only [Value.slice.injEq, Option.some.injEq, Addr.mk.injEq, and_true, true_and] at h'
      obtain ⟨rfl, rfl⟩ := h'
      exact ⟨⟨cur, (0, 0), hg⟩, hb⟩
  have hk := Kp.set (B := B) (i := k * 4 + 3) (u := u) hg.1 hg.2
  have h3 := (h1.stored (k * 4 + 3) u).1
  have hxm := h2 x (List.mem_of_getElem? hx)
  refine ⟨?_, (h2.set (k := k) (x := ⟨x.iv, ⟨x.a.ids, x.a.hd, p⟩, u⟩) hxm.1 hp).kp hk⟩
  rw [flatX_set3 u hx] at h3
  have e : flatX (E.set k ⟨x.iv, ⟨x.a.ids, x.a.hd, p⟩, u⟩) = flatX (E.set k ⟨x.iv, x.a, u⟩) := by
    unfold flatX
    rw [← List.map_id (E.set k ⟨x.iv, ⟨x.a.ids, x.a.hd, p⟩, u⟩)]
    rw [List.flatMap_def, List.flatMap_def, List.map_map, List.map_set, List.map_set]
    rfl
  rw [e, List.length_set]
  exact h3
theorem own_tbA {w : World} {base g : Nat} {t : TypeId} {size n m cap : Nat} {xs : List Value} (h : w.ownsRow base t size (.slice (some ⟨g, 0, none⟩) m cap) n xs) : TB w g t ∧ base ≤ g ∧ g < w.heap.size := by
  rcases h.2 with ⟨h', _⟩ | ⟨g', cap', cur, h', hb, hg, _⟩
  · simp at h'
  · simp only [Value.slice.injEq, Option.some.injEq, Addr.mk.injEq, and_true] at h'
    obtain ⟨rfl, _, rfl⟩ := h'
    exact ⟨⟨cur, (0, 0), hg⟩, hb, (Array.getElem?_eq_some_iff.1 hg).1⟩
/-- An atom is put in another one's place, cell by cell. -/
theorem OwX.put {B g n c k : Nat} {w : World} {E : List AtX} {x : AtX} (h : OwX B w (.slice (some ⟨g, 0, none⟩) n c) E) (hn : n = E.length) (hk : k < E.length) (h1 : NmB B w x.iv x.a.ids) (h2 : PlB B w x.pv x.a.pl) :
    OwX B (w.setCells g (k * 4) x.cs) (.slice (some ⟨g, 0, none⟩) n c) (E.set k x) := by
  subst hn
  obtain ⟨ho, hi⟩ := h
  have a1 := ho.stored (k * 4) x.iv
  have a2 := a1.1.stored (k * 4 + 1) (.int .u64 (uv x.a.hd.1))
  have a3 := a2.1.stored (k * 4 + 2) (.int .u64 (uv x.a.hd.2))
  have a4 := a3.1.stored (k * 4 + 3) x.pv
  have t0 := own_tbA ho
  have t1 := own_tbA a1.1
  have t2 := own_tbA a2.1
  have t3 := own_tbA a3.1
  have b1 := Kp.set (B := B) (i := k * 4) (u := x.iv) t0.1 t0.2.1
  have b2 := Kp.set (B := B) (i := k * 4 + 1) (u := .int .u64 (uv x.a.hd.1)) t1.1 t1.2.1
  have b3 := Kp.set (B := B) (i := k * 4 + 2) (u := .int .u64 (uv x.a.hd.2)) t2.1 t2.2.1
  have b4 := Kp.set (B := B) (i := k * 4 + 3) (u := x.pv) t3.1 t3.2.1
  refine ⟨?_, ((((hi.set (k := k) h1 h2).kp b1).kp b2).kp b3).kp b4⟩
  have := a4.1
  rw [flatX_set4 x hk] at this
  rw [List.length_set]
  exact this
theorem snoc_map {E : List AtX} {x : AtX} {al : List AtC} (h : E.map AtX.a = al) : (E ++ [x]).map AtX.a = al ++ [x.a] := by rw [List.map_append, h]; rfl
theorem set_map {E : List AtX} {x : AtX} {k : Nat} : (E.set k x).map AtX.a = (E.map AtX.a).set k x.a := by rw [List.map_set]
end Go.Proofs.Hd

namespace Go.Proofs.Hd
open Go.RowKit
theorem At.form {w : World} {v : Value} {al : List AtC} (h : At w v al) : ∃ A cap, v = .slice A al.length cap ∧ al.length ≤ maxLen ∧ (al ≠ [] → ∃ b o, A = some ⟨b, o, none⟩ ∧ b < w.heap.size ∧ ∀ (k : Nat) (a : AtC), al[k]? = some a → AtomAt w b (o + k * 4) a) := by
  obtain ⟨A, cap, e, h1, h2, h3⟩ := h
  exact ⟨A, cap, e, Nat.le_trans h1 h2, h3⟩
theorem AtomAt.cells {w : World} {b o : Nat} {a : AtC} (h : AtomAt w b o a) : ∃ I1 I2 I3 P1 P2 P3, (w.cell? ⟨b, o, none⟩ = some (.slice I1 I2 I3) ∧ w.cell? ⟨b, o + 1, none⟩ = some (.int .u64 (uv a.hd.1)) ∧ w.cell? ⟨b, o + 2, none⟩ = some (.int .u64 (uv a.hd.2)) ∧ w.cell? ⟨b, o + 3, none⟩ = some (.slice P1 P2 P3)) ∧ Nm w (.slice I1 I2 I3) a.ids ∧ Pl w (.slice P1 P2 P3) a.pl ∧ I2 = a.ids.length ∧ P2 = a.pl.length := by
  obtain ⟨iv, pv, h0, h1, h2, h3, h4, h5⟩ := h
  obtain ⟨P1, P3, rfl, -, -⟩ := h5.form
  have h4' := h4
  obtain ⟨I1, I3, rfl, -⟩ := h4
  exact ⟨I1, _, I3, P1, _, P3, ⟨h0, h1, h2, h3⟩, h4', h5, rfl, rfl⟩
theorem idx_find {α : Type} {q : α → Bool} {L : List α} {r : Int} (h : IdxIs q L r) : (r = -1 ∧ L.findIdx? q = none) ∨ ∃ n : Nat, r = n ∧ n < L.length ∧ L.findIdx? q = some n := by
  rcases h with ⟨e, h⟩ | ⟨k, c, e, hc, hq, hb⟩
  · left
    refine ⟨e, ?_⟩
    rw [List.findIdx?_eq_none_iff]
    intro x hx
    obtain ⟨k, hk⟩ := List.mem_iff_getElem?.1 hx
    exact h k x hk
  · right
    obtain ⟨hk, e2⟩ := List.getElem?_eq_some_iff.1 hc
    refine ⟨k, e, hk, ?_⟩
    rw [List.findIdx?_eq_some_iff_getElem]
    refine ⟨hk, by rw [e2]; exact hq, fun j hj => ?_⟩
    have := hb j _ hj (List.getElem?_eq_getElem (by omega))
    rw [this]
    simp
end Go.Proofs.Hd
namespace Go.Proofs
open Go.RowKit Go.Proofs.Hd Go.Lib Go.Shelf
attribute [local go_sem] uv_nonneg
set_option maxHeartbeats 2000000 in
set_option maxRecDepth 100000 in
theorem idx_atoms (g : Nat) (lb : Array Value) (q : AtC → Bool) (eg : ∀ args w, (callFunc g args).run Tryz.prog w = .ok (.enter g args) w) (v : Value) (al : List AtC) (w : World) (r : Int) (hr : IdxIs q al r)
    (hp : ∀ W a I1 I2 I3 P1 P2 P3, a ∈ al → Below w.heap.size w W → Nm W (.slice I1 I2 I3) a.ids → Pl W (.slice P1 P2 P3) a.pl → Calls Tryz.prog g (#[.agg #[.slice I1 I2 I3, .int .u64 (uv a.hd.1), .int .u64 (uv a.hd.2), .slice P1 P2 P3]] ++ lb) W fun e w' => e = .returned (.bool (q a)) ∧ Below w.heap.size w w') (hv : At w v al) :
    Calls Tryz.prog 35 #[v, .func (.func g) #[] lb] w fun e w' => e = .returned (.int .i64 r) ∧ Below w.heap.size w w' := by
  obtain ⟨A, cap, rfl, hlen, hA⟩ := hv.form
  have HR := Lib.hid hr
  have HA := Lib.hid hA
  have HP := Lib.hid hp
  have hl : (al.length : Int) ≤ 9223372036854775807 := by unfold maxLen at hlen; omega
  clear hr hA hp hv
  go_enter Tryz.func35, Tryz.ntmps35
  go_wp2
  go_loopg [5, 8] al.length (fun gg _ s8 wr => ∃ kk : Nat, kk ≤ al.length ∧ al.length - kk ≤ gg ∧ s8 = .int .i64 kk ∧ Hid (Below w.heap.size w wr) ∧ Hid (∀ (j : Nat) (d : AtC), j < kk → al[j]? = some d → q d = false))
  case atStart => exact ⟨0, Nat.zero_le _, by omega, rfl, Below.refl _ w, fun j d hj => absurd hj (Nat.not_lt_zero _)⟩
  case round =>
    obtain ⟨kk, hkk, hg, rfl, BW, A⟩ := hrel
    by_cases hlt : kk < al.length
    · have hltz : (kk : Int) < (al.length : Int) := by omega
      obtain ⟨a, ha⟩ : ∃ a, al[kk]? = some a := ⟨_, List.getElem?_eq_getElem hlt⟩
      obtain ⟨b, off, rfl, hb, hc⟩ := HA.out (ne_nil_of ha)
      obtain ⟨I1, I2, I3, P1, P2, P3, ⟨c0, c1, c2, c3⟩, hN, hL, -, -⟩ := ((hc kk a ha).on (w' := wr) BW.out).cells
      have hcall := HP.out wr a I1 I2 I3 P1 P2 P3 (List.mem_of_getElem? ha) BW.out hN hL
      have B := Lib.hid ha
      clear HP HA ha hc hN hL
      cases hq : q a with
      | true =>
        rw [hq] at hcall
        go_wp2_with (go_at_fn g; refine hcall.mono ?_; rintro e w' ⟨rfl, hb'⟩)
        go_ret
        exact ⟨by rw [HR.out.hit B.out hq A.out]; rfl, hb'⟩
      | false =>
        rw [hq] at hcall
        go_wp2_with (go_at_fn g; refine hcall.mono ?_; rintro e w' ⟨rfl, hb'⟩)
        go_roundg (al.length - (kk + 1))
        case measure => omega
        case rel =>
          refine ⟨kk + 1, by omega, by omega, by go_num, hb', fun j d hj hd => ?_⟩
          by_cases e : j = kk
          · subst e
            have := B.out
            rw [hd] at this; injection this with this; subst this; exact hq
          · exact A.out j d (by omega) hd
    · have hltz : ¬ (kk : Int) < (al.length : Int) := by omega
      have hk : kk = al.length := by omega
      have := HR.out.miss (fun j d hd => A.out j d (by rw [hk]; exact (List.getElem?_eq_some_iff.1 hd).1) hd)
      subst this
      go_wp2
      go_ret
      exact ⟨rfl, BW.out⟩
theorem cont_atoms (g : Nat) (lb : Array Value) (q : AtC → Bool) (eg : ∀ args w, (callFunc g args).run Tryz.prog w = .ok (.enter g args) w) (v : Value) (al : List AtC) (w : World) (x : Bool) (hx : al.any q = x)
    (hp : ∀ W a I1 I2 I3 P1 P2 P3, a ∈ al → Below w.heap.size w W → Nm W (.slice I1 I2 I3) a.ids → Pl W (.slice P1 P2 P3) a.pl → Calls Tryz.prog g (#[.agg #[.slice I1 I2 I3, .int .u64 (uv a.hd.1), .int .u64 (uv a.hd.2), .slice P1 P2 P3]] ++ lb) W fun e w' => e = .returned (.bool (q a)) ∧ Below w.heap.size w w') (hv : At w v al) :
    Calls Tryz.prog 58 #[v, .func (.func g) #[] lb] w fun e w' => e = .returned (.bool x) ∧ Below w.heap.size w w' := by
  obtain ⟨r, hr⟩ := IdxIs.ex q al
  have hcon := idx_atoms g lb q eg v al w r hr hp hv
  have ha := hr.any
  rw [hx] at ha
  subst ha
  clear hr hx hp hv
  go_enter Tryz.func58, Tryz.ntmps58
  go_wp2_with (go_at_call 35; refine hcon.mono ?_; rintro e w' ⟨rfl, hb'⟩)
  go_ret
  exact ⟨rfl, hb'⟩
set_option maxRecDepth 100000 in
theorem asound1_c (I1 P1 : Option Addr) (I2 I3 P2 P3 : Nat) (x y : Int) (p : List Cb) (w : World) (hv : Pl w (.slice P1 P2 P3) p) : Calls Tryz.prog 56 #[.agg #[.slice I1 I2 I3, .int .u64 x, .int .u64 y, .slice P1 P2 P3]] w fun e w' => e = .returned (.bool (!sndL p)) ∧ Below w.heap.size w w' := by
  have B0 := below1 w (.cells #[.slice I1 I2 I3, .int .u64 x, .int .u64 y, .slice P1 P2 P3] 42)
  have hcon := psound_c _ _ p _ rfl (hv.on B0)
  clear hv
  go_enter Tryz.func56, Tryz.ntmps56
  go_wp2_with fail
  (with_reducible refine hcon.mono ?_)
  rintro e w1 ⟨rfl, hb⟩
  have L := B0.trans (hb.mono B0.size)
  clear B0 hb hcon
  go_wp2
  go_ret
  exact ⟨rfl, L⟩
/-- Are all piles sound? -/
def sndA (al : List AtC) : Bool := al.all fun a => sndL a.pl
theorem sndA_any (al : List AtC) : (al.any fun a => !sndL a.pl) = !sndA al := by unfold sndA; induction al <;> simp_all
theorem asound_c (v : Value) (al : List AtC) (w : World) (hv : At w v al) : Calls Tryz.prog 41 #[v] w fun e w' => e = .returned (.bool (sndA al)) ∧ Below w.heap.size w w' := by
  have eg : ∀ args w, (callFunc 56 args).run Tryz.prog w = .ok (.enter 56 args) w := enters_of Tryz.func56 (by kernel_rfl) rfl
  have hcon := cont_atoms 56 #[] (fun a => !sndL a.pl) eg v al w (!sndA al) (sndA_any al) (fun W a I1 I2 I3 P1 P2 P3 _ hb _ hp => (asound1_c I1 P1 I2 I3 P2 P3 _ _ a.pl W hp).mono fun e w' h => ⟨h.1, hb.trans (h.2.mono hb.size)⟩) hv
  obtain ⟨A, cap, rfl, _, _⟩ := hv
  generalize sndA al = y at hcon ⊢
  go_enter Tryz.func41, Tryz.ntmps41
  go_wp2_with (go_at_call 58; refine hcon.mono ?_; rintro e w' ⟨rfl, hb'⟩)
  go_ret
  exact ⟨by simp, hb'⟩
set_option maxRecDepth 100000 in
theorem afind1_c (I1 P1 : Option Addr) (I2 I3 P2 P3 : Nat) (x y : Int) (p : List Cb) (hh hl : BitVec 64) (b : Nat) (w : World) (hc : w.cell? ⟨b, 0, none⟩ = some (.int .u64 (uv hh)) ∧ w.cell? ⟨b, 1, none⟩ = some (.int .u64 (uv hl))) (hv : Pl w (.slice P1 P2 P3) p) :
    Calls Tryz.prog 33 #[.agg #[.slice I1 I2 I3, .int .u64 x, .int .u64 y, .slice P1 P2 P3], .pointer (some ⟨b, 0, none⟩)] w fun e w' => e = .returned (.bool (hasP p (hh, hl))) ∧ Below w.heap.size w w' := by
  have B0 := below1 w (.cells #[.slice I1 I2 I3, .int .u64 x, .int .u64 y, .slice P1 P2 P3] 42)
  have hcon := phas_c _ _ p hh hl _ rfl (hv.on B0)
  have h0 := on_some B0 hc.1
  have h1 := on_some B0 hc.2
  clear hv hc
  go_enter Tryz.func33, Tryz.ntmps33
  go_wp2_with fail
  (with_reducible refine hcon.mono ?_)
  rintro e w1 ⟨rfl, hb⟩
  have L := B0.trans (hb.mono B0.size)
  clear B0 hb hcon h0 h1
  go_wp2
  go_ret
  exact ⟨rfl, L⟩
/-- What Find says. -/
def fndR (al : List AtC) (x : Hx) : Int × Bool := match fndA hasP al x with
  | some n => (n, true)
  | none => (0, false)
theorem afind_c (v : Value) (al : List AtC) (hh hl : BitVec 64) (w : World) (hv : At w v al) : Calls Tryz.prog 15 #[v, .agg #[.int .u64 (uv hh), .int .u64 (uv hl)]] w fun e w' => e = .returned (.tuple #[.int .i64 (fndR al (hh, hl)).1, .bool (fndR al (hh, hl)).2]) ∧ Below w.heap.size w w' := by
  have eg : ∀ args w, (callFunc 33 args).run Tryz.prog w = .ok (.enter 33 args) w := enters_of Tryz.func33 (by kernel_rfl) rfl
  have B0 := below1 w (.cells #[.int .u64 (uv hh), .int .u64 (uv hl)] 25)
  have hcell : (w.alloc (.cells #[.int .u64 (uv hh), .int .u64 (uv hl)] 25)).cell? ⟨w.heap.size, 0, none⟩ = some (.int .u64 (uv hh)) ∧ (w.alloc (.cells #[.int .u64 (uv hh), .int .u64 (uv hl)] 25)).cell? ⟨w.heap.size, 1, none⟩ = some (.int .u64 (uv hl)) := ⟨by simp, by simp⟩
  obtain ⟨r, hr⟩ := IdxIs.ex (fun a : AtC => hasP a.pl (hh, hl)) al
  have hcon := idx_atoms 33 #[.pointer (some ⟨w.heap.size, 0, none⟩)] (fun a => hasP a.pl (hh, hl)) eg v al _ r hr
    (fun W a I1 I2 I3 P1 P2 P3 _ hb _ hp => (afind1_c I1 P1 I2 I3 P2 P3 _ _ a.pl hh hl w.heap.size W ⟨on_some hb hcell.1, on_some hb hcell.2⟩ hp).mono fun e w' h => ⟨h.1, hb.trans (h.2.mono hb.size)⟩) (hv.on B0)
  have hf := idx_find hr
  obtain ⟨A, cap, rfl, _, hm, _⟩ := hv
  have hlm : al.length ≤ maxLen := by omega
  clear hcell hr hm
  unfold fndR fndA
  rcases hf with ⟨rfl, hf⟩ | ⟨n, rfl, hn, hf⟩
  · rw [hf]
    clear hf hlm
    go_enter Tryz.func15, Tryz.ntmps15
    go_wp2_with (go_at_call 35; refine hcon.mono ?_; rintro e w' ⟨rfl, hb'⟩)
    go_ret2
    exact ⟨rfl, B0.trans (hb'.mono B0.size)⟩
  · rw [hf]
    have hz : (0 : Int) ≤ (n : Int) := by omega
    have hz2 : ¬ (n : Int) < (0 : Int) := by omega
    clear hf hlm
    go_enter Tryz.func15, Tryz.ntmps15
    go_wp2_with (go_at_call 35; refine hcon.mono ?_; rintro e w' ⟨rfl, hb'⟩)
    go_ret2
    exact ⟨by simp, B0.trans (hb'.mono B0.size)⟩
theorem take_eq_of {A B : List Int} {k : Nat} {x : Int} (h : A.take k = B.take k) (ha : A[k]? = some x) (hb : B[k]? = some x) : A.take (k + 1) = B.take (k + 1) := by
  rw [List.take_add_one, List.take_add_one, ha, hb, h]
set_option maxHeartbeats 2000000 in
theorem iequal_c (v u : Value) (A B : List Int) (w : World) (hl : A.length ≤ 4611686018427387904) (hm : B.length ≤ 4611686018427387904) (ha : Nm w v A) (hb : Nm w u B) : Calls Tryz.prog 46 #[v, u] w fun e w' => e = .returned (.bool (decide (A = B))) ∧ Below w.heap.size w w' := by
  obtain ⟨A1, c1, rfl, _, _, h3⟩ := ha
  obtain ⟨A2, c2, rfl, _, _, h4⟩ := hb
  have hlz : (A.length : Int) ≤ 4611686018427387904 := by omega
  have hmz : (B.length : Int) ≤ 4611686018427387904 := by omega
  obtain ⟨r, hr⟩ : ∃ r, decide (A = B) = r := ⟨_, rfl⟩
  rw [hr]
  by_cases hab : A.length = B.length
  · have habz : (A.length : Int) = (B.length : Int) := by omega
    rcases h3 with rfl | ⟨b, o, rfl, hb, hc⟩
    · obtain rfl : B = [] := List.eq_nil_of_length_eq_zero hab.symm
      obtain rfl : r = true := by rw [← hr]; simp
      clear hr h4
      go_enter Tryz.func46, Tryz.ntmps46
      go_wp2
      refine wp_loop_rounds 1 ?_
      rw [rounds_succ]
      go_wp2
      go_ret
      exact ⟨rfl, Below.refl _ _⟩
    rcases h4 with rfl | ⟨b2, o2, rfl, hb2, hc2⟩
    · obtain rfl : A = [] := List.eq_nil_of_length_eq_zero hab
      obtain rfl : r = true := by rw [← hr]; simp
      clear hr hc
      go_enter Tryz.func46, Tryz.ntmps46
      go_wp2
      refine wp_loop_rounds 1 ?_
      rw [rounds_succ]
      go_wp2
      go_ret
      exact ⟨rfl, Below.refl _ _⟩
    have HC := Lib.hid hc
    have HD := Lib.hid hc2
    have HR := Lib.hid hr
    have HAB := Lib.hid hab
    generalize hBn : B.length = n at hmz habz HAB
    have HBN := Lib.hid hBn
    clear hc hc2 hr hab hm hBn
    go_enter Tryz.func46, Tryz.ntmps46
    go_wp2
    go_loopg [5, 13] A.length (fun gk _ s13 wr => ∃ k : Nat, k ≤ A.length ∧ gk = A.length - k ∧ s13 = .int .i64 k ∧ Hid (Below w.heap.size w wr) ∧ Hid (A.take k = B.take k))
    case atStart => exact ⟨0, Nat.zero_le _, rfl, rfl, Below.refl _ _, by show _ = _; simp⟩
    case round =>
      obtain ⟨k, hk, rfl, rfl, HB, HI⟩ := hrel
      by_cases hlt : k < A.length
      · have hltz : (k : Int) < (A.length : Int) := by omega
        have hltz2 : (k : Int) < (n : Int) := by omega
        obtain ⟨y, hy⟩ : ∃ y, A[k]? = some y := ⟨_, List.getElem?_eq_getElem hlt⟩
        obtain ⟨z, hz⟩ : ∃ z, B[k]? = some z := ⟨_, List.getElem?_eq_getElem (by have := HAB.out; have := HBN.out; omega)⟩
        have d1 := on_some HB.out (HC.out k y hy)
        have d2 := on_some HB.out (HD.out k z hz)
        have HY := Lib.hid hy
        have HZ := Lib.hid hz
        clear hy hz
        by_cases hyz : y = z
        · have hd : (y == z) = true := by simpa using hyz
          have st := Lib.hid (take_eq_of HI.out HY.out (by rw [hyz]; exact HZ.out))
          have E := Lib.hid hyz
          clear hyz
          go_wp2_with fail
          go_quiet (fail)
          have HB2 := Lib.hid (bdn HB.out nq)
          clear d1 d2 HB
          generalize wr.drewN nq = w2 at HB2 ⊢
          go_wp2
          go_roundg (A.length - (k + 1))
          case measure => omega
          case rel => exact ⟨k + 1, by omega, rfl, by go_num, HB2, st⟩
        · have hd : (y == z) = false := by simpa using hyz
          have hrf : r = false := by
            rw [← HR.out]
            simp only [decide_eq_false_iff_not]
            intro e
            have h1 := HY.out
            rw [e, HZ.out] at h1
            injection h1 with h1
            exact hyz h1.symm
          subst hrf
          have E := Lib.hid hyz
          clear hyz
          go_wp2_with fail
          go_quiet (fail)
          have HB2 := Lib.hid (bdn HB.out nq)
          clear d1 d2 HB
          generalize wr.drewN nq = w2 at HB2 ⊢
          go_wp2
          go_ret
          exact ⟨rfl, HB2.out⟩
      · have hltz : ¬ (k : Int) < (A.length : Int) := by omega
        have hrt : r = true := by
          have h1 := HI.out
          rw [List.take_of_length_le (by omega), List.take_of_length_le (by have := HAB.out; have := HBN.out; omega)] at h1
          rw [← HR.out]
          simpa using h1
        subst hrt
        go_wp2
        go_ret
        exact ⟨rfl, HB.out⟩
  · have habz : ¬ (A.length : Int) = (B.length : Int) := by omega
    obtain rfl : r = false := by
      rw [← hr]
      simp only [decide_eq_false_iff_not]
      intro e
      exact hab (congrArg List.length e)
    clear hr h3 h4
    go_enter Tryz.func46, Tryz.ntmps46
    go_wp2
    go_ret
    exact ⟨rfl, Below.refl _ _⟩
end Go.Proofs

namespace Go.Proofs
open Go.RowKit Go.Proofs.Hd Go.Lib Go.Shelf
attribute [local go_sem] uv_nonneg
set_option maxRecDepth 100000 in
set_option maxHeartbeats 2000000 in
theorem atomOf_c (I1 : Option Addr) (I2 I3 : Nat) (pv : Value) (p : List Cb) (w : World) (hne : p ≠ []) (hs : ∀ c ∈ p, c.snd = true) (hl : p.length ≤ 1000000) (hv : Pl w pv p) :
    Calls Tryz.prog 29 #[.slice I1 I2 I3, pv] w fun e w' => e = .returned (.agg #[.slice I1 I2 I3, .int .u64 (uv (topP p).1), .int .u64 (uv (topP p).2), pv]) ∧ Below w.heap.size w w' := by
  obtain ⟨c, hc, ht⟩ : ∃ c, p[0]? = some c ∧ topP p = (c.vh, c.vl) := by
    cases p with
    | nil => exact absurd rfl hne
    | cons c p => exact ⟨c, rfl, rfl⟩
  rw [ht]
  have hcs := hs c (List.mem_of_getElem? hc)
  have B0 := below1 w (.cells #[.slice none 0 0, .int .u64 0, .int .u64 0, .slice none 0 0] 42)
  have X0 := Blk.new w 42 #[.slice none 0 0, .int .u64 0, .int .u64 0, .slice none 0 0]
  have hcon := ppick_yes pv p _ 0 c (by omega) hc hcs (fun j d hj => absurd hj (Nat.not_lt_zero _)) (hv.on B0)
  obtain ⟨P1, P2, rfl, _, _⟩ := hv.form
  clear hne hs hl hv hc hcs ht
  go_enter Tryz.func29, Tryz.ntmps29
  go_wp2_with fail
  (with_reducible refine hcon.mono ?_)
  rintro e w1 ⟨rfl, hb⟩
  have B1 := B0.trans (hb.mono B0.size)
  have b2 := below1 w1 (.cells #[.int .u64 (uv c.vh), .int .u64 (uv c.vl)] 25)
  have X2 := (X0.on hb).on b2
  have N2 : Blk (w1.alloc (.cells #[.int .u64 (uv c.vh), .int .u64 (uv c.vl)] 25)) w1.heap.size 25 #[.int .u64 (uv c.vh), .int .u64 (uv c.vl)] := Blk.new w1 _ _
  have B2 := B1.trans (b2.mono B1.size)
  clear hcon B0 X0 hb B1 b2
  go_upto_region 2 with (fail)
  generalize hgen : (w1.alloc (.cells #[.int .u64 (uv c.vh), .int .u64 (uv c.vl)] 25)) = w2 at X2 N2 B2 ⊢
  generalize hgn : w1.heap.size = g2 at N2 ⊢
  clear hgen hgn
  have x0 := X2.four
  have f0 := X2.fr4
  have n0 := N2.pair
  clear X2 N2
  go_wp2
  exact bodyPost_ret (v := .agg #[.slice I1 I2 I3, .int .u64 (uv c.vh), .int .u64 (uv c.vl), .slice P1 p.length P2]) (by simp [results, Tryz.results29, go_sem, x0.1, x0.2]) rfl ⟨rfl, B2.trans ((sets4 _ _ _ _ _ _).mono (by omega))⟩
end Go.Proofs

namespace Go.Proofs.Hd
open Go.RowKit
/-- A row that lay at o has grown and lies at o' now: nothing else has changed. -/
def Grw (w w' : World) (o o' : Option Nat) : Prop := w.grownBy w' o ∧ (o' = o ∨ ∃ k, o' = some k ∧ w.heap.size ≤ k)
theorem Grw.refl (w : World) (o : Option Nat) : Grw w w o o := ⟨World.grownBy.refl w o, .inl rfl⟩
section
variable {P : Program} (w : World)
theorem run_app2 (base : Nat) (t ty e : TypeId) (i : TypeInfo) (z : Value) (size bytes : Nat) (ht : P.underlying t = some (.slice e)) (hi : P.info? e = some i) (hz : i.zero = some z)
    (hsize : i.size = size) (hby : i.bytes = bytes) (hzs : z.cells.size = size) (hsz : 0 < size) (v : Value) (n : Nat) (xs : List Value) (hown : w.ownsRow base e size v n xs)
    (x : Value) (m : Nat) (news : List Value) (hx : Src w size x m news) (h63 : n + m ≤ maxLen) (hbytes : (n + m) * bytes ≤ 140737488355328) (hbase : base ≤ w.heap.size) :
    ∃ v' w', (Builtin.append_ #[t, t] ty #[v, x]).run P w = .ok v' w' ∧ w'.ownsRow base e size v' (n + m) (xs ++ news) ∧ Grw w w' v.ownBlock v'.ownBlock := by
  obtain ⟨hl, h1, ⟨rfl, c, rfl⟩ | ⟨ad, c, rfl, hc⟩⟩ := hx
  · obtain rfl : news = [] := List.eq_nil_of_length_eq_zero (by simpa using hl)
    refine ⟨v, w, ?_, by simpa using hown, Grw.refl w _⟩
    rcases hown.2 with ⟨rfl, rfl⟩ | ⟨g, cap, cur, rfl, _, _, hnc, _⟩
    · simp [Builtin.append_, run_underlying ht, sizeOf, typeInfo, hi, Builtin.lenOf, Builtin.firstCells]
    · simp [Builtin.append_, run_underlying ht, sizeOf, typeInfo, hi, Builtin.lenOf, Builtin.firstCells, hnc, storeCells]
  · obtain ⟨v', w', hr, h2, h3, _, h5⟩ := run_append_own_at (P := P) w base t ty e i z size bytes ht hi hz hsize hby hzs hsz v n xs hown ad m c news hl hc h1 h63 hbytes hbase
    exact ⟨v', w', hr, h2, h3, h5.imp id fun h => ⟨_, h, Nat.le_refl _⟩⟩
theorem wpList_app2 {ops : Array Oper} {rest : List Oper} {o : Oper} {a : Act} {Q : Exit → Act → World → Prop} (hgd : o.guard = none) (s x : Operand) (t : TypeId)
    (ho : o.op = .call { callee := .builtin .append, args := #[s, x], argTypes := #[t, t] }) (base : Nat) (e : TypeId) (i : TypeInfo) (z : Value) (size bytes : Nat) (ht : P.underlying t = some (.slice e)) (hi : P.info? e = some i) (hz : i.zero = some z)
    (hsize : i.size = size) (hby : i.bytes = bytes) (hzs : z.cells.size = size) (hsz : 0 < size) (v : Value) (n : Nat) (xs : List Value) (hs : a.eval s = v) (hown : w.ownsRow base e size v n xs)
    (y : Value) (m : Nat) (news : List Value) (hy : a.eval x = y) (hx : Src w size y m news) (h63 : n + m ≤ maxLen) (hbytes : (n + m) * bytes ≤ 140737488355328) (hbase : base ≤ w.heap.size)
    (h : ∀ v' w', w'.ownsRow base e size v' (n + m) (xs ++ news) → Grw w w' v.ownBlock v'.ownBlock → wpList P ops Q rest (a.put o.dst v') w') : wpList P ops Q (o :: rest) a w := by
  obtain ⟨v', w', hr, h2, h3⟩ := run_app2 (P := P) w base t o.type e i z size bytes ht hi hz hsize hby hzs hsz v n xs hown y m news hx h63 hbytes hbase
  exact Lib.wpList_append_run w hgd s x t t ho v y hs hy v' w' hr (h v' w' h2 h3)
end
end Go.Proofs.Hd

namespace Go.Proofs.Hd
open Go.RowKit
/-- A part: the pile itself, or a row of the call's own. -/
def PtP (w w' : World) (pv : Value) (p : List Cb) (vm : Value) (m : List Cb) : Prop := (vm = pv ∧ m = p) ∨ w'.ownsRow w.heap.size 53 4 vm m.length (flat m)
theorem PtP.on {w w1 w2 : World} {pv vm : Value} {p m : List Cb} (h : PtP w w1 pv p vm m) (hb : Below w1.heap.size w1 w2) : PtP w w2 pv p vm m := by
  rcases h with h | h
  · exact .inl h
  · exact .inr (own_on h hb)
theorem PtP.plb {B : Nat} {w0 w w' : World} {pv vm : Value} {p m : List Cb} (h : PtP w w' pv p vm m) (hp : Pl w0 pv p) (hb : Below w0.heap.size w0 w') (hB : w0.heap.size ≤ B) : PlB B w' vm m := by
  rcases h with ⟨rfl, rfl⟩ | h
  · exact hp.old hb hB
  · exact own_plb h
def OptP (w : World) (pv : Value) (p : List Cb) (o : Option (List Cb × List Cb)) (e : Ending) (w' : World) : Prop :=
  (∀ m l, o = some (m, l) → ∃ vm vl, e = .returned (.tuple #[vm, vl, .int .i64 0]) ∧ PtP w w' pv p vm m ∧ PtP w w' pv p vl l ∧ Below w.heap.size w w') ∧
  (o = none → ∃ vm, e = .returned (.tuple #[vm, .slice none 0 0, .int .i64 10]) ∧ Below w.heap.size w w')
theorem OptP.yes {w w' : World} {pv vm vl : Value} {p m l : List Cb} {o : Option (List Cb × List Cb)} {e : Ending} (ho : o = some (m, l)) (he : e = .returned (.tuple #[vm, vl, .int .i64 0])) (h1 : PtP w w' pv p vm m) (h2 : PtP w w' pv p vl l) (hb : Below w.heap.size w w') : OptP w pv p o e w' := by
  subst ho
  refine ⟨fun m' l' h => ?_, fun h => by cases h⟩
  injection h with h
  injection h with h3 h4
  subst h3 h4
  exact ⟨vm, vl, he, h1, h2, hb⟩
theorem OptP.no {w w' : World} {pv vm : Value} {p : List Cb} {o : Option (List Cb × List Cb)} {e : Ending} (ho : o = none) (he : e = .returned (.tuple #[vm, .slice none 0 0, .int .i64 10])) (hb : Below w.heap.size w w') : OptP w pv p o e w' := by
  subst ho
  exact ⟨fun m l h => (by cases h), fun _ => ⟨vm, he, hb⟩⟩
theorem ptp_nil (w w' : World) (pv : Value) (p : List Cb) : PtP w w' pv p (.slice none 0 0) [] := .inr (World.ownsRow_nil _ _ _ _)
theorem one_sndL {c : Cb} (hc : c.snd = true) : sndL [c] = true := by
  unfold sndL
  rw [List.all_cons, hc]
  rfl
/-- The places of the atoms that have a number, among the first k. -/
def ofL (al : List AtC) (id : Int) (k : Nat) : List Int := ((List.range k).filter fun n => match al[n]? with
  | some a => decide (id ∈ a.ids)
  | none => false).map Int.ofNat
theorem ofL_zero (al : List AtC) (id : Int) : ofL al id 0 = [] := rfl
theorem ofL_succ {al : List AtC} {id : Int} {k : Nat} {a : AtC} (h : al[k]? = some a) : ofL al id (k + 1) = ofL al id k ++ if id ∈ a.ids then [(k : Int)] else [] := by
  unfold ofL
  rw [List.range_succ, List.filter_append, List.map_append]
  congr 1
  by_cases h2 : id ∈ a.ids
  · rw [if_pos h2]; simp [h, h2]
  · rw [if_neg h2]; simp [h, h2]
theorem ofL_len (al : List AtC) (id : Int) (k : Nat) : (ofL al id k).length ≤ k := by
  unfold ofL
  rw [List.length_map]
  exact Nat.le_trans (List.length_filter_le _ _) (by simp)
theorem Nm.one1 {w : World} {g : Nat} {t : TypeId} {x : Int} (h : Blk w g t #[.int .i64 x]) : Nm w (.slice (some ⟨g, 0, none⟩) 1 1) [x] := by
  refine ⟨_, _, rfl, Nat.le_refl _, by simp [maxLen], .inr ⟨g, 0, rfl, h.lt, fun k y hk => ?_⟩⟩
  match k, hk with
  | 0, hk =>
    simp only [List.getElem?_cons_zero, Option.some.injEq] at hk
    subst hk
    exact h.cell 0
  | k + 1, hk => simp at hk
theorem src_int {w : World} {g : Nat} {t : TypeId} {x : Int} (h : Blk w g t #[.int .i64 x]) : Src w 1 (.slice (some ⟨g, 0, none⟩) 1 1) 1 (iv [x]) := (Nm.one1 h).src
end Go.Proofs.Hd
namespace Go.Proofs
open Go.RowKit Go.Proofs.Hd Go.Lib Go.Shelf
attribute [local go_sem] uv_nonneg
set_option maxRecDepth 100000 in
theorem meets_c (c d : Cb) (b : Nat) (w : World) (hc : At4 w b 0 d) :
    Calls Tryz.prog 68 #[.agg #[.int .u64 (uv c.vh), .int .u64 (uv c.vl), .int .u64 (uv c.ch), .int .u64 (uv c.cl)], .pointer (some ⟨b, 0, none⟩)] w fun e w' => e = .returned (.bool (c.met d)) ∧ Below w.heap.size w w' := by
  have B0 := below1 w (.cells #[.int .u64 (uv c.vh), .int .u64 (uv c.vl), .int .u64 (uv c.ch), .int .u64 (uv c.cl)] 53)
  obtain ⟨h0, h1, h2, h3⟩ := hc.on B0
  clear hc
  cases hm : c.met d with
  | true =>
    go_enter Tryz.func68, Tryz.ntmps68
    go_wp2_with fail
    (with_reducible refine (cmeet_t _ _ _ hm).mono ?_)
    rintro e w1 ⟨rfl, hb⟩
    have L := B0.trans (hb.mono B0.size)
    have L2 := L.trans ((below1 w1 (.cells #[.int .u64 (uv (c.vh ||| d.vh)), .int .u64 (uv (c.vl ||| d.vl)), .int .u64 (uv (c.ch ||| d.ch)), .int .u64 (uv (c.cl ||| d.cl))] 53)).mono L.size)
    clear B0 hb h0 h1 h2 h3 L
    go_upto_region 2 with (fail)
    generalize (w1.alloc (.cells #[.int .u64 (uv (c.vh ||| d.vh)), .int .u64 (uv (c.vl ||| d.vl)), .int .u64 (uv (c.ch ||| d.ch)), .int .u64 (uv (c.cl ||| d.cl))] 53)) = w2 at L2 ⊢
    go_wp2
    go_ret
    exact ⟨rfl, L2⟩
  | false =>
    go_enter Tryz.func68, Tryz.ntmps68
    go_wp2_with fail
    (with_reducible refine (cmeet_f _ _ _ hm).mono ?_)
    rintro e w1 ⟨rfl, hb⟩
    have L := B0.trans (hb.mono B0.size)
    have L2 := L.trans ((below1 w1 (.cells #[.int .u64 0, .int .u64 0, .int .u64 0, .int .u64 0] 53)).mono L.size)
    clear B0 hb h0 h1 h2 h3 L
    go_upto_region 2 with (fail)
    generalize (w1.alloc (.cells #[.int .u64 0, .int .u64 0, .int .u64 0, .int .u64 0] 53)) = w2 at L2 ⊢
    go_wp2
    go_ret
    exact ⟨rfl, L2⟩
set_option maxRecDepth 100000 in
theorem leaves_c (c d : Cb) (b : Nat) (w : World) (hc : At4 w b 0 d) :
    Calls Tryz.prog 70 #[.agg #[.int .u64 (uv c.vh), .int .u64 (uv c.vl), .int .u64 (uv c.ch), .int .u64 (uv c.cl)], .pointer (some ⟨b, 0, none⟩)] w fun e w' => e = .returned (.bool (!c.wit d)) ∧ Below w.heap.size w w' := by
  have B0 := below1 w (.cells #[.int .u64 (uv c.vh), .int .u64 (uv c.vl), .int .u64 (uv c.ch), .int .u64 (uv c.cl)] 53)
  obtain ⟨h0, h1, h2, h3⟩ := hc.on B0
  clear hc
  go_enter Tryz.func70, Tryz.ntmps70
  go_wp2_with fail
  (with_reducible refine (cwithin _ c d _ rfl).mono ?_)
  rintro e w1 ⟨rfl, hb⟩
  have L := B0.trans (hb.mono B0.size)
  clear B0 hb h0 h1 h2 h3
  go_wp2
  go_ret
  exact ⟨rfl, L⟩
set_option maxHeartbeats 2000000 in
set_option maxRecDepth 100000 in
theorem parts_c (pv : Value) (p : List Cb) (c : Cb) (w : World) (hs : sndL p = true) (hc : c.snd = true) (hv : Pl w pv p) :
    Calls Tryz.prog 51 #[pv, .agg #[.int .u64 (uv c.vh), .int .u64 (uv c.vl), .int .u64 (uv c.ch), .int .u64 (uv c.cl)]] w (OptP w pv p (partP c p)) := by
  have eg1 : ∀ args w, (callFunc 68 args).run Tryz.prog w = .ok (.enter 68 args) w := enters_of Tryz.func68 (by kernel_rfl) rfl
  have eg2 : ∀ args w, (callFunc 70 args).run Tryz.prog w = .ok (.enter 70 args) w := enters_of Tryz.func70 (by kernel_rfl) rfl
  have B0 := below1 w (.cells #[.int .u64 (uv c.vh), .int .u64 (uv c.vl), .int .u64 (uv c.ch), .int .u64 (uv c.cl)] 53)
  have X0 : Blk (w.alloc (.cells #[.int .u64 (uv c.vh), .int .u64 (uv c.vl), .int .u64 (uv c.ch), .int .u64 (uv c.cl)] 53)) w.heap.size 53 c.arr := Blk.new w _ _
  have at4 : ∀ {W : World}, Blk W w.heap.size 53 c.arr → At4 W w.heap.size 0 c := fun h => ⟨h.cell 0, h.cell 1, h.cell 2, h.cell 3⟩
  have hcon1 := cont_cubes 68 #[.pointer (some ⟨w.heap.size, 0, none⟩)] (fun d => d.met c) eg1 pv p _ _ rfl (fun W d _ hb => (meets_c d c w.heap.size W (at4 (X0.on hb))).mono fun e w' h => ⟨h.1, hb.trans (h.2.mono hb.size)⟩) (hv.on B0)
  obtain ⟨P1, P3, rfl, _, _⟩ := hv.form
  have HV := Lib.hid hv
  have HS := Lib.hid hs
  have HCS := Lib.hid hc
  have HX := Lib.hid X0
  have HB0 := Lib.hid B0
  have HAT : Hid (∀ {W : World}, Blk W w.heap.size 53 c.arr → At4 W w.heap.size 0 c) := @at4
  clear hv X0 B0 hs hc at4
  by_cases h1 : p.any (fun d => d.met c) = false
  · rw [h1] at hcon1
    have hpp : Hid (partP c p = some ([], p)) := by show _ = _; unfold partP; rw [if_pos h1]
    clear h1
    go_enter Tryz.func51, Tryz.ntmps51
    go_wp2_with fail
    (with_reducible refine hcon1.mono ?_)
    rintro e w1 ⟨rfl, hb⟩
    have B1 := Lib.hid (HB0.out.trans (hb.mono HB0.out.size))
    clear hcon1 hb HX HAT
    go_wp2
    go_ret3
    exact OptP.yes hpp.out rfl (ptp_nil _ _ _ _) (.inl ⟨rfl, rfl⟩) B1.out
  have h1t : p.any (fun d => d.met c) = true := by simpa using h1
  rw [h1t] at hcon1
  have hcon2 : Hid (∀ W, Below (w.alloc (.cells #[.int .u64 (uv c.vh), .int .u64 (uv c.vl), .int .u64 (uv c.ch), .int .u64 (uv c.cl)] 53)).heap.size (w.alloc (.cells #[.int .u64 (uv c.vh), .int .u64 (uv c.vl), .int .u64 (uv c.ch), .int .u64 (uv c.cl)] 53)) W → Calls Tryz.prog 28 #[.slice P1 p.length P3, .func (.func 70) #[] #[.pointer (some ⟨w.heap.size, 0, none⟩)]] W fun e w' => e = .returned (.bool (p.any fun d => !d.wit c)) ∧ Below W.heap.size W w') := fun W0 hb0 =>
    cont_cubes 70 #[.pointer (some ⟨w.heap.size, 0, none⟩)] (fun d => !d.wit c) eg2 _ p _ _ rfl (fun W d _ hb => (leaves_c d c w.heap.size W (HAT.out ((HX.out.on hb0).on hb))).mono fun e w' h => ⟨h.1, hb.trans (h.2.mono hb.size)⟩) ((HV.out.on HB0.out).on hb0)
  by_cases h2 : p.any (fun d => !d.wit c) = false
  · rw [h2] at hcon2
    have hpp : Hid (partP c p = some (p, [])) := by show _ = _; unfold partP; rw [if_neg h1, if_pos h2]
    clear h1 h2 h1t
    go_enter Tryz.func51, Tryz.ntmps51
    go_wp2_with fail
    (with_reducible refine hcon1.mono ?_)
    rintro e w1 ⟨rfl, hb⟩
    have B1 := Lib.hid (HB0.out.trans (hb.mono HB0.out.size))
    have hcon3 := hcon2.out w1 hb
    clear hcon1 hcon2 hb HX HAT
    go_wp2_with fail
    (with_reducible refine hcon3.mono ?_)
    rintro e w2 ⟨rfl, hb⟩
    have B2 := Lib.hid (B1.out.trans (hb.mono B1.out.size))
    clear hcon3 hb B1
    go_wp2
    go_ret3
    exact OptP.yes hpp.out rfl (.inl ⟨rfl, rfl⟩) (ptp_nil _ _ _ _) B2.out
  have h2t : p.any (fun d => !d.wit c) = true := by simpa using h2
  rw [h2t] at hcon2
  have hpp : Hid (partP c p = cutP c p) := by show _ = _; unfold partP; rw [if_neg h1, if_neg h2]
  clear h1 h2 h1t h2t
  go_enter Tryz.func51, Tryz.ntmps51
  go_wp2_with fail
  (with_reducible refine hcon1.mono ?_)
  rintro e w1 ⟨rfl, hb⟩
  have B1 := Lib.hid (HB0.out.trans (hb.mono HB0.out.size))
  have X1 := Lib.hid (HX.out.on hb)
  have hcon3 := hcon2.out w1 hb
  clear hcon1 hcon2 hb HX HB0
  go_wp2_with fail
  (with_reducible refine hcon3.mono ?_)
  rintro e w2 ⟨rfl, hb⟩
  have B2 := Lib.hid (B1.out.trans (hb.mono B1.out.size))
  have X2 := Lib.hid (X1.out.on hb)
  obtain ⟨x0, x1, x2, x3⟩ := HAT.out X2.out
  have b3 := below1 w2 (.cells #[.int .u64 (uv c.vh), .int .u64 (uv c.vl), .int .u64 (uv c.ch), .int .u64 (uv c.cl)] 53)
  have N3 : Blk (w2.alloc (.cells #[.int .u64 (uv c.vh), .int .u64 (uv c.vl), .int .u64 (uv c.ch), .int .u64 (uv c.cl)] 53)) w2.heap.size 53 c.arr := Blk.new w2 _ _
  have B3 := Lib.hid (B2.out.trans (b3.mono B2.out.size))
  have X3 := Lib.hid (X2.out.on b3)
  have hmeet := pmeet_any _ (.slice (some ⟨w2.heap.size, 0, none⟩) 1 1) p [c] _ (HV.out.on B3.out) (pl_one N3) HS.out (one_sndL HCS.out)
  clear hcon3 hb B1 X1 b3 N3 B2 X2
  go_wp2_with fail
  (with_reducible refine hmeet.mono ?_)
  rintro e w4 hm
  cases hme : meP c p with
  | none =>
    obtain ⟨rfl, hb⟩ := hm.2 hme
    have B4 := Lib.hid (B3.out.trans (hb.mono B3.out.size))
    have hcn : Hid (cutP c p = none) := by show _ = _; unfold cutP; rw [hme]
    clear hmeet hm hb x0 x1 x2 x3 X3 B3 hme
    go_wp2
    go_ret3
    exact OptP.no (hpp.out.trans hcn.out) rfl B4.out
  | some m =>
    obtain ⟨vm, rfl, hO, hb⟩ := hm.1 m hme
    have B4 := Lib.hid (B3.out.trans (hb.mono B3.out.size))
    have X4 := Lib.hid (X3.out.on hb)
    have O4 : Hid (w4.ownsRow w.heap.size 53 4 vm m.length (flat m)) := World.ownsRow.mono hO B3.out.size
    obtain ⟨x0, x1, x2, x3⟩ := HAT.out X4.out
    have b5 := below1 w4 (.cells #[.int .u64 (uv c.vh), .int .u64 (uv c.vl), .int .u64 (uv c.ch), .int .u64 (uv c.cl)] 53)
    have N5 : Blk (w4.alloc (.cells #[.int .u64 (uv c.vh), .int .u64 (uv c.vl), .int .u64 (uv c.ch), .int .u64 (uv c.cl)] 53)) w4.heap.size 53 c.arr := Blk.new w4 _ _
    have B5 := Lib.hid (B4.out.trans (b5.mono B4.out.size))
    have O5 : Hid ((w4.alloc (.cells #[.int .u64 (uv c.vh), .int .u64 (uv c.vl), .int .u64 (uv c.ch), .int .u64 (uv c.cl)] 53)).ownsRow w.heap.size 53 4 vm m.length (flat m)) := own_on O4.out b5
    have hless := pless_any _ (.slice (some ⟨w4.heap.size, 0, none⟩) 1 1) p [c] _ (HV.out.on B5.out) (pl_one N5) HS.out (one_sndL HCS.out)
    have HME := Lib.hid hme
    clear hmeet hm hb X3 B3 b5 N5 X4 B4 O4 hO hme
    go_wp2_with fail
    (with_reducible refine hless.mono ?_)
    rintro e w6 hm
    cases hle : leP c p with
    | none =>
      obtain ⟨rfl, hb⟩ := hm.2 hle
      have B6 := Lib.hid (B5.out.trans (hb.mono B5.out.size))
      have hcn : Hid (cutP c p = none) := by show _ = _; unfold cutP; rw [hle, HME.out]
      clear hless hm hb x0 x1 x2 x3 B5 O5 hle
      go_wp2
      go_ret3
      exact OptP.no (hpp.out.trans hcn.out) rfl B6.out
    | some l =>
      obtain ⟨vl, rfl, hO, hb⟩ := hm.1 l hle
      have B6 := Lib.hid (B5.out.trans (hb.mono B5.out.size))
      have O6 : Hid (w6.ownsRow w.heap.size 53 4 vm m.length (flat m)) := own_on O5.out hb
      have L6 : Hid (w6.ownsRow w.heap.size 53 4 vl l.length (flat l)) := World.ownsRow.mono hO B5.out.size
      have hcn : Hid (cutP c p = some (m, l)) := by show _ = _; unfold cutP; rw [hle, HME.out]
      clear hless hm hb x0 x1 x2 x3 B5 O5 hle hO
      go_wp2
      go_ret3
      exact OptP.yes (hpp.out.trans hcn.out) rfl (.inr O6.out) (.inr L6.out) B6.out
set_option maxHeartbeats 2000000 in
set_option maxRecDepth 100000 in
theorem of_c (v : Value) (al : List AtC) (id : Int) (w : World) (hl : al.length ≤ 1000000) (hi : ∀ a ∈ al, a.ids.length ≤ 4611686018427387904) (hv : At w v al) : Calls Tryz.prog 18 #[v, .int .i64 id] w (GotO w (ofL al id al.length)) := by
  obtain ⟨ic, hic, hcz0, hcz1, hcz2⟩ := info_parts info_int
  obtain ⟨A, cap, rfl, hlen, hA⟩ := hv.form
  have hlz : (al.length : Int) ≤ 1000000 := by omega
  have HA := Lib.hid hA
  have HI := Lib.hid hi
  clear hA hi hv hlen
  go_enter Tryz.func18, Tryz.ntmps18
  go_wp2
  go_loopg [5, 6, 10] al.length (fun gk s5 _ s10 wr => ∃ k : Nat, k ≤ al.length ∧ gk = al.length - k ∧ s10 = .int .i64 k ∧ Hid (Below w.heap.size w wr) ∧ Hid (wr.ownsRow w.heap.size 3 1 s5 (ofL al id k).length (iv (ofL al id k))))
  case atStart => exact ⟨0, Nat.zero_le _, rfl, rfl, Below.refl _ _, World.ownsRow_nil _ _ _ _⟩
  case round =>
    obtain ⟨k, hk, rfl, rfl, HB, HO⟩ := hrel
    by_cases hlt : k < al.length
    · have hltz : (k : Int) < (al.length : Int) := by omega
      obtain ⟨a, ha⟩ : ∃ a, al[k]? = some a := ⟨_, List.getElem?_eq_getElem hlt⟩
      obtain ⟨b, off, rfl, hb, hc⟩ := HA.out (ne_nil_of ha)
      obtain ⟨I1, I2, I3, P1, P2, P3, ⟨c0, c1, c2, c3⟩, hN, -, -, -⟩ := ((hc k a ha).on (w' := wr) HB.out).cells
      have b1 := below1 wr (.cells #[.slice I1 I2 I3, .int .u64 (uv a.hd.1), .int .u64 (uv a.hd.2), .slice P1 P2 P3] 42)
      have B1 := Lib.hid (HB.out.trans (b1.mono HB.out.size))
      have O1 := Lib.hid (own_on HO.out b1)
      have hcon := idhas_c _ a.ids id _ (HI.out a (List.mem_of_getElem? ha)) (hN.on b1)
      have HS := Lib.hid (ofL_succ (id := id) ha)
      have hfl := Lib.hid (ofL_len al id k)
      clear ha hc hN HB HO b1
      by_cases hin : id ∈ a.ids
      · rw [decide_eq_true hin] at hcon
        have HS2 : Hid (ofL al id (k + 1) = ofL al id k ++ [(k : Int)]) := by show _ = _; rw [HS.out, if_pos hin]
        clear hin HS
        go_wp2_with fail
        (with_reducible refine hcon.mono ?_)
        rintro e w2 ⟨rfl, rfl⟩
        clear hcon c0 c1 c2 c3
        go_upto_region 6 with (fail)
        generalize (wr.alloc (.cells #[.slice I1 I2 I3, .int .u64 (uv a.hd.1), .int .u64 (uv a.hd.2), .slice P1 P2 P3] 42)) = w3 at B1 O1 ⊢
        have b4 := below1 w3 (.cells #[.int .i64 (k : Int)] 3)
        have N4 : Blk (w3.alloc (.cells #[.int .i64 (k : Int)] 3)) w3.heap.size 3 #[.int .i64 (k : Int)] := Blk.new w3 _ _
        have B4 := B1.out.trans (b4.mono B1.out.size)
        have O4 := own_on O1.out b4
        have S4 := src_int N4
        have hz := B4.size
        have hf := hfl.out
        generalize hFF : ofL al id k = F at O4 HS2 hf
        clear B1 O1 b4 N4 hfl
        go_wp2_with (at_builtin; refine wpList_app _ rfl (.tmp 19) (.tmp 21) 36 rfl w.heap.size 3 ic _ 1 8 Tryz.underlying36 hic hcz0 hcz1 hcz2 rfl (by decide) _ F.length (iv F) rfl O4 _ 1 (iv [(k : Int)]) rfl S4 (by unfold maxLen; omega) (by omega) hz ?_)
        intro v5 w5 O5 hg5
        have B5 := Lib.hid (B4.grown hg5 hz (fun j hj => (O4.lt j hj).1))
        have O6 : Hid (w5.ownsRow w.heap.size 3 1 v5 (ofL al id (k + 1)).length (iv (ofL al id (k + 1)))) := by
          show World.ownsRow _ _ _ _ _ _ _
          rw [HS2.out, ← iv_app, List.length_append]
          exact O5
        clear B4 O4 S4 hg5 O5 hz hf hFF HS2
        go_wp2
        go_roundg (al.length - (k + 1))
        case measure => omega
        case rel => exact ⟨k + 1, by omega, rfl, by go_num, B5, O6⟩
      · rw [decide_eq_false hin] at hcon
        have HS2 : Hid (ofL al id (k + 1) = ofL al id k) := by show _ = _; rw [HS.out, if_neg hin, List.append_nil]
        clear hin HS
        go_wp2_with fail
        (with_reducible refine hcon.mono ?_)
        rintro e w2 ⟨rfl, rfl⟩
        clear hcon c0 c1 c2 c3
        go_wp2
        go_roundg (al.length - (k + 1))
        case measure => omega
        case rel => exact ⟨k + 1, by omega, rfl, by go_num, B1, by rw [HS2.out]; exact O1⟩
    · have hltz : ¬ (k : Int) < (al.length : Int) := by omega
      obtain rfl : k = al.length := by omega
      go_wp2
      go_ret
      exact ⟨_, rfl, HO.out, HB.out⟩
end Go.Proofs
